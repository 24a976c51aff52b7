import PyProof.Rows.All
import Wide.All
import OpenK.AllK
import Wide.FinOn
import PyProof.EqAt
import PyProof.EqKinds
import PyProof.TupleCall
import KE.BitLaws
import Open.SpecLaws
import KE.OsHead
import KE.OsGo
import PyProof.P3In
import PyProof.Rows.SortShellAny
import KE.KSortTupG
import KE.KSortKeyAny
import PyProof.Rows.SetFrom
import KE.KDictSum
import VbedakSpec
import PyProof.MinMaxWalk
import PyProof.PureInt
import PyProof.Methods
import PyProof.EnumStmt
import PySem.Challenge.RW0_knownwhendesk_s01_answers
import VbedakNeutral
import PyVbedak
import PyFlatLaws
import PySem.Challenge.RW_knownwhendesk_s01_answers
open Array renaming length_toList->E1,getElem?_eq_getElem->IU,getElem?_toList->J5,getD_eq_getD_getElem?->dI,getElem?_eq_none->dJ,getElem?_eq_some_iff->dM,toArray_toList->dN,toList->dO,toList_push->dP
open Bool renaming false_ne_true->Bw,and_eq_true->CB,false_eq_true->Cg,true_eq_false->E9,noConfusion->Fl,eq_iff_iff->Gz,false_and->G0,true_and->G3,not_eq_false->LB,and_false->Oa,not_true->Ob,or_eq_true->Oc,and_true->W5,and_self->dQ,or_false->dR
open Int renaming toNat_natCast->IY,toNat_of_nonneg->JV,toNat->XA,zero_add->XB
open List renaming length_map->AR,mem_cons->BK,length_cons->BO,length_append->BZ,map_append->Ba,mem_cons_self->Bl,mem_cons_of_mem->B2,getElem?_map->CM,map_cons->CP,range->Ca,size_toArray->Cp,length_take->Ct,mem_append_right->DM,take_of_length_le->DN,getElem?_eq_getElem->DU,mem_singleton->DZ,mem_map->Dc,map_map->Dq,pairwise_cons->Dr,filter_cons_of_neg->Dv,filter_nil->Dx,length->D6,length_nil->D7,mem_append->D8,append_nil->EG,filter_append->Ef,filter_cons_of_pos->Eg,foldl_cons->FV,length_singleton->FW,getElem?_eq_some_iff->Fo,getD_eq_getElem?_getD->Gg,length_filter_le->Gh,mem_of_getElem?->G7,append_assoc->Ha,length_eq_zero_iff->Hb,mem_append_left->Ht,mem_filter->Ia,nodup_cons->Ib,map_congr_left->JW,mem_range->JX,any_cons->KH,map->KJ,map_nil->KL,length_zip->LM,lookup->LN,range_succ_eq_map->LP,take_length->LQ,all_eq_true->MY,concat_eq_append->MZ,filterMap_cons_some->Ma,getElem?_of_mem->Mb,length_drop->Md,length_range->Mf,lookup_cons->Mg,map_drop->Mh,all_map->Om,find?_cons->Oo,flatten_cons->Oq,getElem?_append_right->Ot,take_zero->Ou,cons_ne_nil->Se,drop_succ_cons->Sf,foldl_append->Sg,isEmpty_nil->Sh,range_succ->Sj,all_cons->XE,any_map->XF,filterMap_map->XG,getElem?_append_left->XH,getElem?_eq_none->XI,getElem?_range->XJ,getElem?_zip_eq_some->XM,map_take->XO,nodup_nil->XQ,not_mem_nil->XR,of_mem_zip->XS,pairwise_map->XT,take_add_one->XU,zip_cons_cons->XW,cons_append->dz,eq_nil_or_concat->d3,filterMap_cons->d4,filterMap_cons_none->d5,find?_cons_of_neg->d6,find?_cons_of_pos->d7,flatMap_def->d8,foldl_map->d9,getElem?_cons_zero->eA,getElem?_set_ne->eB,getElem?_set_self->eD,getLast?_concat->eF,nil_append->eG,sum_cons->eK,zip_nil_left->eL,zip_nil_right->eM
open List.Pairwise renaming nil->LJ,sublist->dv
open List.Perm renaming refl->LK,swap->dw
open Nat renaming le_refl->Aj,le_trans->BP,zero_le->Ci,ne_of_lt->C4,lt_of_lt_of_le->E3,lt_of_le_of_lt->Fp,le_succ->Gi,lt_succ_of_lt->G8,lt_irrefl->Hc,lt_succ_self->Hu,le_of_lt->Ic,le_of_eq->JZ,le_add_right->KP,zero_add->LR,ne_of_gt->Mi,lt_or_ge->Ow,min_eq_left->Ox,not_lt_zero->Oy,sub_self->Oz,le_of_succ_le->XY,le_succ_of_le->XZ,lt_trans->Xa,not_lt->Xb,le_antisymm->eO,min_le_right->eP,min_self->eQ,strongRecOn->eR
open Option renaming map_some->Xd,none->Xe,isSome_map->eU
open Option.some renaming inj->CL
open Or renaming inl->Ad,inr->KQ
open Prod renaming fst->O2,snd->Sv
open PyProof.Rows renaming seqObj->Bu,IntsAre->Du,size_push'->ML,callWith_type1->Sw,listUpdate_at->Ua,Subscript_->Xo,get?_update_seq->Yt,listItems_at->Zr,Constant_none->dU,boot_all->eZ,boot_sorted->eh,kws_cons->e8,kws_nil->e9,boot_range->gh,chain_link->hJ
open PyProof.Rows.F renaming plain_set_update_loop->eY
open PySem renaming Addr->AA,Value->AF,Str->AG,Shared->AI,wpAny_bind->AJ,wpAny->AU,model->AY,sizeLine->AZ,Heap->Ae,wpAny_pure->Ai,World->Am,Obj->Aq,Paired->Ar,Stmt->Au,Program->Av,Expr->Az,FuncData->A2,Around->Bf,starEach->Bo,Pos->Bt,Env->Dh,sizeLine_eq->Dn,compareOp->D0,Scope->EJ,Builtin->Ed,Sem->Eo,sliceBounds->Ez,Tok->E4,wpAny_mono->FR,NameKind->F1,boot_len->F3,sysModules->Gb,DictEntry->Gf,intKind->Gj,mem_of_lookup->Gk,keywordEach->Gs,wpAny_call_entry->HS,wpAny_holding->HV,SetTable->Hf,mainGlobals->Hm,wpAny_newObj_type->Hq,wpAny_truthy_bool->IP,IsEnum->IZ,CmpOp->JS,codeAny_builtin->Jd,codeAny_mono->KZ,plainId_quiet->Kt,wpAny_Call_Name_kw->K5,wpAny_attempt->K6,wpAny_callSpecial?_slot->MQ,wpAny_setField->MR,wpAny_passesOwn->OW,wpAny_pyIter_list->OX,wpAny_field->SG,wpAny_fieldsOf->SJ,wpAny_letGo->SK,wpAny_of_eq->SM,wpAny_setState_of->SN,wpAny_tryCatch->SQ,wpAny_call->Wt,wpAny_isInstance->Wu,wpAny_rule->Wv,wpAny_seqItems->Ww,wpAny_setEntries_of->Wx,wpAny_setField_rec->Wy,wpAny_updateSeq->Wz,Within->Xk,codeAny_call_builtin->YC,fits_of_scanBound->Ya,intKind_is->Zf,isSubtype_stop->Zj,pushCells_keeps->aJ,tupleKind_room_in1->cy,wpAny_execs_nil->c7,wpAny_pyIter_slot->dA,wpAny_typeNameOfWhole_keyiter->dB,wpAny_typeNameOf_keyiter->dC,Fin->fM,codeAny_of_tree->iF,isSubtype_type->lD,slot_list_getitem->ox,typeIs_int->pf,wpAny_Name->qB,wpAny_askSetting->qC,wpAny_dictEntries->qD,wpAny_dictEpoch->qE,wpAny_handled->qF,wpAny_ite_split->qG,wpAny_newList->qH,wpAny_newTuple->qI,wpAny_setEpoch_of->qJ,wpAny_standAt->qK,wpAny_throw->qL
open PySem.Around renaming under_plainId->K9
open PySem.Data renaming seq->SX
open PySem.F renaming plainAttrs_list->F2,slot_list_append->Hd,type_list_append->He,plain_min_loop->MS,slot_dict_keyiterator_next->Od,slot_enumerate_next->W6,slot_list_extend->Xg,entry_min_loop->dW,type_list_extend->fG
open PySem.Heap renaming lt_size->Bs,get?_push_of_some->Bz,get?_push_size->Ck,size_push->FA,SameBut->Fn,get?_update_other->JT,get?_update_self->MV,ExtBut->W8
open PySem.Heap.SameBut renaming update->G6
open PySem.Obj renaming mapSeq->DP,mapFields->Sl,putSet->Sn,data_mapFields->eS
open PySem.Str renaming ofString->Eh
open PySem.Value renaming ref->Cv,type->F4,none->Gn,bool->Mp,int->Mq,str->S0
open PySem.W renaming Frag->AW,mg_of->CF,WData->Dz,keepIn->D9,findIn->Ie,fnOf->Ig,mg_none_of->Ih,emptyDict->KR,instObj->LV,codeIn->O3,isFn->Sx,callWith_K->Xh,lookIn->Xi,plainGet->Xj,hasDictIn->fO,makesIn->fP,methodCall_KW->fR,methodObj->fZ,plainGet_of->fb,takerIn->fc
open PyVbedak renaming shape->KS,answers->Xl,whole->Xm,answers_asked->fe
open Sum renaming inr->B7,inl->Di
open Sum.inl renaming inj->Xp
open Sum.inr renaming inj->Mm
open Vbedak renaming value->A3,okC->A6,okK->Bx,centre->CZ,inR->Cb,step->Cd,ans->Cj,okW->DV,start->Ds,has->Dy,okV->EK,okM->Ei,receive->FD,cutsWith->FZ,written->Fb,cuts->F5,line->F6,told->F7,corrections->Hx,setCentre->Hy,Centre->IV,hidden->Ik,changes->LZ,shownEntry->La,changesOut->Mr,pairsOut->Ms,stampOf->Mt,Change->S3,before->S4,sinceTick->Xs,Paint->fi,covers->fj
set_option Elab.async false
set_option linter.all false
set_option maxRecDepth 100000
namespace L2
open PySem PySem.Spec PyProof.Rows
abbrev Key:=Sum Int AG
def Jp:Key->AF->Bool
 | .inl k,v=>Value.isInt k v
 | .inr x,v=>Value.isStrOf x v
def yq (w:Am):Key->Int
 | .inl k=>hashInt k
 | .inr x=>hashStr w x
theorem JC:∀{k:Key} {v:AF},Jp k v=true->(∃i t,k=Di i/\v=Mq i t)\/(∃x t,k=B7 x/\v=S0 x t)
 | .inl i,v,h=>by
  obtain⟨t,e⟩:=Value.isInt_shape (k:=i) (v:=v) h
  exact .inl ⟨i,t,rfl,e⟩
 | .inr x,v,h=>by
  obtain⟨t,e⟩:=Value.isStrOf_shape (x:=x) (v:=v) h
  exact .inr ⟨x,t,rfl,e⟩
theorem yr (i:Int) (t:E4):Jp (.inl i) (.int i t)=true:=by simp[Jp,Value.isInt]
theorem yt (x:AG) (t:E4):Jp (.inr x) (.str x t)=true:=by simp[Jp,Value.isStrOf]
theorem yu (a b:Int):decide ((Di a:Key)=Di b)=(a==b):=by
 by_cases e:a=b
 . subst e;simp
 . have h:¬(Di a:Key)=Di b:=fun q=>e (Xp q)
   rw[decide_eq_false h]
   exact (beq_eq_false_iff_ne.mpr e).symm
theorem yz (a b:AG):decide ((B7 a:Key)=B7 b)=decide (a=b):=by
 by_cases e:a=b
 . subst e;simp
 . have h:¬(B7 a:Key)=B7 b:=fun q=>e (Mm q)
   rw[decide_eq_false h,decide_eq_false e]
theorem yw (a:Int) (b:AG):decide ((Di a:Key)=B7 b)=false:=decide_eq_false (fun q=>nomatch q)
theorem yx (a:AG) (b:Int):decide ((B7 a:Key)=Di b)=false:=decide_eq_false (fun q=>nomatch q)
def EZ (prog:Av) (w:Am):PySem.KeyKind prog w Key where
 is:=Jp
 hash:=yq w
 inj:=fun v a b ha hb=>by
  rcases JC ha with ⟨i,t,rfl,rfl⟩ | ⟨x,t,rfl,rfl⟩
  . rcases JC hb with ⟨j,u,rfl,e⟩ | ⟨y,u,rfl,e⟩
    . injection e with e1 _;rw[e1]
    . exact nomatch e
  . rcases JC hb with ⟨j,u,rfl,e⟩ | ⟨y,u,rfl,e⟩
    . exact nomatch e
    . injection e with e1 _;rw[e1]
 byValue:=fun k v h=>by
  rcases JC h with ⟨i,t,rfl,rfl⟩ | ⟨x,t,rfl,rfl⟩ <;> rfl
 pyHash:=fun hv h=>by
  rcases JC hv with ⟨i,t,rfl,rfl⟩ | ⟨x,t,rfl,rfl⟩
  . exact wpAny_pyHash_int h
  . exact wpAny_pyHash_str h
 eqBool:=fun hu hv h=>by
  rcases JC hu with ⟨i,t,rfl,rfl⟩ | ⟨x,t,rfl,rfl⟩
  . rcases JC hv with ⟨j,u,rfl,rfl⟩ | ⟨y,u,rfl,rfl⟩
    . rw[yu] at h;exact wpAny_eqBool_int h
    . rw[yw] at h;exact SeqAt.EqAt.int_str i t y u _ _ _ _ h
  . rcases JC hv with ⟨j,u,rfl,rfl⟩ | ⟨y,u,rfl,rfl⟩
    . rw[yx] at h;exact SeqAt.EqAt.str_int x t j u _ _ _ _ h
    . rw[yz] at h;exact wpAny_eqBool_str h
 «strs»:=fun k x t v h=>by
  rcases JC h with ⟨i,u,rfl,e⟩ | ⟨y,u,rfl,e⟩
  . exact nomatch e
  . injection e with e1 _
    subst e1
    cases v <;> rfl
theorem AAB (prog:Av) (w:Am) (i:Int) (t:E4):(EZ prog w).is (.inl i) (.int i t)=true:=yr i t
theorem AAC (prog:Av) (w:Am) (x:AG) (t:E4):(EZ prog w).is (.inr x) (.str x t)=true:=yt x t
inductive V where
 | non | bl (b:Bool) | int (i:Int) | str (x:AG) | Fd (b:Array UInt8) | flt (b:UInt64) | ref (a:AA) | ty (n:String)
 deriving DecidableEq
def RelV:V->AF->Prop
 | .non,u=>u=Gn
 | .bl b,u=>u=Mp b
 | .int i,u=>∃t,u=Mq i t
 | .str x,u=>∃t,u=S0 x t
 | .Fd b,u=>∃t,u=Value.bytes b t
 | .flt b,u=>∃t,u=Value.float b t
 | .ref a,u=>u=Cv a
 | .ty n,u=>u=F4 n
abbrev Vals:List V->List AF->Prop:=Ar RelV
theorem Vals.length {xs:List V} {us:List AF} (r:Vals xs us):xs.length=us.length:=Paired.length r
theorem Vals.get:∀{xs:List V} {us:List AF} {i:Nat} {x:V},Vals xs us->xs[i]? =some x->∃u,us[i]? =some u/\RelV x u
 | _,_,_,_,.nil,e=>by simp at e
 | _,_,0,_,.cons r _,e=>by simp at e;subst e;exact⟨_,rfl,r⟩
 | _,_,i+1,x,.cons _ t,e=>by
  obtain⟨u,h1,h2⟩:=Vals.get (i:=i) (x:=x) t (by simpa using e)
  exact⟨u,by simpa using h1,h2⟩
theorem Vals.append:∀{xs ys:List V} {us ws:List AF},Vals xs us->Vals ys ws->Vals (xs++ys) (us++ws)
 | _,_,_,_,.nil,s=>s
 | _,_,_,_,.cons r t,s=>.cons r (Vals.append t s)
theorem Vals.take:∀{xs:List V} {us:List AF} (n:Nat),Vals xs us->Vals (xs.take n) (us.take n)
 | _,_,0,_=>.nil
 | _,_,_+1,.nil=>.nil
 | _,_,n+1,.cons r t=>.cons r (Vals.take n t)
theorem Vals.drop:∀{xs:List V} {us:List AF} (n:Nat),Vals xs us->Vals (xs.drop n) (us.drop n)
 | _,_,0,r=>r
 | _,_,_+1,.nil=>.nil
 | _,_,n+1,.cons _ t=>Vals.drop n t
theorem Vals.none_of:∀{xs:List V} {us:List AF} {i:Nat},Vals xs us->xs[i]? =none->us[i]? =none:=fun {xs us i} r e=>by
 have h1:=r.length
 have h2:xs.length<=i:=List.getElem?_eq_none_iff.mp e
 exact List.getElem?_eq_none_iff.mpr (by lia)
def FX:Option V->Option AF->Prop
 | some v,some u=>RelV v u
 | none,none=>True
 | _,_=>False
def KV {κ:Type}:List (κ×V)->List (κ×AF)->Prop:=Ar fun (p:κ×V) (q:κ×AF)=>p.1=q.1/\RelV p.2 q.2
def kV:Key->V
 | .inl i=>.int i
 | .inr x=>.str x
inductive HO where
 | lst (xs:List V)
 | tup (xs:List V)
 | dK (kvs:List (Key×V)) | dT (kvs:List (List Key×V))
 | set (S:Int->Bool) (n:Nat)
 | ins (C dx:AA) (fs:List (AG×V))
 | own (x:AA)
 | xd (fs:List (AG×V))
 | met (f x:AA)
 | aU (lo hi:Int)
 | CG (o:Aq) (u:HO)
 | MN (ps:Array AF)
 | ext (φ:Ae->Prop)
abbrev Hp:=AA->Option HO
def upd (H:Hp) (a:AA) (o:HO):Hp:=fun b=>if b=a then some o else H b
theorem AO {H:Hp} {a:AA} {o:HO}:upd H a o a=some o:=by unfold upd;rw[if_pos rfl]
theorem AV {H:Hp} {a b:AA} {o:HO} (h:b≠a):upd H a o b=H b:=by unfold upd;rw[if_neg h]
theorem FQ {H:Hp} {a:AA} {o u:HO}:upd (upd H a o) a u=upd H a u:=by
 funext b;unfold upd;split <;> rfl
theorem B9 {H:Hp} {a b:AA} {o u:HO} (h:H a=some o) (h':H b=some u) (d:o≠u):a≠b:=by
 intro e;subst e;rw[h] at h';exact d (CL h')
theorem BF {H:Hp} {a b:AA} {o:HO} (h:H a=some o) (h':H b=none):a≠b:=by
 intro e;subst e;rw[h] at h';cases h'
section
variable (P:Av) (w:Am)
def DB (H:Hp) (h:Ae) (a:AA):HO->Prop
 | .lst xs=>xs.length<=AZ/\∃(AB:List AF) (n:Nat),Vals xs AB/\h.get? a=some { cls:=.type "list",data:=.seq AB.toArray n }
 | .tup xs=>xs.length<=AZ/\∃AB:List AF,Vals xs AB/\IsTup h a AB.toArray
 | .dK kvs=>kvs.length<=AZ/\(a==Gb)=false/\∃vs,KV kvs vs/\h.DictOf (EZ P w) a vs
 | .dT kvs=>kvs.length<=AZ/\(a==Gb)=false/\∃xs:List (List Key×AA×AF),
  Ar (fun (p:List Key×V) (q:List Key×AA×AF)=>p.1=q.1/\H q.2.1=some (.tup (p.1.map kV))/\RelV p.2 q.2.2) kvs xs/\
  ∃o es ep,h.get? a=some o/\o.ExactDict/\o.data= .dict es ep/\es.toList=xs.map (entryOfKey (tupleKind (EZ P w)))/\(xs.map (·.1)).Nodup
 | .set S n=>h.SetOf (intKind P w) a S n
 | .ins C dx fs=>H dx=some (.own a)/\fs.length<=1000/\dx≠a/\h.get? a=some (LV C dx)/\
  ∃mA,h.Ns1 dx mA/\(∀f,FX (fs.lookup f) (mA f))/\Xk mA (fs.map (·.1))
 | .own _=>∃o,h.get? a=some o
 | .xd fs=>∃mA,h.Ns1 a mA/\∀f,FX (fs.lookup f) (mA f)
 | .aU lo hi=>∃t u v,h.get? a=some { cls:=.type "range",data:=.fields #[.int lo t,.int hi u,.int 1 v] }
 | .CG o u=>h.get? a=some o/\DB H h a u
 | .MN ps=>h.get? a=some { cls:=.none,data:=.fields ps }
 | .met f x=>h.get? a=some (fZ (.ref f) (.ref x))
 | .ext φ=>φ h/\(∃o,h.get? a=some o)/\∀h1 h2:Ae,φ h1->(∀o,h1.get? a=some o->h2.get? a=some o)->φ h2
def C0 (H:Hp) (h:Ae):Prop:=∀a o,H a=some o->DB P w H h a o
end
section
variable {P:Av} {w:Am} {H H':Hp} {h h':Ae} {a:AA} {o:HO}
theorem DB.lt (x:DB P w H h a o):a < h.objs.size:=by
 cases o with
 | lst xs=>obtain⟨_,_,_,_,e⟩:=x;exact Bs e
 | tup xs=>obtain⟨_,_,_,p⟩:=x;exact p.lt
 | dK kvs=>obtain⟨_,_,_,_,o,_,_,e,_⟩:=x;exact Bs e
 | dT kvs=>obtain⟨_,_,_,_,o,_,_,e,_⟩:=x;exact Bs e
 | set S n=>obtain⟨o,_,_,_,e,_⟩:=x;exact Bs e
 | ins C dx fs=>obtain⟨_,_,_,e,_⟩:=x;exact Bs e
 | own y=>obtain⟨_,e⟩:=x;exact Bs e
 | xd fs=>obtain⟨_,⟨_,_,_,e,_⟩,_⟩:=x;exact Bs e
 | aU lo hi=>obtain⟨_,_,_,e⟩:=x;exact Bs e
 | CG ob u=>obtain⟨e,_⟩:=x;exact Bs e
 | MN ps=>exact Bs (show h.get? a=some _ from x)
 | met f y=>exact Bs (show h.get? a=some _ from x)
 | ext φ=>obtain⟨_,⟨_,e⟩,_⟩:=x;exact Bs e
theorem Paired.Be {α β:Type} {F G:α->β->Prop}:∀{l₁:List α} {l₂:List β},Ar F l₁ l₂->(∀a b,F a b->G a b)->Ar G l₁ l₂
 | _,_,.nil,_=>.nil
 | _,_,.cons r t,f=>.cons (f _ _ r) (Paired.Be t f)
theorem DB.stay (x:DB P w H h a o) (k:∀b u,(b=a\/H b=some (.own a))->h.get? b=some u->h'.get? b=some u)
 (ho:∀b,H b=some (.own a)->H' b=some (.own a)) (ht:∀b xs,H b=some (.tup xs)->H' b=some (.tup xs)):DB P w H' h' a o:=by
 induction o with
 | lst xs=>obtain⟨z,AB,n,r,e⟩:=x;exact⟨z,AB,n,r,k _ _ (.inl rfl) e⟩
 | tup xs=>obtain⟨z,AB,r,ob,e,c⟩:=x;exact⟨z,AB,r,ob,k _ _ (.inl rfl) e,c⟩
 | dK kvs=>obtain⟨z,y,vs,r,ob,es,ep,e,c⟩:=x;exact⟨z,y,vs,r,ob,es,ep,k _ _ (.inl rfl) e,c⟩
 | dT kvs=>
  obtain⟨z,y,xs,r,ob,es,ep,e,c⟩:=x
  exact⟨z,y,xs,Paired.Be r fun p q z=>⟨z.1,ht _ _ z.2.1,z.2.2⟩,ob,es,ep,k _ _ (.inl rfl) e,c⟩
 | set S n=>obtain⟨ob,es,ep,t,e,c⟩:=x;exact⟨ob,es,ep,t,k _ _ (.inl rfl) e,c⟩
 | ins C dx fs=>
  obtain⟨d,z,ne,e,mA,⟨od,es,ep,e2,c⟩,r⟩:=x
  exact⟨ho _ d,z,ne,k _ _ (.inl rfl) e,mA,⟨od,es,ep,k _ _ (.inr d) e2,c⟩,r⟩
 | own y=>obtain⟨ob,e⟩:=x;exact⟨ob,k _ _ (.inl rfl) e⟩
 | xd fs=>obtain⟨mA,⟨od,es,ep,e,c⟩,r⟩:=x;exact⟨mA,⟨od,es,ep,k _ _ (.inl rfl) e,c⟩,r⟩
 | aU lo hi=>obtain⟨t,u,v,e⟩:=x;exact⟨t,u,v,k _ _ (.inl rfl) e⟩
 | CG ob u ih=>obtain⟨e,q⟩:=x;exact⟨k _ _ (.inl rfl) e,ih q⟩
 | MN ps=>
  have e:h.get? a=some { cls:=.none,data:=.fields ps }:=x
  show h'.get? a=some { cls:=.none,data:=.fields ps }
  exact k a _ (.inl rfl) e
 | met f y=>
  have e:h.get? a=some (fZ (.ref f) (.ref y)):=x
  show h'.get? a=some (fZ (.ref f) (.ref y))
  exact k a _ (.inl rfl) e
 | ext φ=>obtain⟨p,⟨o,e⟩,st⟩:=x;exact⟨st _ _ p fun o q=>k _ _ (.inl rfl) q,⟨o,k _ _ (.inl rfl) e⟩,st⟩
theorem C0.lt (x:C0 P w H h) (e:H a=some o):a < h.objs.size:=(x a o e).lt
theorem C0.fresh (x:C0 P w H h) (e:h.objs.size<=a):H a=none:=by
 cases q:H a with
 | none=>rfl
 | some u=>exact absurd (E3 (x.lt q) e) (Hc _)
theorem C0.kept (x:C0 P w H h) (k:∀b u,h.get? b=some u->h'.get? b=some u):C0 P w H h':=fun a o e=>
 (x a o e).stay (fun b u _ q=>k b u q) (fun _ q=>q) fun _ _ q=>q
theorem C0.laid (x:C0 P w H h) (k:∀b u,h.get? b=some u->h'.get? b=some u) (hp:h.objs.size<=a) (new:DB P w (upd H a o) h' a o):C0 P w (upd H a o) h':=fun b u e=>by
 have hn:=x.fresh hp
 by_cases hb:b=a
 . subst hb;rw[AO] at e;cases e;exact new
 . rw[AV hb] at e
   exact (x b u e).stay (fun c v _ q=>k c v q) (fun c q=>by rw[AV (BF q hn)];exact q) fun c xs q=>by rw[AV (BF q hn)];exact q
end
def Rd (H:Hp) (a:AA) (u:HO):Prop:=H a=some u\/ ∃o,H a=some (.CG o u)
theorem Rd.ok {P:Av} {w:Am} {H:Hp} {h:Ae} {a:AA} {u:HO} (r:Rd H a u) (x:C0 P w H h):DB P w H h a u:=by
 rcases r with r | ⟨o,r⟩
 . exact x a u r
 . obtain⟨_,q⟩:=x a _ r
   exact q
def KN:Option HO->Prop
 | some (.lst _)=>True
 | some (.dK _)=>True
 | some (.dT _)=>True
 | some (.set _ _)=>True
 | some (.ins _ _ _)=>True
 | some (.ext _)=>True
 | _=>False
section
variable {P:Av} {w:Am} {H:Hp} {h h':Ae} {x e:AA} {o':HO}
theorem C0.write (ok:C0 P w H h) (mu:KN (H x)) (he:e=x\/H e=some (.own x)) (k:∀b u,b≠e->h.get? b=some u->h'.get? b=some u) (heo:∃u,h'.get? e=some u)
 (new:DB P w (upd H x o') h' x o'):C0 P w (upd H x o') h':=fun b u q=>by
 have mr:∀c y,H c=some (.own y)->c≠x:=fun c y r z=>by subst z;rw[r] at mu;exact mu
 have AAR:∀c xs,H c=some (.tup xs)->c≠x:=fun c xs r z=>by subst z;rw[r] at mu;exact mu
 by_cases hb:b=x
 . subst hb;rw[AO] at q;cases q;exact new
 . rw[AV hb] at q
   by_cases hbe:b=e
   . have q':H b=some (.own x):=by
      rcases he with z | z
      . exact absurd (hbe.trans z) hb
      . rw[hbe];exact z
     rw[q] at q';cases q'
     obtain⟨v,hv⟩:=heo
     exact⟨v,by rw[hbe];exact hv⟩
   . refine (ok b u q).stay (fun c v hc r=>k c v ?_ r) (fun c r=>by rw[AV (mr c b r)];exact r) fun c xs r=>by rw[AV (AAR c xs r)];exact r
     rcases hc with rfl | hc
     . exact hbe
     . rintro rfl
       rcases he with z | z
       . exact mr c b hc z
       . rw[hc] at z;cases z;exact hb rfl
end
structure Un (fs ex:List AA) (H H':Hp) (h h':Ae):Prop where
 keep:∀b o,h.get? b=some o->H b=none->b∉fs->b∉ex->h'.get? b=some o
 slot:∀b o,h.get? b=some o->H b=none->b∈fs->b∉ex->∃sl,h'.get? b=some { o with slots:=sl }
 free:∀b o,h.get? b=some o->H b=none->b∉ex->H' b=none
 there:∀b o,h.get? b=some o->b∉ex->∃o',h'.get? b=some o'
 tups:∀b xs,H b=some (.tup xs)->H' b=some (.tup xs)
 Hh:∀b o u,H b=some (.CG o u)->H' b=some (.CG o u)
 JQ:∀b ps,H b=some (.MN ps)->∃more,H' b=some (.MN (ps++more))
section
variable {fs fs' ex ex':List AA} {H H1 H2:Hp} {h h1 h2 h':Ae} {a x e:AA} {o:HO}
theorem Un.any (u:Un fs ex H H1 h h1) {b:AA} {ob:Aq} (q:h.get? b=some ob) (n:H b=none) (hx:b∉ex):∃sl,h1.get? b=some { ob with slots:=sl }:=by
 by_cases hb:b∈fs
 . exact u.slot b ob q n hb hx
 . exact⟨ob.slots,u.keep b ob q n hb hx⟩
theorem Un.kept (k:∀b u,h.get? b=some u->h'.get? b=some u):Un fs ex H H h h':=
 ⟨fun b ob q _ _ _=>k b ob q,fun b ob q _ _ _=>⟨ob.slots,k b ob q⟩,fun _ _ _ n _=>n,fun b ob q _=>⟨ob,k b ob q⟩,fun _ _ q=>q,fun _ _ _ q=>q,fun _ ps q=>⟨#[],by rw[q];simp⟩⟩
theorem Un.refl:Un fs ex H H h h:=Un.kept fun _ _ q=>q
theorem Un.laid (k:∀b u,h.get? b=some u->h'.get? b=some u) (hp:h.objs.size<=a) (hn:H a=none):Un fs ex H (upd H a o) h h' where
 keep:=fun b u q _ _ _=>k b u q
 slot:=fun b u q _ _ _=>⟨u.slots,k b u q⟩
 free:=fun b u q n _=>by rw[AV (C4 (E3 (Bs q) hp))];exact n
 there:=fun b u q _=>⟨u,k b u q⟩
 tups:=fun b xs q=>by rw[AV (BF q hn)];exact q
 Hh:=fun b u xs q=>by rw[AV (BF q hn)];exact q
 JQ:=fun b ps q=>⟨#[],by rw[AV (BF q hn),q];simp⟩
theorem Un.write (mu:KN (H x)) (he:e=x\/H e=some (.own x)) (k:∀b u,b≠e->h.get? b=some u->h'.get? b=some u) (heo:∃u,h'.get? e=some u):Un fs ex H (upd H x o) h h':=by
 have hx:∀b,H b=none->b≠x:=fun b n z=>by subst z;rw[n] at mu;exact mu
 have hb:∀b,H b=none->b≠e:=fun b n z=>by
  subst z
  rcases he with r | r
  . exact hx b n r
  . rw[n] at r;cases r
 have hm:∀b u,H b=some u->¬KN (some u)->b≠x:=fun b u q nm z=>by subst z;rw[q] at mu;exact nm mu
 refine⟨fun b u q n _ _=>k b u (hb b n) q,fun b u q n _ _=>⟨u.slots,k b u (hb b n) q⟩,fun b u q n _=>by rw[AV (hx b n)];exact n,fun b u q _=>?_,
  fun b xs q=>by rw[AV (hm b _ q fun z=>z)];exact q,fun b u xs q=>by rw[AV (hm b _ q fun z=>z)];exact q,fun b ps q=>⟨#[],by rw[AV (hm b _ q fun z=>z),q];simp⟩⟩
 by_cases hbe:b=e
 . subst hbe;exact heo
 . exact⟨u,k b u hbe q⟩
end
def K2 (h:Ae) (H:Hp):List AA:=(Ca h.objs.size).filter fun a=>(H a).isSome
def Jl (h:Ae) (H:Hp):Ae:=PySem.W.hideAll h (K2 h H)
theorem xR (h:Ae) (H:Hp):(Jl h H).objs.size=h.objs.size:=PySem.W.hideAll_size _ _
theorem xQ {h:Ae} {H:Hp} {b:AA} {o:Aq} (e:h.get? b=some o) (n:H b=none):(Jl h H).get? b=some o:=
 PySem.W.hideAll_get _ e fun hm=>by
  have q:(H b).isSome=true:=(Ia.mp hm).2
  rw[n] at q;simp at q
theorem AAV {h:Ae} {H:Hp} {b:AA} {o:Aq} (e:(Jl h H).get? b=some o):h.get? b=some o/\H b=none:=by
 have e':h.get? b=some o:=PySem.W.of_hideAll (K2 h H) e
 refine⟨e',?_⟩
 cases q:H b with
 | none=>rfl
 | some x=>
  have hm:b∈K2 h H:=Ia.mpr ⟨JX.mpr (Bs e'),by simp[q]⟩
  have z:(Jl h H).get? b=none:=PySem.W.hideAll_none (K2 h H) hm
  rw[z] at e;cases e
structure Mod (K:AW) (mg:AG->Option AF) (base:Ae):Prop where
 Nh:K.In base
 glob:base.Ns Hm mg
 blt:∃mb,base.Ns builtinsNs mb/\∀x:AG,x≠"__name__"->mb x=bootBuiltins x
 nolimit:base.NoLimit
structure Cx where
 prog:Av
 w:Am
 K:AW
 mg:AG->Option AF
 base:Ae
 A:Bf
 N:List AG
 s_0:AI
 LG:Hp
 env:Dh
 outer:List Dh
 stack:List Dh
 ex:List AA
 fn:AG->Bool
 calm:Bool
 pn:List (AA×Aq)
 xe:AF->AI->Prop
def frs (l:List Dh):List AA:=l.filterMap (·.frame)
abbrev Cx.fs (X:Cx):List AA:=frs X.outer
def O6 (sc:EJ) (x:AG):Prop:=sc.names.lookup x=some .local\/sc.names.lookup x=some .cell\/sc.names.lookup x=some .free
def Loc (sc:EJ) (x:AG):Prop:=sc.names.lookup x=some .local\/sc.names.lookup x=some .cell
def Look (env:Dh) (h:Ae) (m:AG->Option AF) (x:AG) (u:AF):Prop:=
 (env.kindOf x=some .local/\m x=some u)\/((env.kindOf x=some .cell\/env.kindOf x=some .free)/\∃c,env.cells.lookup x=some c/\h.IsCell c (some u))
structure Cx.Ok (X:Cx):Prop where
 mod:Mod X.K X.mg X.base
 kind:X.env.scope.kind= .function
 glob:X.env.globals=Hm
 blt:X.env.builtins=builtinsNs
 above:X.s_0.heap.objs.size<=X.env.locals
 inj:∀x y c,X.env.cells.lookup x=some c->X.env.cells.lookup y=some c->x=y
 has:∀x,(X.env.kindOf x=some .cell\/X.env.kindOf x=some .free)->∃c,X.env.cells.lookup x=some c
 cab:∀x c,X.fn x=true->X.env.cells.lookup x=some c->X.s_0.heap.objs.size<=c
 hd:X.calm=true->X.A.handled=none
 frames:X.A.frames=some X.stack
 OO:X.stack=X.outer\/(X.stack=X.env::X.outer/\X.env.frame=some X.env.locals)
 M8:∀b∈X.ex,b≠X.env.locals/\∀x c,X.env.cells.lookup x=some c->c≠b
 bs:∀b o,X.base.get? b=some o->X.s_0.heap.get? b=some o/\X.LG b=none
 Hg:X.base.objs.size<=X.s_0.heap.objs.size
 L5:∀b o,X.base.get? b=some o->b∉X.ex
 Lf:∀b∈X.ex,b∉X.fs
 Gr:X.s_0.heap.FunFrames X.base X.outer
 Ji:∀b∈X.fs,X.LG b=none
structure Inv (X:Cx) (pins:List (AA×Aq)) (σ:List (Option V)) (H:Hp) (s:AI):Prop where
 ok:X.Ok
 os:s.os=X.s_0.os
 bare:AllBare s.gens
 base:Un X.fs X.ex X.LG H X.s_0.heap s.heap
 loc:∃m,s.heap.Ns X.env.locals m/\∀(i:Nat) (x:AG) (v:V),X.N[i]? =some x->σ[i]? =some (some v)->O6 X.env.scope x->∃u,RelV v u/\Look X.env s.heap m x u
 cell:∀x c,X.env.cells.lookup x=some c->∃v,s.heap.IsCell c v
 free:H X.env.locals=none
 Fw:∀x c,X.env.cells.lookup x=some c->H c=none
 pin:∀p∈X.pn++pins,s.heap.get? p.1=some p.2/\H p.1=none/\p.1≠X.env.locals/\p.1∉X.fs/\∀v,p.2.data≠ .cell v
 hok:C0 X.prog X.w H s.heap
 len:σ.length=X.N.length
section
variable {X:Cx} {pins:List (AA×Aq)} {σ:List (Option V)} {H H':Hp} {s:AI} {h':Ae}
theorem Cx.Ok.AAO (ok:X.Ok) {b:AA} {o:Aq} (e:X.base.get? b=some o):b∉X.fs:=fun hb=>by
 have:=(ok.Gr.mem hb).1
 rw[e] at this;cases this
theorem Inv.bs (I:Inv X pins σ H s):∀b o,X.base.get? b=some o->s.heap.get? b=some o/\H b=none:=fun b o e=>
 ⟨I.base.keep b o (I.ok.bs b o e).1 (I.ok.bs b o e).2 (I.ok.AAO e) (I.ok.L5 b o e),I.base.free b o (I.ok.bs b o e).1 (I.ok.bs b o e).2 (I.ok.L5 b o e)⟩
theorem Inv.bk (I:Inv X pins σ H s):∀b o,X.base.get? b=some o->s.heap.get? b=some o:=fun b o e=>(I.bs b o e).1
theorem Inv.mod (I:Inv X pins σ H s):Mod X.K X.mg X.base:=I.ok.mod
theorem Inv.Ff (I:Inv X pins σ H s):X.K.In s.heap:=I.ok.mod.Nh.keeps I.bk
theorem Inv.fr (I:Inv X pins σ H s):∃m,Fr X.base X.env.locals s.heap m:=
 let ⟨m,hn,_⟩:=I.loc
 ⟨m,hn,I.bk,BP I.ok.Hg I.ok.above⟩
theorem Inv.lt (I:Inv X pins σ H s):X.env.locals < s.heap.objs.size:=let ⟨_,hn,_⟩:=I.loc;hn.lt
theorem Inv.sz (I:Inv X pins σ H s):X.s_0.heap.objs.size<=s.heap.objs.size:=BP I.ok.above (Ic I.lt)
theorem Inv.AAQ (I:Inv X pins σ H s) {a:AA} (h:s.heap.objs.size<=a):a∉X.fs:=fun hb=>by
 obtain⟨_,o,ho,_⟩:=I.ok.Gr.mem hb
 exact absurd (E3 (Bs ho) (BP I.sz h)) (Hc _)
theorem Inv.Lc (I:Inv X pins σ H s):∀x c,X.env.cells.lookup x=some c->c≠X.env.locals:=fun x c e z=>by
 obtain⟨v,o,ho,hd⟩:=I.cell x c e
 obtain⟨m,⟨o',es,ep,ho',hd',_⟩,_⟩:=I.loc
 rw[z,ho'] at ho;cases ho;rw[hd'] at hd;cases hd
theorem Inv.Gr (I:Inv X pins σ H s):s.heap.FunFrames X.base X.outer:=by
 have all:∀(l:List Dh),(∀b∈frs l,b∈X.fs)->X.s_0.heap.FunFrames X.base l->s.heap.FunFrames X.base l:=by
  intro l
  induction l with
  | nil=>intro _ _;trivial
  | cons env r ih=>
   intro hs hl
   obtain⟨hk,⟨L,o,hf,hn,ho,hd⟩,hr⟩:=hl
   have hL:L∈X.fs:=hs L (by unfold frs;rw[d4,hf];exact Bl)
   obtain⟨sl,e⟩:=I.base.slot L o ho (I.ok.Ji L hL) hL fun z=>I.ok.Lf L z hL
   exact⟨hk,⟨L,_,hf,hn,e,hd⟩,ih (fun b hb=>hs b (by unfold frs;rw[d4,hf];exact B2 _ hb)) hr⟩
 exact all X.outer (fun _ hb=>hb) I.ok.Gr
theorem Inv.stack (I:Inv X pins σ H s):s.heap.FunFrames X.base X.stack:=by
 rcases I.ok.OO with e | ⟨e,hf⟩
 . rw[e];exact I.Gr
 . rw[e]
   obtain⟨m,hn,_⟩:=I.loc
   refine .cons (by rw[I.ok.kind];decide) hf hn ?_ I.Gr
   exact Heap.get?_none_of_le (BP I.ok.Hg I.ok.above)
theorem Inv.cu (I:Inv X pins σ H s):∀b∈frs X.stack,b∈X.env.locals::X.fs:=fun b hb=>by
 rcases I.ok.OO with e | ⟨e,hf⟩
 . rw[e] at hb;exact B2 _ hb
 . rw[e] at hb
   unfold frs at hb
   rw[d4,hf] at hb
   exact hb
theorem Inv.pG (I:Inv X pins σ H s):∀b∈frs X.stack,H b=none:=fun b hb=>by
 rcases BK.mp (I.cu b hb) with e | hb
 . rw[e];exact I.free
 . obtain⟨_,o,ho,_⟩:=I.ok.Gr.mem hb
   exact I.base.free b o ho (I.ok.Ji b hb) fun z=>I.ok.Lf b z hb
theorem Inv.step {g':Array GenState} {t':Nat} {d':Drawn} {ch:List AA} (I:Inv X pins σ H s)
 (hch:∀b∈ch,(b∈X.ex\/X.s_0.heap.objs.size<=b)/\b≠X.env.locals/\(∀x c,X.env.cells.lookup x=some c->c≠b)/\∀p∈X.pn++pins,p.1≠b)
 (keep:∀b o,b≠X.env.locals->b∉X.fs->b∉ch->s.heap.get? b=some o->H b=none->h'.get? b=some o)
 (slot:∀b o,b≠X.env.locals->b∈X.fs->b∉ch->s.heap.get? b=some o->H b=none->∃sl,h'.get? b=some { o with slots:=sl }) (free:∀b o,b∉ch->s.heap.get? b=some o->H b=none->H' b=none)
 (there:∀b o,b∉ch->s.heap.get? b=some o->∃o',h'.get? b=some o')
 (tups:∀b xs,H b=some (.tup xs)->H' b=some (.tup xs)) (Hh:∀b o u,H b=some (.CG o u)->H' b=some (.CG o u)) (JQ:∀b ps,H b=some (.MN ps)->∃more,H' b=some (.MN (ps++more)))
 (ns:∀m,s.heap.Ns X.env.locals m->h'.Ns X.env.locals m) (hok:C0 X.prog X.w H' h') (hg:AllBare g'):
 Inv X pins σ H' { s with heap:=h',gens:=g',drawn:=d',toks:=t' }:=by
 have mO:∀b o,X.s_0.heap.get? b=some o->b≠X.env.locals:=fun b o e=>C4 (E3 (Bs e) I.ok.above)
 have Ue:∀b o,X.s_0.heap.get? b=some o->b∉X.ex->b∉ch:=fun b o e hx hb=>by
  rcases (hch b hb).1 with z | z
  . exact hx z
  . exact absurd (E3 (Bs e) z) (Hc _)
 have cellK:∀x c,X.env.cells.lookup x=some c->∀v,s.heap.IsCell c v->h'.IsCell c v:=fun x c e v ⟨o,ho,hd⟩=>by
  have RH:c∉ch:=fun z=>(hch c z).2.2.1 x c e rfl
  by_cases hc:c∈X.fs
  . obtain⟨sl,q⟩:=slot c o (I.Lc x c e) hc RH ho (I.Fw x c e)
    exact⟨_,q,hd⟩
  . exact⟨o,keep c o (I.Lc x c e) hc RH ho (I.Fw x c e),hd⟩
 refine⟨I.ok,I.os,hg,⟨fun b o e n hb hx=>?_,fun b o e n hb hx=>?_,fun b o e n hx=>?_,fun b o e hx=>?_,fun b xs e=>tups b xs (I.base.tups b xs e),fun b o xs e=>Hh b o xs (I.base.Hh b o xs e),fun b ps e=>?_⟩,?_,fun x c e=>?_,?_,fun x c e=>?_,fun p hp=>?_,hok,I.len⟩
 . exact keep b o (mO b o e) hb (Ue b o e hx) (I.base.keep b o e n hb hx) (I.base.free b o e n hx)
 . obtain⟨sl,e1⟩:=I.base.slot b o e n hb hx
   obtain⟨sl',e2⟩:=slot b _ (mO b o e) hb (Ue b o e hx) e1 (I.base.free b o e n hx)
   exact⟨sl',e2⟩
 . obtain⟨o',e1⟩:=I.base.there b o e hx
   exact free b o' (Ue b o e hx) e1 (I.base.free b o e n hx)
 . obtain⟨o',e1⟩:=I.base.there b o e hx
   exact there b o' (Ue b o e hx) e1
 . obtain⟨m1,e1⟩:=I.base.JQ b ps e
   obtain⟨m2,e2⟩:=JQ b _ e1
   exact⟨m1++m2,by rw[e2,Array.append_assoc]⟩
 . obtain⟨m,hn,hl⟩:=I.loc
   refine⟨m,ns m hn,fun i x v e1 e2 e3=>?_⟩
   obtain⟨u,r,l⟩:=hl i x v e1 e2 e3
   refine⟨u,r,?_⟩
   rcases l with l | ⟨k,c,e,z⟩
   . exact .inl l
   . exact .inr ⟨k,c,e,cellK x c e _ z⟩
 . obtain⟨v,z⟩:=I.cell x c e
   exact⟨v,cellK x c e v z⟩
 . obtain⟨m,⟨o,_,_,ho,_⟩,_⟩:=I.loc
   exact free _ o (fun z=>(hch _ z).2.1 rfl) ho I.free
 . obtain⟨v,o,ho,hd⟩:=I.cell x c e
   exact free c o (fun z=>(hch c z).2.2.1 x c e rfl) ho (I.Fw x c e)
 . obtain⟨e,n,ne,nf,d⟩:=I.pin p hp
   have RH:p.1∉ch:=fun z=>(hch p.1 z).2.2.2 p hp rfl
   exact⟨keep p.1 p.2 ne nf RH e n,free p.1 p.2 RH e n,ne,nf,d⟩
theorem Inv.un {t':Nat} (I:Inv X pins σ H s) (u:Un X.fs [] H H' s.heap h') (hok:C0 X.prog X.w H' h'):Inv X pins σ H' { s with heap:=h',toks:=t' }:=by
 obtain⟨m,⟨o,es,ep,ho,r⟩,_⟩:=id I.loc
 obtain⟨sl,hL⟩:=u.any ho I.free (by simp)
 exact I.step (g':=s.gens) (d':=s.drawn) (ch:=[]) (fun _ z=>nomatch z) (fun b o _ hb _ e n=>u.keep b o e n hb (by simp)) (fun b o _ hb _ e n=>u.slot b o e n hb (by simp)) (fun b o _ e n=>u.free b o e n (by simp)) (fun b o _ e=>u.there b o e (by simp)) u.tups u.Hh u.JQ (fun m' hm=>by
  obtain⟨o',es',ep',ho',r'⟩:=hm
  rw[ho] at ho';cases ho'
  exact⟨_,es',ep',hL,r'⟩) hok I.bare
theorem Inv.call {g':Array GenState} {t':Nat} {d':Drawn} {ch:List AA} (I:Inv X pins σ H s) (u:Un (frs X.stack) ch H H' s.heap h') (hok:C0 X.prog X.w H' h') (hg:AllBare g')
 (hch:∀b∈ch,(b∈X.ex\/X.s_0.heap.objs.size<=b)/\b≠X.env.locals/\(∀x c,X.env.cells.lookup x=some c->c≠b)/\∀p∈X.pn++pins,p.1≠b):
 Inv X pins σ H' { s with heap:=h',gens:=g',drawn:=d',toks:=t' }:=by
 obtain⟨m,⟨o,es,ep,ho,r⟩,_⟩:=id I.loc
 obtain⟨sl,hL⟩:=u.any ho I.free fun z=>(hch _ z).2.1 rfl
 exact I.step (ch:=ch) hch (fun b o hL hb hc e n=>u.keep b o e n (fun z=>(BK.mp (I.cu b z)).elim hL hb) hc) (fun b o _ _ hc e n=>u.any e n hc) (fun b o hc e n=>u.free b o e n hc) (fun b o hc e=>u.there b o e hc) u.tups u.Hh u.JQ (fun m' hm=>by
  obtain⟨o',es',ep',ho',r'⟩:=hm
  rw[ho] at ho';cases ho'
  exact⟨_,es',ep',hL,r'⟩) hok hg
theorem Inv.turned {t':Nat} {it:AA} (I:Inv X pins σ H s) (k:∀b o,b≠it->s.heap.get? b=some o->h'.get? b=some o) (hn:H it=none) (hL:it≠X.env.locals)
 (h1:it∈X.ex\/X.s_0.heap.objs.size<=it) (h2:∀x c,X.env.cells.lookup x=some c->c≠it) (h3:∀p∈X.pn++pins,p.1≠it):Inv X pins σ H { s with heap:=h',toks:=t' }:=by
 have Kq:∀b u,H b=some u->b≠it:=fun b u e z=>by rw[z,hn] at e;cases e
 refine I.step (g':=s.gens) (d':=s.drawn) (ch:=[it]) (fun b hb=>?_) (fun b o _ _ hc e _=>k b o (fun z=>hc (by simp[z])) e) (fun b o _ _ hc e _=>⟨o.slots,k b o (fun z=>hc (by simp[z])) e⟩) (fun _ _ _ _ n=>n)
  (fun b o hc e=>⟨o,k b o (fun z=>hc (by simp[z])) e⟩) (fun _ _ e=>e) (fun _ _ _ e=>e) (fun b ps e=>⟨#[],by rw[e];simp⟩) (fun m hm=>?_) (fun b u e=>?_) I.bare
 . have e:b=it:=by simpa using hb
   subst e
   exact⟨h1,hL,h2,h3⟩
 . obtain⟨o,es,ep,ho,r⟩:=hm
   exact⟨o,es,ep,k _ o (Ne.symm hL) ho,r⟩
 . refine (I.hok b u e).stay (fun c v hc q=>k c v ?_ q) (fun _ q=>q) fun _ _ q=>q
   rcases hc with z | z
   . rw[z];exact Kq b u e
   . exact Kq c _ z
theorem Inv.tok (I:Inv X pins σ H s) (t:Nat):Inv X pins σ H { s with toks:=t }:=I.un (h':=s.heap) (t':=t) Un.refl I.hok
theorem Inv.kept {t':Nat} (I:Inv X pins σ H s) (k:∀b u,s.heap.get? b=some u->h'.get? b=some u):Inv X pins σ H { s with heap:=h',toks:=t' }:=I.un (Un.kept k) (I.hok.kept k)
theorem Inv.laid {a:AA} {o:HO} {t':Nat} (I:Inv X pins σ H s) (k:∀b u,s.heap.get? b=some u->h'.get? b=some u) (hp:s.heap.objs.size<=a) (new:DB X.prog X.w (upd H a o) h' a o):
 Inv X pins σ (upd H a o) { s with heap:=h',toks:=t' }:=I.un (Un.laid k hp (I.hok.fresh hp)) (I.hok.laid k hp new)
theorem Inv.write {x e:AA} {o:HO} {t':Nat} (I:Inv X pins σ H s) (mu:KN (H x)) (he:e=x\/H e=some (.own x)) (k:∀b u,b≠e->s.heap.get? b=some u->h'.get? b=some u) (heo:∃u,h'.get? e=some u)
 (new:DB X.prog X.w (upd H x o) h' x o):Inv X pins σ (upd H x o) { s with heap:=h',toks:=t' }:=I.un (Un.write mu he k heo) (I.hok.write mu he k heo new)
theorem Inv.weak {σ':List (Option V)} (I:Inv X pins σ H s) (hl:σ'.length=σ.length) (w:∀(i:Nat) v,σ'[i]? =some (some v)->σ[i]? =some (some v)):Inv X pins σ' H s:=
 ⟨I.ok,I.os,I.bare,I.base,let ⟨m,hn,hl'⟩:=I.loc;⟨m,hn,fun i x v e1 e2 e3=>hl' i x v e1 (w i v e2) e3⟩,I.cell,I.free,I.Fw,I.pin,I.hok,hl.trans I.len⟩
theorem Inv.Ux {ni:List (AA×Aq)} (I:Inv X pins σ H s) (h:∀p∈ni,s.heap.get? p.1=some p.2/\H p.1=none/\p.1≠X.env.locals/\p.1∉X.fs/\∀v,p.2.data≠ .cell v):Inv X ni σ H s:=
 ⟨I.ok,I.os,I.bare,I.base,I.loc,I.cell,I.free,I.Fw,fun p hp=>(D8.mp hp).elim (fun z=>I.pin p (Ht _ z)) (h p),I.hok,I.len⟩
theorem Z4 {N:List AG} (hN:N.Nodup) {i j:Nat} {x:AG} (a:N[i]? =some x) (b:N[j]? =some x):i=j:=by
 obtain⟨h1,e1⟩:=Fo.mp a
 obtain⟨h2,e2⟩:=Fo.mp b
 exact (List.getElem_inj hN).mp (e1.trans e2.symm)
theorem pJ {M:Model} {A:Bf} {E:AF->AI->Prop} {i:Nat} {x:AG} {v:V} {u:AF} {Q:Unit->AI->Prop} (I:Inv X pins σ H s) (hN:X.N.Nodup) (hi:X.N[i]? =some x) (hx:Loc X.env.scope x) (r:RelV v u)
 (h:∀s',Inv X pins (σ.set i (some v)) H s'->(∃a,Fn a s.heap s'.heap/\(a=X.env.locals\/X.env.cells.lookup x=some a))->Q () s') (hf:X.fn x=true\/X.env.scope.names.lookup x=some .local:=by first | exact .inl rfl | exact .inr rfl | assumption):AU M A (storeName X.env x u) Q E s:=by
 obtain⟨m,hn,hl⟩:=id I.loc
 have hcls:(X.env.scope.kind== .class||(X.env.scope.kind== .module&&X.env.locals != X.env.globals))=false:=by rw[I.ok.kind];rfl
 have j9:i < σ.length:=by rw[I.len];exact (Fo.mp hi).1
 have Lc:=I.Lc
 have tracked:∀{a:AA} {h':Ae},(∃o,s.heap.get? a=some o/\H a=none)->Fn a s.heap h'->C0 X.prog X.w H h':=fun {a h'} ha hs b ob e=>by
  obtain⟨_,_,hfree⟩:=ha
  refine (I.hok b ob e).stay (fun c w' hc q=>(hs.2 c ?_).trans q) (fun _ q=>q) fun _ _ q=>q
  rintro rfl
  rcases hc with rfl | hc
  . rw[hfree] at e;cases e
  . rw[hfree] at hc;cases hc
 rcases hx with hk | hk
 . refine wpAny_storeName_local hk hn (fun h' hn' hs=>?_) hcls
   obtain⟨oL,_,_,hoL,_⟩:=id hn
   refine h _ ⟨I.ok,I.os,I.bare,⟨fun b o e n hb hx=>?_,fun b o e n hb hx=>?_,I.base.free,fun b o e hx=>?_,I.base.tups,I.base.Hh,I.base.JQ⟩,⟨_,hn',fun j y v' e1 e2 e3=>?_⟩,fun y c e=>?_,I.free,I.Fw,fun p hp=>?_,tracked ⟨oL,hoL,I.free⟩ hs,by simpa using I.len⟩ ⟨_,hs,.inl rfl⟩
   . exact (hs.2 b (C4 (E3 (Bs e) I.ok.above))).trans (I.base.keep b o e n hb hx)
   . obtain⟨sl,e1⟩:=I.base.slot b o e n hb hx
     exact⟨sl,(hs.2 b (C4 (E3 (Bs e) I.ok.above))).trans e1⟩
   . obtain⟨o',e1⟩:=I.base.there b o e hx
     exact⟨o',(hs.2 b (C4 (E3 (Bs e) I.ok.above))).trans e1⟩
   . by_cases hj:j=i
     . subst hj
       rw[hi] at e1;cases e1
       rw[eD j9] at e2
       cases e2
       exact⟨u,r,.inl ⟨hk,by simp⟩⟩
     . rw[eB (Ne.symm hj)] at e2
       obtain⟨u',r',q⟩:=hl j y v' e1 e2 e3
       refine⟨u',r',?_⟩
       rcases q with ⟨k,e⟩ | ⟨k,c,e,z⟩
       . refine .inl ⟨k,?_⟩
         have:y≠x:=fun e=>hj (Z4 hN e1 (e▸hi))
         simp[this,e]
       . exact .inr ⟨k,c,e,z.sameBut hs (Lc y c e)⟩
   . obtain⟨w',z⟩:=I.cell y c e
     exact⟨w',z.sameBut hs (Lc y c e)⟩
   . obtain⟨e,n,ne,nf,d⟩:=I.pin p hp
     exact⟨(hs.2 p.1 ne).trans e,n,ne,nf,d⟩
 . have hfn:X.fn x=true:=by
    rcases hf with z | z
    . exact z
    . rw[z] at hk;cases hk
   obtain⟨c,hc⟩:=I.ok.has x (.inl hk)
   obtain⟨w',z⟩:=I.cell x c hc
   refine wpAny_storeName_cell I.ok.kind hk hc z (fun h' hc' hs=>?_)
   obtain⟨oc,hoc,xo⟩:=id z
   refine h { s with heap:=h' } ⟨I.ok,I.os,I.bare,⟨fun b o e n hb hx=>?_,fun b o e n hb hx=>?_,I.base.free,fun b o e hx=>?_,I.base.tups,I.base.Hh,I.base.JQ⟩,⟨m,hn.sameBut hs (Ne.symm (Lc x c hc)),fun j y v' e1 e2 e3=>?_⟩,fun y c' e=>?_,I.free,I.Fw,fun p hp=>?_,tracked ⟨oc,hoc,I.Fw x c hc⟩ hs,by simpa using I.len⟩ ⟨c,hs,.inr hc⟩
   . exact (hs.2 b (C4 (E3 (Bs e) (I.ok.cab x c hfn hc)))).trans (I.base.keep b o e n hb hx)
   . obtain⟨sl,e1⟩:=I.base.slot b o e n hb hx
     exact⟨sl,(hs.2 b (C4 (E3 (Bs e) (I.ok.cab x c hfn hc)))).trans e1⟩
   . obtain⟨o',e1⟩:=I.base.there b o e hx
     exact⟨o',(hs.2 b (C4 (E3 (Bs e) (I.ok.cab x c hfn hc)))).trans e1⟩
   . by_cases hj:j=i
     . subst hj
       rw[hi] at e1;cases e1
       rw[eD j9] at e2
       cases e2
       exact⟨u,r,.inr ⟨.inl hk,c,hc,hc'⟩⟩
     . rw[eB (Ne.symm hj)] at e2
       obtain⟨u',r',q⟩:=hl j y v' e1 e2 e3
       refine⟨u',r',?_⟩
       rcases q with q | ⟨k,c',e,z'⟩
       . exact .inl q
       . refine .inr ⟨k,c',e,z'.sameBut hs ?_⟩
         rintro rfl
         exact hj (Z4 hN e1 (I.ok.inj _ _ _ e hc▸hi))
   . by_cases Bb:c'=c
     . subst Bb;exact⟨_,hc'⟩
     . obtain⟨w2,z2⟩:=I.cell y c' e
       exact⟨w2,z2.sameBut hs Bb⟩
   . obtain⟨e,n,ne,nf,d⟩:=I.pin p hp
     refine⟨(hs.2 p.1 ?_).trans e,n,ne,nf,d⟩
     intro q
     rw[q,hoc] at e
     have q':oc=p.2:=CL e
     exact d w' (by rw[<-q'];exact xo)
theorem pI {M:Model} {A:Bf} {E:AF->AI->Prop} {i:Nat} {x:AG} {v:V} {u:AF} {Q:Unit->AI->Prop} (I:Inv X pins σ H s) (hN:X.N.Nodup) (hi:X.N[i]? =some x) (hx:Loc X.env.scope x) (r:RelV v u)
 (h:∀s',Inv X pins (σ.set i (some v)) H s'->Q () s') (hf:X.fn x=true\/X.env.scope.names.lookup x=some .local:=by first | exact .inl rfl | exact .inr rfl | assumption):AU M A (storeName X.env x u) Q E s:=
 pJ I hN hi hx r (fun s' I' _=>h s' I') hf
theorem Inv.call' {s':AI} {ch:List AA} (I:Inv X pins σ H s) (ho:s'.os=s.os) (u:Un (frs X.stack) ch H H' s.heap s'.heap) (hok:C0 X.prog X.w H' s'.heap) (hg:AllBare s'.gens)
 (hch:∀b∈ch,(b∈X.ex\/X.s_0.heap.objs.size<=b)/\b≠X.env.locals/\(∀x c,X.env.cells.lookup x=some c->c≠b)/\∀p∈X.pn++pins,p.1≠b):Inv X pins σ H' s':=by
 obtain⟨h',g',d',t',o'⟩:=s'
 have e:o'=s.os:=ho
 subst e
 exact I.call (g':=g') (t':=t') (d':=d') u hok hg hch
end
abbrev XK:=AF->Option AA->Hp->Prop
abbrev St:=List (Option V)
abbrev VK:=V->Hp->Prop
abbrev TE:=St->Hp->VK->Prop
abbrev TT:=St->Hp->(Bool->Hp->Prop)->Prop
abbrev TA:=St->Hp->(List V->Hp->Prop)->Prop
structure Ends where
 nx:St->Hp->Prop
 rt:VK
 bk:St->Hp->Prop:=fun _ _=>False
 ct:St->Hp->Prop:=fun _ _=>False
abbrev TS:=Ends->St->Hp->Prop
def EP (X:Cx) (pins:List (AA×Aq)) (σ:St) (Q:VK) (u:AF) (s':AI):Prop:=∃v H',Inv X pins σ H' s'/\RelV v u/\Q v H'
def TP (X:Cx) (pins:List (AA×Aq)) (σ:St) (Q:Bool->Hp->Prop) (b:Bool) (s':AI):Prop:=∃H',Inv X pins σ H' s'/\Q b H'
def AP (X:Cx) (pins:List (AA×Aq)) (σ:St) (Q:List V->Hp->Prop) (us:List AF) (s':AI):Prop:=∃vs H',Inv X pins σ H' s'/\Vals vs us/\Q vs H'
def SP (X:Cx) (pins:List (AA×Aq)) (D:Ends) (f:Flow) (s':AI):Prop:=
 match f with
 | .next=>∃σ' H',Inv X pins σ' H' s'/\D.nx σ' H'
 | .brk=>∃σ' H',Inv X pins σ' H' s'/\D.bk σ' H'
 | .cont=>∃σ' H',Inv X pins σ' H' s'/\D.ct σ' H'
 | .ret u=>∃v σ' H',Inv X pins σ' H' s'/\RelV v u/\D.rt v H'
def PE (X:Cx) (e:Az) (t:TE):Prop:=
 ∀(pins:List (AA×Aq)) (s:AI) (σ:St) (H:Hp) (Q:VK),Inv X pins σ H s->t σ H Q->AU (AY X.prog X.w) X.A (eval e X.env) (EP X pins σ Q) X.xe s
def PT (X:Cx) (e:Az) (t:TT):Prop:=
 ∀(pins:List (AA×Aq)) (s:AI) (σ:St) (H:Hp) (Q:Bool->Hp->Prop),Inv X pins σ H s->t σ H Q->AU (AY X.prog X.w) X.A (isTrue e X.env (eval e X.env)) (TP X pins σ Q) X.xe s
def PW (X:Cx) (e:Az) (t:TT):Prop:=
 ∀(whole:Eo AF) (pins:List (AA×Aq)) (s:AI) (σ:St) (H:Hp) (Q:Bool->Hp->Prop),Inv X pins σ H s->t σ H Q->AU (AY X.prog X.w) X.A (isTrue e X.env whole) (TP X pins σ Q) X.xe s
theorem PW.pt {X:Cx} {e:Az} {t:TT} (h:PW X e t):PT X e t:=h _
def PA (X:Cx) (es:List Az) (t:TA):Prop:=
 ∀(pos:Bt) (pins:List (AA×Aq)) (s:AI) (σ:St) (H:Hp) (Q:List V->Hp->Prop),Inv X pins σ H s->t σ H Q->AU (AY X.prog X.w) X.A (spliced (backTo pos (Bo es X.env))) (AP X pins σ Q) X.xe s
def PS (X:Cx) (st:Au) (t:TS):Prop:=
 ∀(pins:List (AA×Aq)) (s:AI) (σ:St) (H:Hp) (D:Ends),Inv X pins σ H s->t D σ H->AU (AY X.prog X.w) X.A (exec st X.env) (SP X pins D) X.xe s
def HB (X:Cx) (st:List Au) (t:TS):Prop:=
 ∀(pins:List (AA×Aq)) (s:AI) (σ:St) (H:Hp) (D:Ends),Inv X pins σ H s->t D σ H->AU (AY X.prog X.w) X.A (execs st X.env) (SP X pins D) X.xe s
theorem Bv {α:Type} {t:Eo α} {Q Q':α->AI->Prop} {M:Model} {A:Bf} {E:AF->AI->Prop} {s:AI} (h:AU M A t Q E s) (hQ:∀a s,Q a s->Q' a s):AU M A t Q' E s:=FR h hQ fun _ _ x=>x
theorem Bh {α β:Type} {t:Eo α} {I:Hp->AI->Prop} {R:β->α->Prop} {Q:β->Hp->Prop} {Q':α->AI->Prop} {M:Model} {A:Bf} {E:AF->AI->Prop} {s:AI} (h:AU M A t (fun a s=>∃v H,I H s/\R v a/\Q v H) E s) (k:∀a s v H,I H s->R v a->Q v H->Q' a s):AU M A t Q' E s:=Bv h fun a s ⟨v,H,i,r,q⟩=>k a s v H i r q
section
variable {X:Cx}
def JP (i:Nat):TE:=fun σ H Q=>∃v,σ[i]? =some (some v)/\Q v H
def tC (v:V):TE:=fun _ H Q=>Q v H
theorem ABx {i:Nat} {x:AG} {pos:Bt} (hN:X.N[i]? =some x) (hv:O6 X.env.scope x) (hd:(x==("__debug__":AG))=false:=by decide) (hcd:(x==("__classdict__":AG))=false:=by decide):PE X (.Name x pos) (JP i):=by
 intro pins s σ H Q I h
 obtain⟨v,e,h⟩:=h
 obtain⟨m,hn,hl⟩:=I.loc
 obtain⟨u,r,l⟩:=hl i x v hN e hv
 have fin:EP X pins σ Q u s:=⟨v,H,I,r,h⟩
 rcases l with ⟨hk,hm⟩ | ⟨hk,c,hc,hcell⟩
 . exact qB (wpAny_loadName_local I.ok.kind hk hn hm fin) hd
 . rcases hk with hk | hk
   . exact qB (wpAny_loadName_cell I.ok.kind hk hc hcell fin) hd
   . exact qB (wpAny_loadName_free I.ok.kind hk hc hcell fin hcd) hd
theorem Ax {i j pos}:PE X (.Constant (.int i) j pos) (tC (.int i)):=fun _ _ _ H _ I h=>wpAny_Constant_int ⟨.int i,H,I.tok _,⟨_,rfl⟩,h⟩
theorem Ju {b j pos}:PE X (.Constant (.bool b) j pos) (tC (.bl b)):=fun _ _ _ H _ I h=>Constant_bool ⟨.bl b,H,I,rfl,h⟩
theorem nT {j pos}:PE X (.Constant .none j pos) (tC .non):=fun _ _ _ H _ I h=>dU ⟨.non,H,I,rfl,h⟩
theorem Aw {x j pos}:PE X (.Constant (.str x) j pos) (tC (.str x)):=fun _ _ _ H _ I h=>Calls.Constant_str ⟨.str x,H,I.tok _,⟨_,rfl⟩,h⟩
def Gl (X:Cx) (x:AG):Prop:=X.env.kindOf x=some .globalImplicit
theorem RD {E:AF->AI->Prop} {pins:List (AA×Aq)} {s:AI} {σ:St} {H:Hp} {x:AG} {u:AF} {pos:Bt} {Q:AF->AI->Prop} (I:Inv X pins σ H s) (hg:Gl X x) (hm:X.mg x=some u) (h:Q u s)
 (hd:(x==("__debug__":AG))=false:=by decide):AU (AY X.prog X.w) X.A (eval (.Name x pos) X.env) Q E s:=
 Calls.Name_function_global I.ok.kind hg (Calls.loadGlobal_global (by rw[I.ok.glob];exact I.mod.glob.keeps I.bk) hm h) hd
theorem JF {E:AF->AI->Prop} {pins:List (AA×Aq)} {s:AI} {σ:St} {H:Hp} {x:AG} {u:AF} {pos:Bt} {Q:AF->AI->Prop} (I:Inv X pins σ H s) (hg:Gl X x) (hm:X.mg x=none) (hv:bootBuiltins x=some u) (h:Q u s)
 (hn:x≠"__name__":=by decide) (hd:(x==("__debug__":AG))=false:=by decide):AU (AY X.prog X.w) X.A (eval (.Name x pos) X.env) Q E s:=by
 obtain⟨mb,h1,h2⟩:=I.mod.blt
 exact Calls.Name_function_global I.ok.kind hg (Calls.loadGlobal_builtin (by rw[I.ok.glob];exact I.mod.glob.keeps I.bk) hm (by rw[I.ok.blt];exact h1.keeps I.bk) ((h2 x hn).trans hv) h) hd
theorem Dg {x:AG} {v:V} {u:AF} {pos:Bt} (hg:Gl X x) (hm:X.mg x=some u) (r:RelV v u) (hd:(x==("__debug__":AG))=false:=by decide):PE X (.Name x pos) (tC v):=
 fun _ _ _ H _ I h=>RD I hg hm ⟨v,H,I,r,h⟩ hd
variable {a b:Az} {ta tb:TE} {pos:Bt}
def PC (X:Cx) (op:JS) (a b:Az) (t:TE):Prop:=
 ∀(pins:List (AA×Aq)) (s:AI) (σ:St) (H:Hp) (Q:VK),Inv X pins σ H s->t σ H Q->
  AU (AY X.prog X.w) X.A (eval a X.env) (fun v s₁=>AU (AY X.prog X.w) X.A (eval b X.env) (fun u s₂=>AU (AY X.prog X.w) X.A (D0 op v u) (EP X pins σ Q) X.xe s₂) X.xe s₁) X.xe s
theorem mj (b:Az) {op:JS} (h:op≠ .In) (h2:op≠ .NotIn):behindInMarks op b=false:=by
 have e1:(op==CmpOp.In)=false:=by cases op <;> first | rfl | exact absurd rfl h
 have e2:(op==CmpOp.NotIn)=false:=by cases op <;> first | rfl | exact absurd rfl h2
 cases b <;> simp[behindInMarks,e1,e2]
def AD6 (ta:TE):TE:=fun σ H Q=>ta σ H fun x H1=>Q (.bl (decide (x= .non))) H1
def AEF (ta:TE):TE:=fun σ H Q=>ta σ H fun x H1=>Q (.bl (!decide (x= .non))) H1
theorem RelV.mn {x:V} {v:AF} (r:RelV x v):(v==Gn)=decide (x= .non):=by
 cases x with
 | non=>cases r;rfl
 | bl _=>cases r;rfl
 | int _=>obtain⟨t,rfl⟩:=r;rfl
 | str _=>obtain⟨t,rfl⟩:=r;rfl
 | Fd _=>obtain⟨t,rfl⟩:=r;rfl
 | flt _=>obtain⟨t,rfl⟩:=r;rfl
 | ref _=>cases r;rfl
 | ty _=>cases r;rfl
theorem Ur {j pos'} (ha:PE X a ta):PC X .Is a (.Constant .none j pos') (AD6 ta):=by
 intro pins s σ H Q I h
 refine Bh (ha pins s σ H _ I h) fun v s1 x H1 I1 r1 q1=>?_
 exact dU (is_none_gen ⟨.bl _,H1,I1,by rw[r1.mn];rfl,q1⟩)
theorem ABp {j pos'} (ha:PE X a ta):PC X .IsNot a (.Constant .none j pos') (AEF ta):=by
 intro pins s σ H Q I h
 refine Bh (ha pins s σ H _ I h) fun v s1 x H1 I1 r1 q1=>?_
 exact dU (isnot_none_gen ⟨.bl _,H1,I1,by rw[r1.mn];rfl,q1⟩)
def tB (t:TE):TT:=fun σ H Q=>t σ H fun x H1=>∃c,x= .bl c/\Q c H1
theorem aB {op:JS} {t:TE} (h:PC X op a b t) (h1:behindInMarks op b=false:=by first | exact mj _ (by decide) (by decide) | rfl):PE X (.Compare a [op] [b] pos) t:=fun pins s σ H Q I hw=>wpAny_Compare1 (h pins s σ H Q I hw) h1
theorem Ku {op:JS} {t:TE} (h:PC X op a b t) (h1:behindInMarks op b=false:=by first | exact mj _ (by decide) (by decide) | rfl):PT X (.Compare a [op] [b] pos) (tB t):=by
 intro pins s σ H Q I hw
 refine wpAny_isTrue_Compare1 (Bv (h pins s σ H _ I hw) fun v s1 h1=>Bv h1 fun u s2 h2=>Bv h2 fun c s3 ⟨x,H1,I1,r1,q1⟩=>?_) h1
 obtain⟨d,rfl,q⟩:=q1
 cases r1
 exact IP ⟨H1,I1,q⟩
theorem Gw {e:Az} {t:TE} (h:PE X e t) (he:∀whole,isTrue e X.env whole=(do let v <-whole;standAt e.pos;holding [v] (truthy v)):=by intro _;rfl):PT X e (tB t):=by
 intro pins s σ H Q I hw
 refine isTrue_plain (Bh (h pins s σ H _ I hw) fun v s1 x H1 I1 r1 q1=>?_) (he _)
 obtain⟨d,rfl,q⟩:=q1
 cases r1
 exact IP ⟨H1,I1,q⟩
variable {tA Wj:TT} {rest:List Az}
def ADu (t u:TT):TT:=fun σ H Q=>t σ H fun c H1=>if c=true then u σ H1 Q else Q false H1
def tOr (t u:TT):TT:=fun σ H Q=>t σ H fun c H1=>if c=true then Q true H1 else u σ H1 Q
def AEE (t:TT):TT:=fun σ H Q=>t σ H fun c H1=>Q (!c) H1
theorem Nw (ha:PT X a tA):PW X (.BoolOp .And [a] pos) tA:=by
 intro wh pins s σ H Q I h
 refine isTrue_and (Bv (ha pins s σ H Q I h) fun c s1 e=>?_)
 cases c with
 | true=>exact isTrue_and_nil e
 | false=>exact e
theorem Uy (ha:PT X a tA):PW X (.BoolOp .Or [a] pos) tA:=by
 intro wh pins s σ H Q I h
 refine isTrue_or (Bv (ha pins s σ H Q I h) fun c s1 e=>?_)
 cases c with
 | false=>exact isTrue_or_nil e
 | true=>exact e
theorem Nv (ha:PT X a tA) (hb:PW X (.BoolOp .And (b::rest) pos) Wj):PW X (.BoolOp .And (a::b::rest) pos) (ADu tA Wj):=by
 intro wh pins s σ H Q I h
 refine isTrue_and (Bv (ha pins s σ H _ I h) fun c s1 ⟨H1,I1,q1⟩=>?_)
 cases c with
 | true=>exact hb wh pins s1 σ H1 Q I1 q1
 | false=>exact⟨H1,I1,q1⟩
theorem RV (ha:PT X a tA) (hb:PW X (.BoolOp .Or (b::rest) pos) Wj):PW X (.BoolOp .Or (a::b::rest) pos) (tOr tA Wj):=by
 intro wh pins s σ H Q I h
 refine isTrue_or (Bv (ha pins s σ H _ I h) fun c s1 ⟨H1,I1,q1⟩=>?_)
 cases c with
 | true=>exact⟨H1,I1,q1⟩
 | false=>exact hb wh pins s1 σ H1 Q I1 q1
theorem Jv (ha:PT X a tA):PT X (.UnaryOp .Not a pos) (AEE tA):=by
 intro pins s σ H Q I h
 exact isTrue_not (ha pins s σ H (fun c H1=>Q (!c) H1) I h)
def ADv (ta tb:TE):TE:=fun σ H Q=>ta σ H fun x H1=>∃c,x= .bl c/\if c=true then tb σ H1 Q else Q (.bl false) H1
def AEG (ta tb:TE):TE:=fun σ H Q=>ta σ H fun x H1=>∃c,x= .bl c/\if c=true then Q (.bl true) H1 else tb σ H1 Q
theorem Nr {op} {t:TE} (h:PE X a t):PE X (.BoolOp op [a] pos) t:=fun pins s σ H Q I hw=>BoolOp_one (h pins s σ H Q I hw)
theorem Us (ha:PE X a ta) (hb:PE X (.BoolOp .And (b::rest) pos) tb):PE X (.BoolOp .And (a::b::rest) pos) (ADv ta tb):=by
 intro pins s σ H Q I h
 refine BoolOp_and (Bh (ha pins s σ H _ I h) fun v s1 x H1 I1 r1 q1=>?_)
 obtain⟨c,rfl,q1⟩:=q1
 cases r1
 refine IP ?_
 cases c with
 | true=>exact hb pins s1 σ H1 Q I1 q1
 | false=>exact⟨.bl false,H1,I1,rfl,q1⟩
theorem nU (ha:PE X a ta) (hb:PE X (.BoolOp .Or (b::rest) pos) tb):PE X (.BoolOp .Or (a::b::rest) pos) (AEG ta tb):=by
 intro pins s σ H Q I h
 refine BoolOp_or (Bh (ha pins s σ H _ I h) fun v s1 x H1 I1 r1 q1=>?_)
 obtain⟨c,rfl,q1⟩:=q1
 cases r1
 refine IP ?_
 cases c with
 | false=>exact hb pins s1 σ H1 Q I1 q1
 | true=>exact⟨.bl true,H1,I1,rfl,q1⟩
end
def AQ (K:AW) (H:Hp) (a:AA) (xs:List V):Prop:=
 Rd H a (.lst xs)\/
  ∃(o:Aq) (AB:Array AF) (n:Nat),K.lookup a=some o/\o.cls= .type "list"/\o.dict=none/\o.data= .seq AB n/\AB.size<=AZ/\Vals xs AB.toList
def Ap (K:AW) (H:Hp) (a:AA) (xs:List V):Prop:=
 Rd H a (.tup xs)\/
  ∃(o:Aq) (AB:Array AF) (n:Nat),K.lookup a=some o/\o.cls= .type "tuple"/\o.data= .seq AB n/\AB.size<=AZ/\Vals xs AB.toList
def qf:AF->Option V
 | .none=>some .non
 | .bool b=>some (.bl b)
 | .int i _=>some (.int i)
 | .str x _=>some (.str x)
 | .bytes b _=>some (.Fd b)
 | .float b _=>some (.flt b)
 | .ref a=>some (.ref a)
 | .type n=>some (.ty n)
 | _=>none
theorem RelV.abs {x:V} {u:AF} (r:RelV x u):qf u=some x:=by
 cases x with
 | non=>cases r;rfl
 | bl _=>cases r;rfl
 | int _=>obtain⟨t,rfl⟩:=r;rfl
 | str _=>obtain⟨t,rfl⟩:=r;rfl
 | Fd _=>obtain⟨t,rfl⟩:=r;rfl
 | flt _=>obtain⟨t,rfl⟩:=r;rfl
 | ref _=>cases r;rfl
 | ty _=>cases r;rfl
theorem RelV.inj {x y:V} {u:AF} (r:RelV x u) (q:RelV y u):x=y:=CL (r.abs.symm.trans q.abs)
theorem Vals.inj:∀{xs ys:List V} {us:List AF},Vals xs us->Vals ys us->xs=ys
 | _,_,_,.nil,.nil=>rfl
 | _,_,_,.cons r t,.cons r' t'=>by rw[r.inj r',Vals.inj t t']
section
variable {X:Cx} {pins:List (AA×Aq)} {σ:St} {H:Hp} {s:AI} {a:AA} {xs ys:List V}
theorem AQ.of {K:AW} (h:H a=some (.lst xs)):AQ K H a xs:=.inl (.inl h)
theorem Ap.of {K:AW} (h:H a=some (.tup xs)):Ap K H a xs:=.inl (.inl h)
theorem Inv.list (I:Inv X pins σ H s) (h:AQ X.K H a xs):∃AB:List AF,Vals xs AB/\PlainL s.heap a AB.toArray/\xs.length<=AZ:=by
 rcases h with h | ⟨o,AB,n,hk,hc,hd,hs,hz,r⟩
 . obtain⟨z,AB,n,r,e⟩:=h.ok I.hok
   exact⟨AB,r,⟨_,n,e,rfl,rfl,rfl⟩,z⟩
 . refine⟨AB.toList,r,⟨o,n,I.Ff a o hk,hc,hd,by simpa using hs⟩,?_⟩
   have e:=r.length
   simp only[E1] at e
   lia
theorem Inv.tuple (I:Inv X pins σ H s) (h:Ap X.K H a xs):∃AB:List AF,Vals xs AB/\IsTup s.heap a AB.toArray/\xs.length<=AZ:=by
 rcases h with h | ⟨o,AB,n,hk,hc,hs,hz,r⟩
 . obtain⟨z,AB,r,p⟩:=h.ok I.hok
   exact⟨AB,r,p,z⟩
 . refine⟨AB.toList,r,⟨o,I.Ff a o hk,hc,n,by simpa using hs⟩,?_⟩
   have e:=r.length
   simp only[E1] at e
   lia
theorem Inv.Ub (I:Inv X pins σ H s) (h:AQ X.K H a xs) (h':AQ X.K H a ys):xs=ys:=by
 obtain⟨AB,r,⟨o,n,e,_,_,d⟩,_⟩:=I.list h
 obtain⟨its',r',⟨o',n',e',_,_,d'⟩,_⟩:=I.list h'
 rw[e] at e';cases e'
 rw[d] at d'
 injection d' with d1 _
 have:AB=its':=by simpa using congrArg dO d1
 subst this
 exact r.inj r'
theorem Inv.AEU (I:Inv X pins σ H s) (h:Ap X.K H a xs) (h':Ap X.K H a ys):xs=ys:=by
 obtain⟨AB,r,⟨o,e,_,n,d⟩,_⟩:=I.tuple h
 obtain⟨its',r',⟨o',e',_,n',d'⟩,_⟩:=I.tuple h'
 rw[e] at e';cases e'
 rw[d] at d'
 injection d' with d1 _
 have:AB=its':=by simpa using congrArg dO d1
 subst this
 exact r.inj r'
end
abbrev Cx.wish (X:Cx) (E:AF->AI->Prop):Cx:={ X with xe:=E }
abbrev Cx.Ui (X:Cx):Cx:=X.wish fun _ _=>False
theorem Cx.Ok.wish {X:Cx} (ok:X.Ok) (E:AF->AI->Prop):(X.wish E).Ok:=
 ⟨ok.mod,ok.kind,ok.glob,ok.blt,ok.above,ok.inj,ok.has,ok.cab,ok.hd,ok.frames,ok.OO,ok.M8,ok.bs,ok.Hg,ok.L5,ok.Lf,ok.Gr,ok.Ji⟩
theorem Cx.Ok.K3 {X:Cx} {E:AF->AI->Prop} (ok:(X.wish E).Ok):X.Ok:=
 ⟨ok.mod,ok.kind,ok.glob,ok.blt,ok.above,ok.inj,ok.has,ok.cab,ok.hd,ok.frames,ok.OO,ok.M8,ok.bs,ok.Hg,ok.L5,ok.Lf,ok.Gr,ok.Ji⟩
section
variable {X:Cx} {pins:List (AA×Aq)} {σ:St} {H:Hp} {s:AI} {E:AF->AI->Prop}
theorem Inv.wish (I:Inv X pins σ H s) (E:AF->AI->Prop):Inv (X.wish E) pins σ H s:=⟨I.ok.wish E,I.os,I.bare,I.base,I.loc,I.cell,I.free,I.Fw,I.pin,I.hok,I.len⟩
theorem Inv.K3 (I:Inv (X.wish E) pins σ H s):Inv X pins σ H s:=⟨I.ok.K3,I.os,I.bare,I.base,I.loc,I.cell,I.free,I.Fw,I.pin,I.hok,I.len⟩
theorem SP.K3 {D:Ends} {f:Flow} {s':AI} (h:SP (X.wish E) pins D f s'):SP X pins D f s':=by
 cases f with
 | next=>obtain⟨σ',H',I,q⟩:=h;exact⟨σ',H',I.K3,q⟩
 | brk=>obtain⟨σ',H',I,q⟩:=h;exact⟨σ',H',I.K3,q⟩
 | cont=>obtain⟨σ',H',I,q⟩:=h;exact⟨σ',H',I.K3,q⟩
 | ret u=>obtain⟨v,σ',H',I,r,q⟩:=h;exact⟨v,σ',H',I.K3,r,q⟩
theorem HB.Ui {st:List Au} {t:TS} (h:HB X.Ui st t):HB X st t:=fun pins s σ H D I hw=>
 FR (h pins s σ H D (I.wish _) hw) (fun _ _ q=>q.K3) fun _ _ z=>False.elim z
end
section
variable {X:Cx} {st:Au} {rest:List Au} {t u:TS} {e:Az} {te:TE} {pos:Bt}
def AEC:TS:=fun D σ H=>D.nx σ H
def AEJ (t u:TS):TS:=fun D σ H=>t { D with nx:=u D } σ H
theorem DG:HB X [] AEC:=fun _ _ σ H _ I h=>c7 ⟨σ,H,I,h⟩
theorem AX (h1:PS X st t) (h2:HB X rest u):HB X (st::rest) (AEJ t u):=by
 intro pins s σ H D I h
 refine wpAny_execs_cons (Bv (h1 pins s σ H { D with nx:=u D } I h) fun f s1 q=>?_)
 cases f with
 | next=>
  obtain⟨σ',H',I',q⟩:=q
  exact h2 pins s1 σ' H' D I' q
 | ret v=>exact q
 | brk=>exact q
 | cont=>exact q
theorem Ac (h1:PS X st t):HB X [st] t:=by
 intro pins s σ H D I h
 refine wpAny_execs_cons (Bv (h1 pins s σ H D I h) fun f s1 q=>?_)
 cases f with
 | next=>exact c7 q
 | ret v=>exact q
 | brk=>exact q
 | cont=>exact q
theorem Inv.quiet {pins:List (AA×Aq)} {σ:St} {H:Hp} {s:AI} (I:Inv X pins σ H s):interactive X.env=false:=by simp[interactive,I.ok.kind]
def AD3 (te:TE):TS:=fun D σ H=>te σ H fun _ H1=>D.nx σ H1
theorem E8 (he:PE X e te) (hs:swapsWith e none pos.line X.env=pure false:=by rfl):PS X (.Expr e pos) (AD3 te):=by
 intro pins s σ H D I h
 exact wpAny_Expr_any (Bh (he pins s σ H _ I h) fun v s1 x H1 I1 r1 q1=>⟨σ,H1,I1,q1⟩) I.quiet hs
def AEI (te:TE):TS:=fun D σ H=>te σ H D.rt
theorem A4 (he:PE X e te):PS X (.Return (some e) pos) (AEI te):=by
 intro pins s σ H D I h
 exact wpAny_Return_some (Bh (he pins s σ H _ I h) fun v s1 x H1 I1 r1 q1=>⟨x,σ,H1,I1,r1,q1⟩)
def AD5 (c:TT) (t u:TS):TS:=fun D σ H=>c σ H fun b H1=>if b=true then t D σ H1 else u D σ H1
theorem C9 {c:Az} {a b:List Au} {tc:TT} (hc:PT X c tc) (ha:HB X a t) (hb:HB X b u):PS X (.If c a b pos) (AD5 tc t u):=by
 intro pins s σ H D I h
 refine wpAny_If (Bv (hc pins s σ H _ I h) fun d s1 ⟨H1,I1,q1⟩=>?_)
 cases d with
 | true=>exact ha pins s1 σ H1 D I1 q1
 | false=>exact hb pins s1 σ H1 D I1 q1
end
abbrev TG:=V->St->Hp->(St->Hp->Prop)->Prop
abbrev LY:=List V->St->Hp->(St->Hp->Prop)->Prop
def PG (X:Cx) (target:Az) (t:TG):Prop:=
 ∀(pins:List (AA×Aq)) (s:AI) (σ:St) (H:Hp) (v:V) (u:AF) (Q:St->Hp->Prop),Inv X pins σ H s->RelV v u->t v σ H Q->
  AU (AY X.prog X.w) X.A (assign target X.env u) (fun _ s'=>∃σ' H',Inv X pins σ' H' s'/\Q σ' H') X.xe s
def Sr (X:Cx) (ts:List Az) (t:LY):Prop:=
 ∀(pins:List (AA×Aq)) (s:AI) (σ:St) (H:Hp) (vs:List V) (us:List AF) (Q:St->Hp->Prop),Inv X pins σ H s->Vals vs us->t vs σ H Q->
  AU (AY X.prog X.w) X.A (assignInOrder ((assignEach ts X.env).map (·.2)) us) (fun _ s'=>∃σ' H',Inv X pins σ' H' s'/\Q σ' H') X.xe s
section
variable {X:Cx} {pos:Bt}
def Kg (i:Nat):TG:=fun v σ H Q=>Q (σ.set i (some v)) H
theorem CW {i:Nat} {x:AG} (hN:X.N.Nodup) (hi:X.N[i]? =some x) (hx:Loc X.env.scope x) (hf:X.fn x=true\/X.env.scope.names.lookup x=some .local:=by first | exact .inl rfl | exact .inr rfl | assumption):PG X (.Name x pos) (Kg i):=by
 intro pins s σ H v u Q I r h
 exact wpAny_assign_Name (pI I hN hi hx r (fun s' I'=>⟨_,H,I',h⟩) hf)
def Yk:LY:=fun vs σ H Q=>vs=[]/\Q σ H
def Qh (t:TG) (u:LY):LY:=fun vs σ H Q=>∃v r,vs=v::r/\t v σ H fun σ' H'=>u r σ' H' Q
theorem aE:Sr X [] Yk:=by
 intro pins s σ H vs us Q I r h
 obtain⟨e,h⟩:=h
 subst e
 cases r
 exact assignInOrder_nil ⟨σ,H,I,h⟩
theorem Nu {e:Az} {es:List Az} {t:TG} {u:LY} (h1:PG X e t) (h2:Sr X es u)
 (hs:(assignEach (e::es) X.env).map (·.2)=assign e X.env::(assignEach es X.env).map (·.2):=by rfl):Sr X (e::es) (Qh t u):=by
 intro pins s σ H vs us Q I r h
 obtain⟨v,vr,e1,h⟩:=h
 subst e1
 cases r with
 | cons r rr=>
  rw[hs]
  refine assignInOrder_cons (Bv (h1 pins s σ H _ _ _ I r h) fun _ s1 ⟨σ1,H1,I1,q1⟩=>?_)
  exact h2 pins s1 σ1 H1 _ _ Q I1 rr q1
def Yl (K:AW) (n:Nat) (t:LY):TG:=fun v σ H Q=>∃a xs,v= .ref a/\Ap K H a xs/\xs.length=n/\t xs σ H Q
theorem aD {es:List Az} {k:Nat} {t:LY} {n:Nat} (hc:X.calm=true) (h:Sr X es t)
 (hn:(assignEach es X.env).length=n:=by rfl) (BG:(assignEach es X.env).findIdx? (·.1)=none:=by rfl):PG X (.Tuple es k pos) (Yl X.K n t):=by
 intro pins s σ H v u Q I r hw
 obtain⟨a,xs,e1,hq,hl,hw⟩:=hw
 subst e1
 cases r
 obtain⟨AB,rv,ht,hz⟩:=I.tuple hq
 refine assign_Tuple_tuple (I.ok.hd hc) ht (by simp[hn,<-hl,rv.length]) BG fun h' hx=>?_
 have I1:Inv X pins σ H { s with heap:=h' }:=I.kept (t':=s.toks) fun b o e=>hx b o (C4 (Bs e)) e
 exact h pins _ σ H xs _ Q I1 (by simpa using rv) hw
def pR (te:TE) (g:TG):TS:=fun D σ H=>te σ H fun x H1=>g x σ H1 D.nx
theorem A5 {i:Nat} {x:AG} {e:Az} {te:TE} {pos':Bt} (hN:X.N.Nodup) (hi:X.N[i]? =some x) (hx:Loc X.env.scope x) (he:PE X e te) (hs:swapsWith e (some (.Name x pos')) pos.line X.env=pure false:=by rfl) (hf:X.fn x=true\/X.env.scope.names.lookup x=some .local:=by first | exact .inl rfl | exact .inr rfl | assumption):
 PS X (.Assign [.Name x pos'] e pos) (pR te (Kg i)):=by
 intro pins s σ H D I h
 refine wpAny_Assign_Name (Bh (he pins s σ H _ I h) fun v s1 y H1 I1 r1 q1=>?_) hs
 exact pI I1 hN hi hx r1 (fun s2 I2=>⟨_,H1,I2,q1⟩) hf
def AEN (c:TT) (tb:TS):TS:=fun D σ H=>∃W:Nat->St->Hp->Prop,(∃m,W m σ H)/\∀m σ H,W m σ H->
 c σ H fun b H1=>if b=true then ∃N:St->Hp->Prop,(∀σ' H',N σ' H'->∃m',m' < m/\W m' σ' H')/\tb { D with nx:=N,ct:=N,bk:=D.nx } σ H1 else D.nx σ H1
theorem nz {c:Az} {body:List Au} {tc:TT} {tb:TS} (hp:PassesOwn (AY X.prog X.w) X.A X.env X.xe) (hc:PT X c tc) (hb:HB X body tb):PS X (.While c body [] pos) (AEN tc tb):=by
 intro pins s σ H D I h
 obtain⟨W,⟨m0,w0⟩,turn⟩:=h
 refine wpAny_While (codeAny_whileLoop (fun n s'=>∃σ' H',Inv X pins σ' H' s'/\W n σ' H') ?_ m0 ⟨σ,H,I,w0⟩)
 rintro n s1 ⟨σ1,H1,I1,w1⟩
 refine OW hp (Bv (hc pins s1 σ1 H1 _ I1 (turn n σ1 H1 w1)) fun b s2 ⟨H2,I2,q2⟩=>?_)
 cases b with
 | true=>
  obtain⟨N,hN,q2⟩:=q2
  rw[if_pos rfl]
  refine OW hp (Bv (hb pins s2 σ1 H2 _ I2 q2) fun f s3 q3=>?_)
  cases f with
  | next=>
   obtain⟨σ3,H3,I3,n3⟩:=q3
   obtain⟨m',hm,w3⟩:=hN σ3 H3 n3
   exact⟨m',hm,σ3,H3,I3,w3⟩
  | cont=>
   obtain⟨σ3,H3,I3,n3⟩:=q3
   obtain⟨m',hm,w3⟩:=hN σ3 H3 n3
   exact⟨m',hm,σ3,H3,I3,w3⟩
  | brk=>exact q3
  | ret v=>exact q3
 | false=>
  rw[if_neg Bw]
  exact c7 ⟨σ1,H2,I2,q2⟩
end
structure It where
 go:Nat->Hp->Prop
 HW:Nat->Hp->V->Hp->Prop
 stop:Nat->Hp->Prop
def DL (X:Cx) (pins:List (AA×Aq)) (H:Hp) (b:AA):Prop:=
 H b=none/\b≠X.env.locals/\b∉X.fs/\(b∈X.ex\/X.s_0.heap.objs.size<=b)/\(∀x c,X.env.cells.lookup x=some c->c≠b)/\∀p∈X.pn++pins,p.1≠b
theorem Inv.Iu {X:Cx} {pins:List (AA×Aq)} {σ:St} {H H':Hp} {s:AI} {b:AA} (I:Inv X pins σ H s) (hb:s.heap.objs.size<=b) (hn:H' b=none):DL X pins H' b:=by
 refine⟨hn,Mi (E3 I.lt hb),I.AAQ hb,.inr (BP I.sz hb),fun x c e z=>?_,fun p hp z=>?_⟩
 . obtain⟨v,q⟩:=I.cell x c e
   exact absurd (E3 q.lt (by rw[z];exact hb)) (Hc _)
 . exact absurd (E3 (Bs (I.pin p hp).1) (by rw[z];exact hb)) (Hc _)
structure Turn (P:Av) (w:Am) (K:AW) (tg:Az) (J:It) (fp:List AA) (it:AA) (tn:Nat->Ae->Prop):Prop where
 mem:it∈fp
 obj:∀i h,tn i h->∀b∈fp,∃o,h.get? b=some o/\∀v,o.data≠ .cell v
 keep:∀i h h',tn i h->(∀b∈fp,∀o,h.get? b=some o->h'.get? b=some o)->tn i h'
 item:∀(X:Cx),X.prog=P->X.w=w->X.K=K->X.calm=true->∀(i:Nat) (pins:List (AA×Aq)) (s:AI) (σ:St) (H:Hp) (E:AF->AI->Prop),Inv X pins σ H s->(∀b∈fp,DL X pins H b)->tn i s.heap->J.go i H->
  AU (AY P w) X.A (pyNext (.ref it)) (fun r s1=>∃u,r=some u/\
   AU (AY P w) X.A (letOwnedTupleGo tg (.ref it) u) (fun _ s2=>∃x H',Inv X pins σ H' s2/\RelV x u/\J.HW i H x H'/\tn (i+1) s2.heap/\∀b∈fp,H' b=none) E s1) E s
 done:∀(X:Cx),X.prog=P->X.w=w->X.K=K->X.calm=true->∀(i:Nat) (pins:List (AA×Aq)) (s:AI) (σ:St) (H:Hp) (E:AF->AI->Prop),Inv X pins σ H s->(∀b∈fp,DL X pins H b)->tn i s.heap->J.stop i H->
  AU (AY P w) X.A (pyNext (.ref it)) (fun r s1=>r=none/\Inv X pins σ H s1) E s
 self:∀(A:Bf) (i:Nat) (s:AI) (Q:AF->AI->Prop) (E:AF->AI->Prop),tn i s.heap->Q (.ref it) s->AU (AY P w) A (pyIter (.ref it)) Q E s
abbrev TI:=St->Hp->(It->Hp->Prop)->Prop
def PIE (X:Cx) (pins:List (AA×Aq)) (σ:St) (tg:Az) (R:It->Hp->Prop) (itv:AF) (s2:AI):Prop:=
 ∃(it:AA) (fp:List AA) (tn:Nat->Ae->Prop) (J:It) (H':Hp),itv= .ref it/\Inv X pins σ H' s2/\Turn X.prog X.w X.K tg J fp it tn/\tn 0 s2.heap/\(∀b∈fp,DL X pins H' b)/\R J H'
def PI (X:Cx) (tg iter:Az) (wi:TI):Prop:=
 ∀(pins:List (AA×Aq)) (s:AI) (σ:St) (H:Hp) (R:It->Hp->Prop),Inv X pins σ H s->wi σ H R->
  AU (AY X.prog X.w) X.A (eval iter X.env) (fun v s1=>AU (AY X.prog X.w) X.A (pyIter v) (PIE X pins σ tg R) X.xe s1) X.xe s
theorem NF {M:Model} {A:Bf} {E:AF->AI->Prop} {s:AI} {tg:Az} {it:AA} {u:AF} {o:Aq} {n:String} {vs:Array AF} {Q:Unit->AI->Prop} (ho:s.heap.get? it=some o) (hc:o.cls= .type n) (hd:o.data= .fields vs)
 (hn:["enumerate","zip","dict_itemiterator","dict_reverseitemiterator","odict_iterator","itertools.zip_longest","itertools.pairwise"].contains n=false) (hQ:Q () s):AU M A (letOwnedTupleGo tg (.ref it) u) Q E s:=by
 unfold letOwnedTupleGo
 cases tg <;> first
  | exact Ai hQ
  | (cases u <;> first
   | exact Ai hQ
   | (refine AJ (wpAny_load ho ?_)
      rw[hc,hd]
      show AU M A (if (["enumerate","zip","dict_itemiterator","dict_reverseitemiterator","odict_iterator","itertools.zip_longest","itertools.pairwise"].contains n&&vs[0]? ==some (rawInt _))=true then _ else _) Q E s
      rw[if_neg (by intro h;rw[hn,G0] at h;cases h)]
      exact Ai hQ))
def KC (K:AW) (a:AA):It:=
 ⟨fun i H=>∃xs x,AQ K H a xs/\xs[i]? =some x,fun i H x H'=>H'=H/\∀xs,AQ K H a xs->xs[i]? =some x,fun i H=>∃xs,AQ K H a xs/\xs.length<=i⟩
def KG (K:AW) (a:AA):It:=
 ⟨fun i H=>∃xs x,Ap K H a xs/\xs[i]? =some x,fun i H x H'=>H'=H/\∀xs,Ap K H a xs->xs[i]? =some x,fun i H=>∃xs,Ap K H a xs/\xs.length<=i⟩
def LH (lo:Int) (n:Nat):It:=⟨fun i _=>i < n,fun i H x H'=>H'=H/\x= .int (lo+i),fun i _=>n<=i⟩
theorem AEY {P:Av} {w:Am} {K:AW} {tg:Az} (a it:AA):Turn P w K tg (KC K a) [it] it (fun i h=>h.IsListIter it a i) where
 mem:=by simp
 obj:=fun i h st b hb=>by
  have e:b=it:=by simpa using hb
  subst e
  obtain⟨o,e,c,d⟩:=st
  exact⟨o,e,fun v z=>by rw[d] at z;cases z⟩
 keep:=fun i h h' st k=>st.at fun o e=>k it (by simp) o e
 item:=by
  intro X hP hw hK hc i pins s σ H E I hf st hg
  subst hP hw hK
  obtain⟨xs,x,hq,hx⟩:=hg
  obtain⟨AB,rv,p,hz⟩:=I.list hq
  obtain⟨u,hu,ru⟩:=rv.get hx
  obtain⟨f0,f1,f2,f3,f4,f5⟩:=hf it (by simp)
  refine wpAny_pyNext_list_item st p.isList (x:=u) (by simpa using hu) fun h' st' sb=>?_
  have I1:Inv X pins σ H { s with heap:=h' }:=I.turned (t':=s.toks) (fun b o hb e=>(sb.2 b hb).trans e) f0 f1 f3 f4 f5
  obtain⟨o,e,c,d⟩:=id st'
  exact⟨u,rfl,NF (s:={ s with heap:=h' }) e c d (by decide) ⟨x,H,I1,ru,⟨rfl,fun ys hy=>by rw[I.Ub hy hq];exact hx⟩,st',fun b hb=>(hf b hb).1⟩⟩
 done:=by
  intro X hP hw hK hc i pins s σ H E I hf st hg
  subst hP hw hK
  obtain⟨xs,hq,hx⟩:=hg
  obtain⟨AB,rv,p,hz⟩:=I.list hq
  obtain⟨f0,f1,f2,f3,f4,f5⟩:=hf it (by simp)
  have hl:=rv.length
  exact wpAny_pyNext_list_end (I.ok.hd hc) st p.isList (by simp;lia) fun h' eb=>⟨rfl,I.turned (t':=s.toks) (fun b o hb e=>eb b o hb e) f0 f1 f3 f4 f5⟩
 self:=fun _ _ _ _ _ st h=>wpAny_pyIter_listiter st h
theorem AEb {P:Av} {w:Am} {K:AW} {tg:Az} (a it:AA):Turn P w K tg (KG K a) [it] it (fun i h=>h.IsTupleIter it a i) where
 mem:=by simp
 obj:=fun i h st b hb=>by
  have e:b=it:=by simpa using hb
  subst e
  obtain⟨o,e,c,d⟩:=st
  exact⟨o,e,fun v z=>by rw[d] at z;cases z⟩
 keep:=fun i h h' st k=>st.at fun o e=>k it (by simp) o e
 item:=by
  intro X hP hw hK hc i pins s σ H E I hf st hg
  subst hP hw hK
  obtain⟨xs,x,hq,hx⟩:=hg
  obtain⟨AB,rv,p,hz⟩:=I.tuple hq
  obtain⟨u,hu,ru⟩:=rv.get hx
  obtain⟨f0,f1,f2,f3,f4,f5⟩:=hf it (by simp)
  refine wpAny_pyNext_tuple_item st (show s.heap.IsTuple a AB.toArray from p) (x:=u) (by simpa using hu) fun h' st' sb=>?_
  have I1:Inv X pins σ H { s with heap:=h' }:=I.turned (t':=s.toks) (fun b o hb e=>(sb.2 b hb).trans e) f0 f1 f3 f4 f5
  obtain⟨o,e,c,d⟩:=id st'
  exact⟨u,rfl,NF (s:={ s with heap:=h' }) e c d (by decide) ⟨x,H,I1,ru,⟨rfl,fun ys hy=>by rw[I.AEU hy hq];exact hx⟩,st',fun b hb=>(hf b hb).1⟩⟩
 done:=by
  intro X hP hw hK hc i pins s σ H E I hf st hg
  subst hP hw hK
  obtain⟨xs,hq,hx⟩:=hg
  obtain⟨AB,rv,p,hz⟩:=I.tuple hq
  obtain⟨f0,f1,f2,f3,f4,f5⟩:=hf it (by simp)
  have hl:=rv.length
  exact wpAny_pyNext_tuple_end (I.ok.hd hc) st (show s.heap.IsTuple a AB.toArray from p) (by simp;lia) fun h' eb=>⟨rfl,I.turned (t':=s.toks) (fun b o hb e=>eb b o hb e) f0 f1 f3 f4 f5⟩
 self:=fun _ _ _ _ _ st h=>wpAny_pyIter_tupleiter st h
theorem AEZ {P:Av} {w:Am} {K:AW} {tg:Az} (it:AA) (lo:Int) (n:Nat):Turn P w K tg (LH lo n) [it] it (fun i h=>IsRangeIter h it (lo+(i:Nat)*1) ((n:Int) - (i:Nat)) 1) where
 mem:=by simp
 obj:=fun i h st b hb=>by
  have e:b=it:=by simpa using hb
  subst e
  exact⟨_,st,fun v z=>by
   have z':Data.fields _=Data.cell v:=z
   cases z'⟩
 keep:=fun i h h' st k=>k it (by simp) _ st
 item:=by
  intro X hP hw hK hc i pins s σ H E I hf st hg
  subst hP hw hK
  obtain⟨f0,f1,f2,f3,f4,f5⟩:=hf it (by simp)
  have W:=Walks.range (prog:=X.prog) (w:=X.w) (I.ok.hd hc) it lo 1 n
  refine W.item i s _ _ hg st fun v h' tk hv st' kk=>?_
  obtain⟨t,rfl⟩:=hv
  have I1:Inv X pins σ H { s with heap:=h',toks:=tk }:=I.turned (fun b o hb e=>kk b o (by simpa using hb) e) f0 f1 f3 f4 f5
  refine⟨_,rfl,NF (s:={ s with heap:=h',toks:=tk }) (n:="range_iterator") st' rfl rfl (by decide) ⟨.int (lo+i),H,I1,⟨t,?_⟩,⟨rfl,rfl⟩,st',fun b hb=>(hf b hb).1⟩⟩
  rw[Int.mul_one]
 done:=by
  intro X hP hw hK hc i pins s σ H E I hf st hg
  subst hP hw hK
  obtain⟨f0,f1,f2,f3,f4,f5⟩:=hf it (by simp)
  exact wpAny_pyNext_range_end (I.ok.hd hc) st (by have:n<=i:=hg;lia) fun h' eb=>⟨rfl,I.turned (t':=s.toks) (fun b o hb e=>eb b o hb e) f0 f1 f3 f4 f5⟩
 self:=fun _ _ _ _ _ st h=>wpAny_pyIter_rangeiter st h
section
variable {X:Cx} {tg:Az}
def yV (K:AW) (tl:TE):TI:=fun σ H R=>tl σ H fun x H1=>∃a,x= .ref a/\(∃xs,AQ K H1 a xs)/\R (KC K a) H1
def ya (K:AW) (tl:TE):TI:=fun σ H R=>tl σ H fun x H1=>∃a,x= .ref a/\(∃xs,Ap K H1 a xs)/\R (KG K a) H1
theorem Dl {l:Az} {tl:TE} (hl:PE X l tl):PI X tg l (yV X.K tl):=by
 intro pins s σ H R I h
 refine Bh (hl pins s σ H _ I h) fun v s1 x H1 I1 r1 q1=>?_
 obtain⟨a,e,⟨xs,hq⟩,q⟩:=q1
 subst e
 cases r1
 obtain⟨AB,rv,p,hz⟩:=I1.list hq
 refine OX p.isList ?_
 refine⟨s1.heap.objs.size,[s1.heap.objs.size],_,_,H1,rfl,I1.kept (t':=s1.toks) fun b o e=>Bz _ e,AEY a _,⟨_,Ck _ rfl,rfl,rfl⟩,fun b hb=>?_,q⟩
 have e:b=s1.heap.objs.size:=by simpa using hb
 subst e
 exact I1.Iu (Aj _) (I1.hok.fresh (Aj _))
theorem Uu {l:Az} {tl:TE} (hl:PE X l tl):PI X tg l (ya X.K tl):=by
 intro pins s σ H R I h
 refine Bh (hl pins s σ H _ I h) fun v s1 x H1 I1 r1 q1=>?_
 obtain⟨a,e,⟨xs,hq⟩,q⟩:=q1
 subst e
 cases r1
 obtain⟨AB,rv,p,hz⟩:=I1.tuple hq
 refine wpAny_pyIter_tuple (show s1.heap.IsTuple a AB.toArray from p) ?_
 refine⟨s1.heap.objs.size,[s1.heap.objs.size],_,_,H1,rfl,I1.kept (t':=s1.toks) fun b o e=>Bz _ e,AEb a _,⟨_,Ck _ rfl,rfl,rfl⟩,fun b hb=>?_,q⟩
 have e:b=s1.heap.objs.size:=by simpa using hb
 subst e
 exact I1.Iu (Aj _) (I1.hok.fresh (Aj _))
theorem oE {pins:List (AA×Aq)} {σ:St} {H:Hp} {s:AI} {R:It->Hp->Prop} {E:AF->AI->Prop} {lo hi:Int} {t u v:E4} {tk:Nat} (I:Inv X pins σ H s) (h1: -(2 ^ 62)<=lo) (h2:lo < 2 ^ 62) (h3: -(2 ^ 62)<=hi) (h4:hi < 2 ^ 62)
 (q:R (LH lo (hi - lo).toNat) H):AU (AY X.prog X.w) X.A (pyIter (.ref s.heap.objs.size)) (PIE X pins σ tg R) E { s with heap:=s.heap.push { cls:=.type "range",data:=.fields #[.int lo t,.int hi u,.int 1 v] },toks:=tk }:=by
 refine wpAny_pyIter_range (IsRange.new ..) (small_one h1 h2 h3 h4) ?_
 have I1:Inv X pins σ H { s with heap:=s.heap.push { cls:=.type "range",data:=.fields #[.int lo t,.int hi u,.int 1 v] },toks:=tk }:=I.kept fun b o e=>Bz _ e
 refine⟨(s.heap.push { cls:=.type "range",data:=.fields #[.int lo t,.int hi u,.int 1 v] }).objs.size,[(s.heap.push { cls:=.type "range",data:=.fields #[.int lo t,.int hi u,.int 1 v] }).objs.size],_,_,H,rfl,
  I1.kept (t':=tk) fun b o e=>Bz _ e,AEZ _ lo (hi - lo).toNat,?_,fun b hb=>?_,q⟩
 . have e1:lo+((0:Nat):Int)*1=lo:=by simp
   have e2:(((hi - lo).toNat:Nat):Int) - ((0:Nat):Int)=Builtin.Range.rangeSize lo hi 1:=by rw[rangeSize_one];split <;> lia
   show IsRangeIter _ _ (lo+((0:Nat):Int)*1) ((((hi - lo).toNat:Nat):Int) - ((0:Nat):Int)) 1
   rw[e1,e2]
   exact Ck _ rfl
 . have e:b=(s.heap.push { cls:=.type "range",data:=.fields #[.int lo t,.int hi u,.int 1 v] }).objs.size:=by simpa using hb
   subst e
   exact I1.Iu (Aj _) (I1.hok.fresh (Aj _))
def yW (ta:TA):TI:=fun σ H R=>ta σ H fun vs H1=>∃j:Int,vs=[.int j]/\ -(2 ^ 62)<=j/\j < 2 ^ 62/\R (LH 0 j.toNat) H1
def yX (ta:TA):TI:=fun σ H R=>ta σ H fun vs H1=>∃i j:Int,vs=[.int i,.int j]/\(-(2 ^ 62)<=i/\i < 2 ^ 62/\ -(2 ^ 62)<=j/\j < 2 ^ 62)/\R (LH i (j - i).toNat) H1
theorem aH {a:Az} {ta:TA} {p pos:Bt} (hg:Gl X "range") (hm:X.mg "range"=none) (ha:PA X [a] ta) (hs:Bo [a] X.env=[(false,eval a X.env)]:=by rfl):PI X tg (.Call (.Name "range" p) [a] [] pos) (yW ta):=by
 intro pins s σ H R I h
 refine Call_ (JF I hg hm gh (Sw (Bh (ha pos pins s σ H _ I h) fun us s1 vs H1 I1 r1 q1=>?_) hs rfl))
 obtain⟨j,e,q1,q2,q⟩:=q1
 subst e
 cases r1 with
 | cons r rr=>
  cases rr
  obtain⟨t,rfl⟩:=r
  exact call_range_1 (oE I1 (by lia) (by lia) q1 q2 (by simpa using q))
theorem nV {a b:Az} {ta:TA} {p pos:Bt} (hg:Gl X "range") (hm:X.mg "range"=none) (ha:PA X [a,b] ta) (hs:Bo [a,b] X.env=[(false,eval a X.env),(false,eval b X.env)]:=by rfl) (hs2:Bo [b] X.env=[(false,eval b X.env)]:=by rfl):
 PI X tg (.Call (.Name "range" p) [a,b] [] pos) (yX ta):=by
 intro pins s σ H R I h
 refine Call_ (JF I hg hm gh (Sw (Bh (ha pos pins s σ H _ I h) fun us s1 vs H1 I1 r1 q1=>?_) (by rw[hs,hs2]) (by rw[hs2];rfl)))
 obtain⟨i,j,e,⟨q1,q2,q3,q4⟩,q⟩:=q1
 subst e
 cases r1 with
 | cons r rr=>
  cases rr with
  | cons r' rr=>
   cases rr
   obtain⟨t,rfl⟩:=r
   obtain⟨t',rfl⟩:=r'
   exact call_range_2 (oE I1 q1 q2 q3 q4 q)
def AD4 (wi:TI) (g:TG) (tb:TS):TS:=fun D σ H=>wi σ H fun J H1=>∃W:Nat->Nat->St->Hp->Prop,(∃m,W 0 m σ H1)/\∀i m σ H,W i m σ H->
 (J.stop i H/\D.nx σ H)\/(J.go i H/\∃N:St->Hp->Prop,(∀σ' H',N σ' H'->∃m',m' < m/\W (i+1) m' σ' H')/\∀x H',J.HW i H x H'->g x σ H' fun σ2 H2=>tb { D with nx:=N,ct:=N,bk:=D.nx } σ2 H2)
def RP (fp:List AA) (h:Ae):List (AA×Aq):=fp.filterMap fun b=>(h.get? b).map fun o=>(b,o)
theorem Zy {fp:List AA} {h:Ae} {b:AA} {o:Aq} (hb:b∈fp) (e:h.get? b=some o):(b,o)∈RP fp h:=List.mem_filterMap.mpr ⟨b,hb,by rw[e];rfl⟩
theorem AAX {fp:List AA} {h:Ae} {p:AA×Aq} (hp:p∈RP fp h):p.1∈fp/\h.get? p.1=some p.2:=by
 obtain⟨b,hb,e⟩:=List.mem_filterMap.mp hp
 cases q:h.get? b with
 | none=>rw[q] at e;cases e
 | some o=>
  rw[q] at e
  have e':(b,o)=p:=CL e
  subst e'
  exact⟨hb,q⟩
theorem Inv.pinned {pins:List (AA×Aq)} {σ:St} {H:Hp} {s:AI} {fp:List AA} (I:Inv X pins σ H s) (hf:∀b∈fp,DL X pins H b) (ho:∀b∈fp,∃o,s.heap.get? b=some o/\∀v,o.data≠ .cell v):Inv X (pins++RP fp s.heap) σ H s:=
 I.Ux fun p hp=>(D8.mp hp).elim (fun z=>I.pin p (DM _ z)) fun z=>by
  obtain⟨hb,e⟩:=AAX z
  obtain⟨f0,f1,f2,_⟩:=hf p.1 hb
  obtain⟨o,e',d⟩:=ho p.1 hb
  rw[e] at e';cases e'
  exact⟨e,f0,f1,f2,d⟩
theorem Inv.MP {pins pl:List (AA×Aq)} {σ:St} {H:Hp} {s:AI} (I:Inv X (pins++pl) σ H s):Inv X pins σ H s:=I.Ux fun p hp=>I.pin p (DM _ (Ht _ hp))
theorem El {iter:Az} {body:List Au} {wi:TI} {g:TG} {tb:TS} {pos:Bt} (hp:PassesOwn (AY X.prog X.w) X.A X.env X.xe) (hc:X.calm=true) (hi:PI X tg iter wi) (hg:PG X tg g) (hb:HB X body tb)
 (hs:∀x,foldedSetIterable iter X.env x=pure x:=by intro _;rfl):PS X (.For tg iter body [] pos) (AD4 wi g tb):=by
 intro pins s σ H D I h
 refine wpAny_For (Bv (hi pins s σ H _ I h) fun v s1 h1=>Bv h1 fun itv s2 h2=>?_) hs
 obtain⟨it,fp,tn,J,H2,e,I2,T,st2,f2,W,⟨m0,w0⟩,turn⟩:=h2
 subst e
 have stat:∀{H':Hp},(∀b∈fp,H' b=none)->∀b∈fp,DL X pins H' b:=fun hn b hb=>⟨hn b hb,(f2 b hb).2⟩
 refine codeAny_forLoop_any (fun n s'=>∃i σ' H',Inv X pins σ' H' s'/\tn i s'.heap/\(∀b∈fp,H' b=none)/\W i n σ' H') ?_ m0 ⟨0,σ,H2,I2,st2,fun b hb=>(f2 b hb).1,w0⟩
 rintro n s3 ⟨i,σ3,H3,I3,st3,jS,w3⟩
 rcases turn i n σ3 H3 w3 with ⟨stop,qn⟩ | ⟨go,N,hN,step⟩
 . refine OW hp (Bv (T.done X rfl rfl rfl hc i pins s3 σ3 H3 X.xe I3 (stat jS) st3 stop) fun r s4 ⟨hr,I4⟩=>?_)
   subst hr
   exact c7 ⟨σ3,H3,I4,qn⟩
 . refine OW hp (Bv (T.item X rfl rfl rfl hc i pins s3 σ3 H3 X.xe I3 (stat jS) st3 go) fun r s4 ⟨u,hr,h4⟩=>?_)
   subst hr
   refine OW hp (Bv h4 fun _ s5 ⟨x,H5,I5,r5,y5,st5,vJ⟩=>?_)
   have qU:=I5.pinned (stat vJ) (T.obj _ _ st5)
   refine OW hp (Bv (hg _ s5 σ3 H5 x u _ qU r5 (step x H5 y5)) fun _ s6 ⟨σ6,H6,I6,q6⟩=>?_)
   refine OW hp (Bv (hb _ s6 σ6 H6 _ I6 q6) fun f s7 q7=>?_)
   have again:∀{IQ:St} {H7:Hp},Inv X (pins++RP fp s5.heap) IQ H7 s7->N IQ H7->∃m,m < n/\∃i σ' H',Inv X pins σ' H' s7/\tn i s7.heap/\(∀b∈fp,H' b=none)/\W i m σ' H':=fun {IQ H7} I7 n7=>by
    obtain⟨m',hm,w7⟩:=hN IQ H7 n7
    refine⟨m',hm,i+1,IQ,H7,I7.MP,T.keep _ _ _ st5 fun b hb o e=>(I7.pin (b,o) (DM _ (DM _ (Zy hb e)))).1,fun b hb=>?_,w7⟩
    obtain⟨o,e,d⟩:=T.obj _ _ st5 b hb
    exact (I7.pin (b,o) (DM _ (DM _ (Zy hb e)))).2.1
   cases f with
   | next=>obtain⟨IQ,H7,I7,n7⟩:=q7;exact again I7 n7
   | cont=>obtain⟨IQ,H7,I7,n7⟩:=q7;exact again I7 n7
   | brk=>obtain⟨IQ,H7,I7,q7⟩:=q7;exact⟨IQ,H7,I7.MP,q7⟩
   | ret v=>obtain⟨x7,IQ,H7,I7,r7,q7⟩:=q7;exact⟨x7,IQ,H7,I7.MP,r7,q7⟩
end
theorem Ir {K:AW} {a:AA} {xs:List V} {g:TG} {tb:TS} {D:Ends} {σ:St} {H:Hp} (Pv:Nat->St->Hp->Prop) (h0:Pv 0 σ H) (hl:∀i σ H,i<=xs.length->Pv i σ H->AQ K H a xs)
 (hs:∀i x σ H,xs[i]? =some x->Pv i σ H->g x σ H fun σ2 H2=>tb { D with nx:=Pv (i+1),ct:=Pv (i+1),bk:=D.nx } σ2 H2) (hd:∀σ H,Pv xs.length σ H->D.nx σ H):
 ∃W:Nat->Nat->St->Hp->Prop,(∃m,W 0 m σ H)/\∀i m σ H,W i m σ H->
  ((KC K a).stop i H/\D.nx σ H)\/((KC K a).go i H/\∃N:St->Hp->Prop,(∀σ' H',N σ' H'->∃m',m' < m/\W (i+1) m' σ' H')/\∀x H',(KC K a).HW i H x H'->g x σ H' fun σ2 H2=>tb { D with nx:=N,ct:=N,bk:=D.nx } σ2 H2):=by
 refine⟨fun i m σ H=>m=xs.length - i/\i<=xs.length/\Pv i σ H,⟨xs.length,by simp,Ci _,h0⟩,?_⟩
 rintro i m σ H ⟨rfl,hi,p⟩
 have q:=hl i σ H hi p
 by_cases A1:i < xs.length
 . refine .inr ⟨⟨xs,xs[i],q,by simp[A1]⟩,Pv (i+1),fun σ' H' p'=>⟨xs.length - (i+1),by lia,rfl,A1,p'⟩,fun x H' y=>?_⟩
   obtain⟨e,y⟩:=y
   subst e
   exact hs i x σ _ (y xs q) p
 . have e:i=xs.length:=by lia
   subst e
   exact .inl ⟨⟨xs,q,Aj _⟩,hd σ H p⟩
theorem Yf {K:AW} {a:AA} {xs:List V} {g:TG} {tb:TS} {D:Ends} {σ:St} {H:Hp} (Pv:Nat->St->Hp->Prop) (h0:Pv 0 σ H) (hl:∀i σ H,i<=xs.length->Pv i σ H->Ap K H a xs)
 (hs:∀i x σ H,xs[i]? =some x->Pv i σ H->g x σ H fun σ2 H2=>tb { D with nx:=Pv (i+1),ct:=Pv (i+1),bk:=D.nx } σ2 H2) (hd:∀σ H,Pv xs.length σ H->D.nx σ H):
 ∃W:Nat->Nat->St->Hp->Prop,(∃m,W 0 m σ H)/\∀i m σ H,W i m σ H->
  ((KG K a).stop i H/\D.nx σ H)\/((KG K a).go i H/\∃N:St->Hp->Prop,(∀σ' H',N σ' H'->∃m',m' < m/\W (i+1) m' σ' H')/\∀x H',(KG K a).HW i H x H'->g x σ H' fun σ2 H2=>tb { D with nx:=N,ct:=N,bk:=D.nx } σ2 H2):=by
 refine⟨fun i m σ H=>m=xs.length - i/\i<=xs.length/\Pv i σ H,⟨xs.length,by simp,Ci _,h0⟩,?_⟩
 rintro i m σ H ⟨rfl,hi,p⟩
 have q:=hl i σ H hi p
 by_cases A1:i < xs.length
 . refine .inr ⟨⟨xs,xs[i],q,by simp[A1]⟩,Pv (i+1),fun σ' H' p'=>⟨xs.length - (i+1),by lia,rfl,A1,p'⟩,fun x H' y=>?_⟩
   obtain⟨e,y⟩:=y
   subst e
   exact hs i x σ _ (y xs q) p
 . have e:i=xs.length:=by lia
   subst e
   exact .inl ⟨⟨xs,q,Aj _⟩,hd σ H p⟩
theorem Qg {lo:Int} {n:Nat} {g:TG} {tb:TS} {D:Ends} {σ:St} {H:Hp} (Pv:Nat->St->Hp->Prop) (h0:Pv 0 σ H)
 (hs:∀i σ H,i < n->Pv i σ H->g (.int (lo+i)) σ H fun σ2 H2=>tb { D with nx:=Pv (i+1),ct:=Pv (i+1),bk:=D.nx } σ2 H2) (hd:∀σ H,Pv n σ H->D.nx σ H):
 ∃W:Nat->Nat->St->Hp->Prop,(∃m,W 0 m σ H)/\∀i m σ H,W i m σ H->
  ((LH lo n).stop i H/\D.nx σ H)\/((LH lo n).go i H/\∃N:St->Hp->Prop,(∀σ' H',N σ' H'->∃m',m' < m/\W (i+1) m' σ' H')/\∀x H',(LH lo n).HW i H x H'->g x σ H' fun σ2 H2=>tb { D with nx:=N,ct:=N,bk:=D.nx } σ2 H2):=by
 refine⟨fun i m σ H=>m=n - i/\i<=n/\Pv i σ H,⟨n,by simp,Ci _,h0⟩,?_⟩
 rintro i m σ H ⟨rfl,hi,p⟩
 by_cases A1:i < n
 . refine .inr ⟨A1,Pv (i+1),fun σ' H' p'=>⟨n - (i+1),by lia,rfl,A1,p'⟩,fun x H' y=>?_⟩
   obtain⟨e,y⟩:=y
   subst e y
   exact hs i σ _ A1 p
 . have e:i=n:=by lia
   subst e
   exact .inl ⟨Aj _,hd σ H p⟩
abbrev R2:=V->V->Hp->VK->Prop
def C7 (X:Cx) (f:AF->AF->Eo AF) (r:R2):Prop:=
 ∀(pins:List (AA×Aq)) (s:AI) (σ:St) (H:Hp) (x y:V) (v u:AF) (Q:VK),Inv X pins σ H s->RelV x v->RelV y u->r x y H Q->
  AU (AY X.prog X.w) X.A (f v u) (EP X pins σ Q) X.xe s
def Xr (X:Cx) (f:AF->Eo AF) (r:V->Hp->VK->Prop):Prop:=
 ∀(pins:List (AA×Aq)) (s:AI) (σ:St) (H:Hp) (x:V) (v:AF) (Q:VK),Inv X pins σ H s->RelV x v->r x H Q->
  AU (AY X.prog X.w) X.A (f v) (EP X pins σ Q) X.xe s
def JR (X:Cx) (f:AF) (r:List V->Hp->VK->Prop):Prop:=
 ∀(pins:List (AA×Aq)) (s:AI) (σ:St) (H:Hp) (xs:List V) (us:List AF) (Q:VK),Inv X pins σ H s->Vals xs us->r xs H Q->
  AU (AY X.prog X.w) X.A (call f us) (EP X pins σ Q) X.xe s
def OQ (r:R2) (ta tb:TE):TE:=fun σ H Q=>ta σ H fun x H1=>tb σ H1 fun y H2=>r x y H2 Q
def tUn (r:V->Hp->VK->Prop) (ta:TE):TE:=fun σ H Q=>ta σ H fun x H1=>r x H1 Q
def rI (C:Int->Int->Prop) (g:Int->Int->V):R2:=fun x y H Q=>∃i j,x= .int i/\y= .int j/\C i j/\Q (g i j) H
def Jw (g:Int->Int->V):R2:=fun x y H Q=>∃i j,x= .int i/\y= .int j/\Q (g i j) H
def rU (g:Int->V):V->Hp->VK->Prop:=fun x H Q=>∃i,x= .int i/\Q (g i) H
section
variable {X:Cx} {a b c:Az} {ta tb tc:TE} {pos:Bt}
theorem Xx (ha:PE X a ta) (hb:PE X b tb) {pins:List (AA×Aq)} {s:AI} {σ:St} {H:Hp} {R:V->V->Hp->Prop} (I:Inv X pins σ H s)
 (h:ta σ H fun x H1=>tb σ H1 fun y H2=>R x y H2) {Q:AF->AI->Prop} {f:AF->AF->Eo AF}
 (hf:∀v u s2 x y H2,Inv X pins σ H2 s2->RelV x v->RelV y u->R x y H2->AU (AY X.prog X.w) X.A (f v u) Q X.xe s2):
 AU (AY X.prog X.w) X.A (eval a X.env) (fun v s₁=>AU (AY X.prog X.w) X.A (eval b X.env) (fun u s₂=>AU (AY X.prog X.w) X.A (f v u) Q X.xe s₂) X.xe s₁) X.xe s:=by
 refine Bh (ha pins s σ H _ I h) fun v s1 x H1 I1 r1 q1=>?_
 refine Bh (hb pins s1 σ H1 _ I1 q1) fun u s2 y H2 I2 r2 q2=>?_
 exact hf v u s2 x y H2 I2 r1 r2 q2
theorem DF {op:Operator} {r:R2} (ho:C7 X (binaryOp op) r) (ha:PE X a ta) (hb:PE X b tb):PE X (.BinOp a op b pos) (OQ r ta tb):=by
 intro pins s σ H Q I h
 exact wpAny_BinOp (Xx ha hb I h fun v u s2 x y H2 I2 rx ry q=>ho pins s2 σ H2 x y v u Q I2 rx ry q)
theorem RN {op:UnaryOp} {r:V->Hp->VK->Prop} (ho:Xr X (unaryOp op) r) (ha:PE X a ta):PE X (.UnaryOp op a pos) (tUn r ta):=by
 intro pins s σ H Q I h
 exact UnaryOp_ (Bh (ha pins s σ H _ I h) fun v s1 x H1 I1 r1 q1=>ho pins s1 σ H1 x v Q I1 r1 q1)
theorem opI {f:AF->AF->Eo AF} {C:Int->Int->Prop} {g:Int->Int->Int}
 (rule:∀(i j:Int) (t u:E4) (s:AI) (Q:AF->AI->Prop) (E:AF->AI->Prop),C i j->Q (.int (g i j) s.toks) { s with toks:=s.toks+1 }->AU (AY X.prog X.w) X.A (f (.int i t) (.int j u)) Q E s):
 C7 X f (rI C fun i j=>.int (g i j)):=by
 intro pins s σ H x y v u Q I rx ry h
 obtain⟨i,j,rfl,rfl,hc,q⟩:=h
 obtain⟨t,rfl⟩:=rx
 obtain⟨t',rfl⟩:=ry
 exact rule i j t t' s _ _ hc ⟨.int (g i j),H,I.tok _,⟨_,rfl⟩,q⟩
theorem nA {f:AF->AF->Eo AF} {g:Int->Int->Int}
 (rule:∀(i j:Int) (t u:E4) (s:AI) (Q:AF->AI->Prop) (E:AF->AI->Prop),Q (.int (g i j) s.toks) { s with toks:=s.toks+1 }->AU (AY X.prog X.w) X.A (f (.int i t) (.int j u)) Q E s):
 C7 X f (Jw fun i j=>.int (g i j)):=by
 intro pins s σ H x y v u Q I rx ry h
 obtain⟨i,j,rfl,rfl,q⟩:=h
 obtain⟨t,rfl⟩:=rx
 obtain⟨t',rfl⟩:=ry
 exact rule i j t t' s _ _ ⟨.int (g i j),H,I.tok _,⟨_,rfl⟩,q⟩
theorem Um {f:AF->AF->Eo AF} {g:Int->Int->Bool}
 (rule:∀(i j:Int) (t u:E4) (s:AI) (Q:AF->AI->Prop) (E:AF->AI->Prop),Q (.bool (g i j)) s->AU (AY X.prog X.w) X.A (f (.int i t) (.int j u)) Q E s):
 C7 X f (Jw fun i j=>.bl (g i j)):=by
 intro pins s σ H x y v u Q I rx ry h
 obtain⟨i,j,rfl,rfl,q⟩:=h
 obtain⟨t,rfl⟩:=rx
 obtain⟨t',rfl⟩:=ry
 exact rule i j t t' s _ _ ⟨.bl (g i j),H,I,rfl,q⟩
theorem Fz:C7 X (binaryOp .Add) (Jw fun i j=>.int (i+j)):=nA fun _ _ _ _ _ _ _ q=>add_int q
theorem RK:C7 X (binaryOp .Sub) (Jw fun i j=>.int (i - j)):=nA fun _ _ _ _ _ _ _ q=>sub_int q
theorem nE:C7 X (binaryOp .Mod) (rI (fun _ j=>0 < j) fun i j=>.int (i%j)):=opI fun i j _ _ _ _ _ hc q=>by
 have h1:(0:Int) < j:=hc
 exact mod_int' (by lia) (by rw[Int.fmod_eq_emod_of_nonneg i (by lia)];exact q)
theorem unI {f:AF->Eo AF} {g:Int->Int}
 (rule:∀(i:Int) (t:E4) (s:AI) (Q:AF->AI->Prop) (E:AF->AI->Prop),Q (.int (g i) s.toks) { s with toks:=s.toks+1 }->AU (AY X.prog X.w) X.A (f (.int i t)) Q E s):
 Xr X f (rU fun i=>.int (g i)):=by
 intro pins s σ H x v Q I rx h
 obtain⟨i,rfl,q⟩:=h
 obtain⟨t,rfl⟩:=rx
 exact rule i t s _ _ ⟨.int (g i),H,I.tok _,⟨_,rfl⟩,q⟩
theorem SD:Xr X (unaryOp .USub) (rU fun i=>.int (-i)):=unI fun _ _ _ _ _ q=>neg_int q
end
def oq:V->V->Bool
 | .non,.non=>true | .non,.int _=>true | .int _,.non=>true | .non,.bl _=>true | .bl _,.non=>true | .non,.str _=>true | .str _,.non=>true
 | .int _,.int _=>true | .bl _,.bl _=>true | .str _,.str _=>true | .Fd _,.Fd _=>true
 | .int _,.str _=>true | .str _,.int _=>true | .bl _,.str _=>true | .str _,.bl _=>true
 | _,_=>false
def oB:R2:=fun x y H Q=>oq x y=true/\Q (.bl (decide (x=y))) H
def rNe:R2:=fun x y H Q=>oq x y=true/\Q (.bl (!decide (x=y))) H
theorem GF {i j:Int}:decide (V.int i=V.int j)=(i==j):=by
 rw[Gz]
 simp
theorem iQ {i j:Bool}:decide (V.bl i=V.bl j)=(i==j):=by
 rw[Gz]
 simp
theorem iT {i j:AG}:decide (V.str i=V.str j)=(i==j):=by
 rw[Gz]
 simp
theorem iR {i j:Array UInt8}:decide (V.Fd i=V.Fd j)=(i.toList==j.toList):=by
 rw[Gz]
 cases i
 cases j
 simp
section
variable {X:Cx} {a b c:Az} {ta tb tc:TE} {pos:Bt}
theorem DR {pins:List (AA×Aq)} {σ:St} {H:Hp} {s:AI} {Q:VK} {k k':Bool} (I:Inv X pins σ H s) (q:Q (.bl k) H) (e:k=k'):EP X pins σ Q (.bool k') s:=by
 subst e
 exact⟨.bl k,H,I,rfl,q⟩
theorem Fh:C7 X (D0 .Eq) oB:=by
 intro pins s σ H x y v u Q I rx ry h
 obtain⟨hs,q⟩:=h
 cases x with
 | non=>
  cases rx
  cases y with
  | non=>cases ry;exact PySem.EqNone.eq_none_none (DR I q (by simp))
  | bl j=>cases ry;exact PySem.EqNone.eq_none_bool (DR I q (by simp))
  | int j=>obtain⟨t',rfl⟩:=ry;exact PySem.EqNone.eq_none_int (DR I q (by simp))
  | str j=>obtain⟨t',rfl⟩:=ry;exact PySem.EqNone.eq_none_str (DR I q (by simp))
  | _=>exact absurd (show false=true from hs) Bw
 | bl i=>
  cases rx
  cases y with
  | non=>cases ry;exact PySem.EqNone.eq_bool_none (DR I q (by simp))
  | bl j=>cases ry;exact eq_bool (DR I q iQ)
  | str j=>obtain⟨t',rfl⟩:=ry;exact PySem.EqMixed.eq_bool_str (DR I q (by simp))
  | _=>exact absurd (show false=true from hs) Bw
 | int i=>
  obtain⟨t,rfl⟩:=rx
  cases y with
  | non=>cases ry;exact PySem.EqNone.eq_int_none (DR I q (by simp))
  | int j=>obtain⟨t',rfl⟩:=ry;exact eq_int (DR I q GF)
  | str j=>obtain⟨t',rfl⟩:=ry;exact PySem.EqMixed.eq_int_str (DR I q (by simp))
  | _=>exact absurd (show false=true from hs) Bw
 | str i=>
  obtain⟨t,rfl⟩:=rx
  cases y with
  | non=>cases ry;exact PySem.EqNone.eq_str_none (DR I q (by simp))
  | bl j=>cases ry;exact PySem.EqMixed.eq_str_bool (DR I q (by simp))
  | int j=>obtain⟨t',rfl⟩:=ry;exact PySem.EqMixed.eq_str_int (DR I q (by simp))
  | str j=>obtain⟨t',rfl⟩:=ry;exact eq_str (DR I q iT)
  | _=>exact absurd (show false=true from hs) Bw
 | Fd i=>
  obtain⟨t,rfl⟩:=rx
  cases y with
  | Fd j=>obtain⟨t',rfl⟩:=ry;exact PySem.W.eq_bytes (DR I q iR)
  | _=>exact absurd (show false=true from hs) Bw
 | _=>cases y <;> exact absurd (show false=true from hs) Bw
theorem L8:C7 X (D0 .NotEq) rNe:=by
 intro pins s σ H x y v u Q I rx ry h
 obtain⟨hs,q⟩:=h
 cases x with
 | non=>
  cases rx
  cases y with
  | non=>cases ry;exact PySem.EqNone.ne_none_none (DR I q (by simp))
  | bl j=>cases ry;exact PySem.EqNone.ne_none_bool (DR I q (by simp))
  | int j=>obtain⟨t',rfl⟩:=ry;exact PySem.EqNone.ne_none_int (DR I q (by simp))
  | str j=>obtain⟨t',rfl⟩:=ry;exact PySem.EqNone.ne_none_str (DR I q (by simp))
  | _=>exact absurd (show false=true from hs) Bw
 | bl i=>
  cases rx
  cases y with
  | non=>cases ry;exact PySem.EqNone.ne_bool_none (DR I q (by simp))
  | bl j=>cases ry;exact ne_bool (DR I q (congrArg not iQ))
  | str j=>obtain⟨t',rfl⟩:=ry;exact PySem.EqMixed.ne_bool_str (DR I q (by simp))
  | _=>exact absurd (show false=true from hs) Bw
 | int i=>
  obtain⟨t,rfl⟩:=rx
  cases y with
  | non=>cases ry;exact PySem.EqNone.ne_int_none (DR I q (by simp))
  | int j=>obtain⟨t',rfl⟩:=ry;exact ne_int (DR I q (congrArg not GF))
  | str j=>obtain⟨t',rfl⟩:=ry;exact PySem.EqMixed.ne_int_str (DR I q (by simp))
  | _=>exact absurd (show false=true from hs) Bw
 | str i=>
  obtain⟨t,rfl⟩:=rx
  cases y with
  | non=>cases ry;exact PySem.EqNone.ne_str_none (DR I q (by simp))
  | bl j=>cases ry;exact PySem.EqMixed.ne_str_bool (DR I q (by simp))
  | int j=>obtain⟨t',rfl⟩:=ry;exact PySem.EqMixed.ne_str_int (DR I q (by simp))
  | str j=>obtain⟨t',rfl⟩:=ry;exact ne_str (DR I q (congrArg not iT))
  | _=>exact absurd (show false=true from hs) Bw
 | Fd i=>
  obtain⟨t,rfl⟩:=rx
  cases y with
  | Fd j=>obtain⟨t',rfl⟩:=ry;exact PySem.W.ne_bytes (DR I q (congrArg not iR))
  | _=>exact absurd (show false=true from hs) Bw
 | _=>cases y <;> exact absurd (show false=true from hs) Bw
theorem L7:C7 X (D0 .Lt) (Jw fun i j=>.bl (decide (i < j))):=Um fun _ _ _ _ _ _ _ q=>lt_int q
theorem Jt:C7 X (D0 .LtE) (Jw fun i j=>.bl (decide (i<=j))):=Um fun _ _ _ _ _ _ _ q=>le_int q
theorem nB:C7 X (D0 .Gt) (Jw fun i j=>.bl (decide (j < i))):=Um fun _ _ _ _ _ _ _ q=>gt_int q
theorem Uo:C7 X (D0 .GtE) (Jw fun i j=>.bl (decide (j<=i))):=Um fun _ _ _ _ _ _ _ q=>ge_int q
theorem C7.or {f:AF->AF->Eo AF} {r r':R2} (h:C7 X f r) (h':C7 X f r'):C7 X f (fun x y H Q=>r x y H Q\/r' x y H Q):=by
 intro pins s σ H x y v u Q I rx ry q
 rcases q with q | q
 . exact h pins s σ H x y v u Q I rx ry q
 . exact h' pins s σ H x y v u Q I rx ry q
theorem Cy (b:Az) {op:JS} (h:op≠ .In:=by decide) (h2:op≠ .NotIn:=by decide):behindInMarks op b=false:=by
 have e1:(op==CmpOp.In)=false:=by cases op <;> first | rfl | exact absurd rfl h
 have e2:(op==CmpOp.NotIn)=false:=by cases op <;> first | rfl | exact absurd rfl h2
 cases b <;> simp[behindInMarks,e1,e2]
theorem IG {op:JS} {r:R2} (ho:C7 X (D0 op) r) (ha:PE X a ta) (hb:PE X b tb) (hm:behindInMarks op b=false):PE X (.Compare a [op] [b] pos) (OQ r ta tb):=by
 intro pins s σ H Q I h
 exact wpAny_Compare1 (Xx ha hb I h fun v u s2 x y H2 I2 rx ry q=>ho pins s2 σ H2 x y v u Q I2 rx ry q) hm
def Wo (t:TE):TT:=fun σ H Q=>t σ H fun x H'=>∃k,x= .bl k/\Q k H'
theorem DY {op:JS} {r:R2} (ho:C7 X (D0 op) r) (ha:PE X a ta) (hb:PE X b tb) (hm:behindInMarks op b=false):PT X (.Compare a [op] [b] pos) (Wo (OQ r ta tb)):=by
 intro pins s σ H Q I h
 refine wpAny_isTrue_Compare1 (Bh (ha pins s σ H _ I h) fun v s1 x H1 I1 r1 q1=>Bh (hb pins s1 σ H1 _ I1 q1) fun u s2 y H2 I2 r2 q2=>
  Bv (ho pins s2 σ H2 x y v u _ I2 r1 r2 q2) fun c s3 ⟨z,H3,I3,r3,k,e,q3⟩=>?_) hm
 subst e
 cases r3
 exact IP ⟨H3,I3,q3⟩
def pT (r r':R2) (ta tb tc:TE):TE:=fun σ H Q=>ta σ H fun x H1=>tb σ H1 fun y H2=>r x y H2 fun z H3=>∃k,z= .bl k/\
 (if k=true then tc σ H3 fun w' H4=>r' y w' H4 Q else Q (.bl false) H3)
theorem nP {op op':JS} {r r':R2} (ho:C7 X (D0 op) r) (ho':C7 X (D0 op') r') (ha:PE X a ta) (hb:PE X b tb) (hc:PE X c tc)
 (hm:lastMarks [op,op'] [b,c]=false:=by with_unfolding_all rfl):PE X (.Compare a [op,op'] [b,c] pos) (pT r r' ta tb tc):=by
 intro pins s σ H Q I h
 refine Compare_chain (Bh (ha pins s σ H _ I h) fun v s1 x H1 I1 r1 q1=>hJ (Bh (hb pins s1 σ H1 _ I1 q1) fun u s2 y H2 I2 r2 q2=>
  Bv (ho pins s2 σ H2 x y v u _ I2 r1 r2 q2) fun d s3 ⟨z,H3,I3,r3,k,e,q3⟩=>?_)) hm
 subst e
 cases r3
 refine IP ?_
 cases k with
 | false=>exact ite_ff ⟨.bl false,H3,I3,rfl,q3⟩
 | true=>exact ite_tt (chain_last (Bh (hc pins s3 σ H3 _ I3 q3) fun w' s4 z' H4 I4 r4 q4=>ho' pins s4 σ H4 y z' u w' Q I4 r2 r4 q4))
theorem n8 {op op':JS} {r r':R2} (ho:C7 X (D0 op) r) (ho':C7 X (D0 op') r') (ha:PE X a ta) (hb:PE X b tb) (hc:PE X c tc)
 (hm:lastMarks [op,op'] [b,c]=false:=by with_unfolding_all rfl):PT X (.Compare a [op,op'] [b,c] pos) (Wo (pT r r' ta tb tc)):=by
 intro pins s σ H Q I h
 refine isTrue_chain (Bh (ha pins s σ H _ I h) fun v s1 x H1 I1 r1 q1=>test_link (Bh (hb pins s1 σ H1 _ I1 q1) fun u s2 y H2 I2 r2 q2=>
  Bv (ho pins s2 σ H2 x y v u _ I2 r1 r2 q2) fun d s3 ⟨z,H3,I3,r3,k,e,q3⟩=>?_)) hm
 subst e
 cases r3
 refine IP ?_
 cases k with
 | false=>
  obtain⟨k',e',q'⟩:=q3
  cases e'
  exact ite_ff ⟨H3,I3,q'⟩
 | true=>
  refine ite_tt (test_last (Bh (hc pins s3 σ H3 _ I3 q3) fun w' s4 z' H4 I4 r4 q4=>Bv (ho' pins s4 σ H4 y z' u w' _ I4 r2 r4 q4) fun d' s5 ⟨z2,H5,I5,r5,k2,e2,q5⟩=>?_))
  subst e2
  cases r5
  exact IP ⟨H5,I5,q5⟩
theorem UZ:(AZ:Nat) < 2 ^ 63:=by rw[Dn];decide
theorem vals1 {x:V} {us:List AF} (r:Vals [x] us):∃u,us=[u]/\RelV x u:=by
 cases r with
 | cons r1 r2=>cases r2;exact⟨_,rfl,r1⟩
theorem vals2 {x y:V} {us:List AF} (r:Vals [x,y] us):∃u w',us=[u,w']/\RelV x u/\RelV y w':=by
 cases r with
 | cons r1 r2=>
  cases r2 with
  | cons r3 r4=>cases r4;exact⟨_,_,rfl,r1,r3⟩
theorem sk (hc:X.calm=true):JR X (.builtin "max") (fun xs H Q=>∃i j,xs=[.int i,.int j]/\Q (.int (if j > i then j else i)) H):=by
 intro pins s σ H xs us Q I r h
 obtain⟨i,j,rfl,q⟩:=h
 obtain⟨u,w',rfl,⟨t,rfl⟩,⟨t',rfl⟩⟩:=vals2 r
 refine max_two_ints (I.ok.hd hc) fun h' tk k=>⟨_,H,I.kept k,?_,q⟩
 by_cases hj:j > i
 . rw[if_pos hj,if_pos hj];exact⟨_,rfl⟩
 . rw[if_neg hj,if_neg hj];exact⟨_,rfl⟩
end
structure LS (h:Ae) (x dx C:AA) (mA:AG->Option AF):Prop where
 obj:h.get? x=some (LV C dx)
 ns:h.Ns1 dx mA
 ne:dx≠x
theorem zW {h:Ae} {dx:AA} {mA:AG->Option AF} (n:h.Ns1 dx mA):∃od,h.get? dx=some od/\∀name,Xi name od=some (mA name):=by
 obtain⟨o,es,ep,ho,hd,hk,_,hm⟩:=n
 refine⟨o,ho,fun name=>?_⟩
 have e:=hm name
 unfold nsFind findBy at e
 rw[<-Array.find?_toList] at e
 unfold Xi
 rw[hd]
 dsimp only
 split
 . rename_i y q
   rw[q] at e
   exact congrArg some e
 . rename_i q
   rw[q] at e
   have a:es.toList.any (·.refKey)=false:=by
    rw[List.any_eq_false]
    intro y hy
    obtain⟨z,t,hkey⟩:=hk y (Array.mem_toList_iff.mp hy)
    simp[DictEntry.refKey,hkey]
   have a':¬es.toList.any (·.refKey)=true:=by rw[a];exact Bw
   rw[if_neg a']
   exact congrArg some e
theorem LS.look {h:Ae} {x dx C:AA} {mA:AG->Option AF} (I:LS h x dx C mA):∃od,PySem.W.InstAt h x (LV C dx) C (some od)/\∀name,Xi name od=some (mA name):=
 let ⟨od,ho,hl⟩:=zW I.ns
 ⟨od,⟨I.obj,rfl,rfl,ho⟩,hl⟩
section
variable {prog:Av} {w:Am} {A:Bf} {E:AF->AI->Prop} {s:AI} {K:AW} {x dx C f:AA} {mA:AG->Option AF} {name:AG} {v:AF}
theorem get_map {expr:Bool} {Q:AF->AI->Prop} (X:K.In s.heap) (I:LS s.heap x dx C mA) (hg:Xj K C name=true) (hh:fO K C=true)
 (ha:Ie K (.ref C) name=some none) (hv:mA name=some v) (hv':PySem.W.handedIn v=true) (h:Q v { s with toks:=s.toks+1 }):
 AU (AY prog w) A (getAttr (.ref x) name expr) Q E s:=by
 obtain⟨od,J,hl⟩:=I.look
 exact PySem.W.get_value X J (fb hg).1 (PySem.W.findObj_own hh ha rfl (by rw[hl,hv])) hv' h
theorem wO {pl:Eo Bool} {Q:AF×List AF->AI->Prop} (X:K.In s.heap) (I:LS s.heap x dx C mA) (hg:Xj K C name=true)
 (hf:Ie K (.ref C) name=some (some (.ref f))) (ht:Sx K (.ref f)=true) (hv:mA name=none) (h:Q (.ref f,[.ref x]) s):
 AU (AY prog w) A (getMethod (.ref x) name pl) Q E s:=by
 obtain⟨od,J,hl⟩:=I.look
 exact PySem.W.method_fn X J (fb hg).1 (fb hg).2 hf (beq_iff_eq.mp ht) (by show (Xi name od).map (·.isSome)=some false;rw[hl,hv];rfl) h
theorem ADR {ns:List AG} {Q:Unit->AI->Prop} (X:K.In s.heap) (I:LS s.heap x dx C mA)
 (hs:Ie K (.ref C) "__setattr__"=some (some (.builtin "object.__setattr__"))) (hp:PySem.W.plainOver K C=true) (ht:fc K C name=some none) (hh:fO K C=true)
 (hw:Xk mA ns) (hsz:ns.length<=AZ)
 (h:∀h',LS h' x dx C (fun y=>if y=name then some v else mA y)->Fn dx s.heap h'->Q () { s with heap:=h',toks:=s.toks+2 }):
 AU (AY prog w) A (setAttr (.ref x) name v) Q E s:=by
 obtain⟨od,J,hl⟩:=I.look
 refine PySem.W.set_plain X J hs (PySem.W.osa_open (s:={ s with toks:=s.toks+1 }) (r:=none) X J hp ht fun b=>?_)
 obtain⟨cd,hc,hd'⟩:=PySem.W.any_some hh
 have hx:s.heap.get? x=some ⟨.ref C,some dx,.plain,#[]⟩:=I.obj
 refine AJ (Ai (AJ (AJ (wpAny_loadPart hx (AJ (PySem.W.Looks.here (s:={ s with toks:=s.toks+1 }) (PySem.W.looks_clsIn X hc) ?_))))))
 rw[hd']
 refine Ai (a:=some dx) (AJ (Ai (AJ ?_)))
 refine wpAny_nsSet1 (s:={ s with toks:=s.toks+1 }) I.ns fun h' hn2 hs2=>?_
 obtain⟨oD,esD,epD,hoD,hdD,hcD⟩:=hn2.count (Xk.cons name v hw)
 refine AJ (wpAny_lookBehind hoD (by rw[hdD];exact pastItsLine_dict (BP hcD (by rw[BO];lia))) ?_)
 exact Ai (h _ ⟨(hs2.2 _ (Ne.symm I.ne)).trans I.obj,hn2,I.ne⟩ hs2)
theorem zr {R:Result->AI->Prop} {vs:List AF} {kw:List (AG×AF)} (X:K.In s.heap) (hm:fP K C=true)
 (hi:Ie K (.ref C) "__init__"=some (some (.ref f))) (hf:PySem.W.typeIn K (.ref f)=some (.type "function"))
 (h:codeAny (AY prog w) (A.under (.builtin "type.__call__" ⟨.ref C::vs,kw⟩)) (.call (.ref f) ⟨.ref (s.heap.objs.size+1)::vs,kw⟩) (PySem.W.InitBack (s.heap.objs.size+1) R)
  { s with heap:=(s.heap.push KR).push (LV C s.heap.objs.size) }):
 codeAny (AY prog w) A (.call (.ref C) ⟨vs,kw⟩) R s:=by
 obtain⟨hh,g,d,t,os⟩:=s
 exact PySem.W.make_core (PySem.W.makes_of X hm) (PySem.W.looks_findIn X hi) (fun self=>PySem.W.bind_fn X self hf) (.inl rfl) h
end
def Dm (f:AG) (v:V):List (AG×V)->List (AG×V)
 | []=>[(f,v)]
 | (g,x)::r=>if g=f then (g,v)::r else (g,x)::Dm f v r
theorem ll (f g:AG) (v:V):∀fs:List (AG×V),(Dm f v fs).lookup g=if g=f then some v else fs.lookup g
 | []=>by
  show LN g [(f,v)]=_
  by_cases h:g=f
  . have hb:(g==f)=true:=beq_iff_eq.mpr h
    simp only[LN,hb,if_pos h]
  . have hb:(g==f)=false:=beq_eq_false_iff_ne.mpr h
    simp only[LN,hb,if_neg h]
 | (k,x)::r=>by
  have ih:=ll f g v r
  rw[show Dm f v ((k,x)::r)=(if k=f then (k,v)::r else (k,x)::Dm f v r) from rfl]
  by_cases hk:k=f
  . rw[if_pos hk]
    by_cases h:g=k
    . have hb:(g==k)=true:=beq_iff_eq.mpr h
      simp only[LN,hb,if_pos (h.trans hk)]
    . have hb:(g==k)=false:=beq_eq_false_iff_ne.mpr h
      simp only[LN,hb,if_neg (fun e:g=f=>h (e.trans hk.symm))]
  . rw[if_neg hk]
    by_cases h:g=k
    . have hb:(g==k)=true:=beq_iff_eq.mpr h
      simp only[LN,hb,if_neg (fun e:g=f=>hk (h.symm.trans e))]
    . have hb:(g==k)=false:=beq_eq_false_iff_ne.mpr h
      simp only[LN,hb]
      exact ih
theorem Zn (f:AG) (v:V):∀fs:List (AG×V),f∈(Dm f v fs).map (·.1)/\∀g,g∈fs.map (·.1)->g∈(Dm f v fs).map (·.1)
 | []=>⟨by simp[Dm],fun g h=>by simp at h⟩
 | (k,x)::r=>by
  obtain⟨i1,i2⟩:=Zn f v r
  rw[show Dm f v ((k,x)::r)=(if k=f then (k,v)::r else (k,x)::Dm f v r) from rfl]
  by_cases hk:k=f
  . rw[if_pos hk]
    subst hk
    exact⟨by simp,fun g h=>by simpa using h⟩
  . rw[if_neg hk]
    refine⟨?_,fun g h=>?_⟩
    . rw[CP]
      exact B2 _ i1
    . rw[CP] at h ⊢
      rcases BK.mp h with e | e
      . exact BK.mpr (.inl e)
      . exact B2 _ (i2 g e)
theorem lT (f:AG) (v:V):∀fs:List (AG×V),(Dm f v fs).length<=fs.length+1
 | []=>by simp[Dm]
 | (k,x)::r=>by
  have ih:=lT f v r
  rw[show Dm f v ((k,x)::r)=(if k=f then (k,v)::r else (k,x)::Dm f v r) from rfl]
  by_cases hk:k=f
  . rw[if_pos hk,BO,BO];lia
  . rw[if_neg hk,BO,BO];lia
theorem FX.some_of {v:V} {o:Option AF} (r:FX (some v) o):∃u,o=some u/\RelV v u:=by
 cases o with
 | none=>exact (show False from r).elim
 | some u=>exact⟨u,rfl,r⟩
theorem FX.none_of {o:Option AF} (r:FX none o):o=none:=by
 cases o with
 | none=>rfl
 | some u=>exact (show False from r).elim
theorem xD {v:V} {u:AF} (r:RelV v u):PySem.W.handedIn u=true:=by
 cases v with
 | non=>cases (show u=Gn from r);rfl
 | bl b=>cases (show u=Mp b from r);rfl
 | int i=>obtain⟨t,e⟩:=(show ∃t,u=Mq i t from r);cases e;rfl
 | str x=>obtain⟨t,e⟩:=(show ∃t,u=S0 x t from r);cases e;rfl
 | Fd b=>obtain⟨t,e⟩:=(show ∃t,u=Value.bytes b t from r);cases e;rfl
 | flt b=>obtain⟨t,e⟩:=(show ∃t,u=Value.float b t from r);cases e;rfl
 | ref a=>cases (show u=Cv a from r);rfl
 | ty n=>cases (show u=F4 n from r);rfl
section
variable {P:Av} {w:Am} {H H':Hp} {h h':Ae} {a C dx:AA} {fs fs':List (AG×V)}
theorem Ze (hok:C0 P w H h) (e:H a=some (.ins C dx fs)):∃mA,LS h a dx C mA/\(∀f,FX (fs.lookup f) (mA f))/\Xk mA (fs.map (·.1))/\fs.length<=1000/\H dx=some (.own a):=by
 obtain⟨d,z,ne,ob,mA,n,r,q⟩:=(show DB P w H h a (.ins C dx fs) from hok a _ e)
 exact⟨mA,⟨ob,n,ne⟩,r,q,z,d⟩
end
structure FU (K:AW) (C:AA):Prop where
 pg:Xj K C Str.empty=true
 hd:fO K C=true
 po:PySem.W.plainOver K C=true
 sa:Ie K (.ref C) "__setattr__"=some (some (.builtin "object.__setattr__"))
theorem FU.get {K:AW} {C:AA} (c:FU K C) (f:AG):Xj K C f=true:=c.pg
def DH (K:AW) (C:AA) (f:AG):Prop:=Ie K (.ref C) f=some none
theorem DH.taker {K:AW} {C:AA} {f:AG} (n:DH K C f):fc K C f=some none:=by
 unfold fc
 rw[show Ie K (.ref C) f=some none from n]
 rfl
structure Meth (K:AW) (C:AA) (m:AG) (f:AA):Prop where
 at_:Ie K (.ref C) m=some (some (.ref f))
 fn:Sx K (.ref f)=true
 kp:D9 K (.ref f)=true
section
variable {X:Cx} {pins:List (AA×Aq)} {σ:St} {H:Hp} {s:AI} {a C dx:AA} {fs:List (AG×V)} {f:AG} {v:V} {A:Bf} {E:AF->AI->Prop}
theorem wQ {b:Bool} {Q:AF->AI->Prop} (I:Inv X pins σ H s) (e:H a=some (.ins C dx fs)) (c:FU X.K C) (n:DH X.K C f) (l:fs.lookup f=some v)
 (h:∀u s',Inv X pins σ H s'->RelV v u->Q u s'):AU (AY X.prog X.w) A (getAttr (.ref a) f b) Q E s:=by
 obtain⟨mA,O,r,_,_,_⟩:=Ze I.hok e
 obtain⟨u,hu,ru⟩:=FX.some_of (v:=v) (o:=mA f) (by rw[<-l];exact r f)
 exact get_map I.Ff O (c.get f) c.hd n hu (xD ru) (h u _ (I.tok _) ru)
theorem Yv {m:AG} {g:AA} {pl:Eo Bool} {Q:AF×List AF->AI->Prop} (I:Inv X pins σ H s) (e:H a=some (.ins C dx fs)) (c:FU X.K C) (k:Meth X.K C m g) (l:fs.lookup m=none)
 (h:Q (.ref g,[.ref a]) s):AU (AY X.prog X.w) A (getMethod (.ref a) m pl) Q E s:=by
 obtain⟨mA,O,r,_,_,_⟩:=Ze I.hok e
 have hn:mA m=none:=FX.none_of (by rw[<-l];exact r m)
 exact wO I.Ff O (c.get m) k.at_ k.fn hn h
theorem ADV {y:V} {u:AF} {Q:Unit->AI->Prop} (I:Inv X pins σ H s) (e:H a=some (.ins C dx fs)) (c:FU X.K C) (n:DH X.K C f) (hl:fs.length < 1000) (ry:RelV y u)
 (h:∀s',Inv X pins σ (upd H a (.ins C dx (Dm f y fs))) s'->Q () s'):AU (AY X.prog X.w) A (setAttr (.ref a) f u) Q E s:=by
 obtain⟨mA,O,r,wi,_,ho⟩:=Ze I.hok e
 have hz:(fs.map (·.1)).length<=AZ:=by rw[AR,Dn];lia
 refine ADR I.Ff O c.sa c.po n.taker c.hd wi hz fun h' O' sb=>h _ ?_
 have hd:∃o,h'.get? dx=some o:=let ⟨o,_,_,e',_⟩:=O'.ns;⟨o,e'⟩
 refine I.write (x:=a) (e:=dx) (by rw[e];exact True.intro) (.inr ho) (fun b q hb z=>(sb.2 b hb).trans z) hd ?_
 refine⟨by rw[AV O.ne];exact ho,?_,O.ne,O'.obj,_,O'.ns,fun g=>?_,fun g hg=>?_⟩
 . have:=lT f y fs;lia
 . show FX ((Dm f y fs).lookup g) (if g=f then some u else mA g)
   rw[ll]
   by_cases q:g=f
   . rw[if_pos q,if_pos q];exact ry
   . rw[if_neg q,if_neg q];exact r g
 . by_cases q:g=f
   . rw[q];exact (Zn f y fs).1
   . refine (Zn f y fs).2 g (wi g fun z=>hg ?_)
     show (if g=f then some u else mA g)=none
     rw[if_neg q];exact z
theorem Inv.made (I:Inv X pins σ H s):Inv X pins σ (upd (upd H s.heap.objs.size (.own (s.heap.objs.size+1))) (s.heap.objs.size+1) (.ins C s.heap.objs.size []))
 { s with heap:=(s.heap.push KR).push (LV C s.heap.objs.size) }:=by
 have e1:(s.heap.push KR).get? s.heap.objs.size=some KR:=Ck s.heap rfl
 have e2:((s.heap.push KR).push (LV C s.heap.objs.size)).get? (s.heap.objs.size+1)=some (LV C s.heap.objs.size):=by
  have:=Ck (s.heap.push KR) (o:=LV C s.heap.objs.size) rfl
  rwa[FA] at this
 have e3:(s.heap.push KR).Ns s.heap.objs.size (fun _=>none):=⟨KR,#[],_,e1,rfl,(fun e he=>absurd he (by simp)),fun _=>rfl⟩
 have I1:=I.laid (a:=s.heap.objs.size) (o:=.own (s.heap.objs.size+1)) (h':=s.heap.push KR) (t':=s.toks) (fun b u q=>Bz _ q) (Aj _) ⟨_,e1⟩
 refine I1.laid (a:=s.heap.objs.size+1) (o:=.ins C s.heap.objs.size []) (t':=s.toks) (fun b u q=>Bz _ q) (JZ (FA _ _)) ?_
 have ne:s.heap.objs.size≠s.heap.objs.size+1:=C4 (Hu _)
 refine⟨by rw[AV ne,AO],Ci _,ne,e2,fun _=>none,(Heap.Ns1.of_empty e3).at fun o q=>Bz _ q,fun _=>True.intro,fun y hy=>absurd rfl hy⟩
theorem qz {prog:Av} {w:Am} {env:Dh} {e:Az} {f:AG} {pos:Bt} {s:AI} {Q:AF->AI->Prop} (hb:attributeBase e f env (eval e env)=eval e env)
 (h:AU (AY prog w) A (eval e env) (fun o s₁=>AU (AY prog w) A (getAttr o f true) Q E s₁) E s):AU (AY prog w) A (eval (.Attribute e f pos) env) Q E s:=
 Attribute_any_ h (by rw[arm_eval_Attribute,hb])
end
def Wl (K:AW) (ta:TE) (f:AG):TE:=fun σ H Q=>ta σ H fun x H1=>∃a C dx fs v,x= .ref a/\H1 a=some (.ins C dx fs)/\FU K C/\DH K C f/\fs.lookup f=some v/\Q v H1
def ACr (K:AW) (ta tv:TE) (f:AG):TS:=fun D σ H=>tv σ H fun y H1=>ta σ H1 fun x H2=>∃a C dx fs,x= .ref a/\H2 a=some (.ins C dx fs)/\FU K C/\DH K C f/\fs.length < 1000/\
 D.nx σ (upd H2 a (.ins C dx (Dm f y fs)))
section
variable {X:Cx} {o e value:Az} {f:AG} {pos pos' tpos:Bt} {ta tv:TE}
theorem Ay (he:PE X e ta) (hb:attributeBase e f X.env (eval e X.env)=eval e X.env):PE X (.Attribute e f pos) (Wl X.K ta f):=by
 intro pins s σ H Q I h
 refine qz hb (Bv (he pins s σ H _ I h) fun u s1 ⟨x,H1,I1,rx,a,C,dx,fs,v,ex,ea,c,n,l,q⟩=>?_)
 subst ex
 obtain rfl:u=Cv a:=rx
 exact wQ I1 ea c n l fun u' s2 I2 ru=>⟨v,H1,I2,ru,q⟩
theorem EC (ha:PE X o ta) (hv:PE X value tv) (hs:swapsWith value (some (.Attribute o f pos')) pos.line X.env=pure false):PS X (.Assign [.Attribute o f pos'] value pos) (ACr X.K ta tv f):=by
 intro pins s σ H D I h
 refine plainObj_wpAny_Assign_Attribute (Bh (hv pins s σ H _ I h) fun u s1 y H1 I1 ry q=>Bv (ha pins s1 σ H1 _ I1 q) fun ov s2 ⟨x,H2,I2,rx,a,C,dx,fs,ex,ea,c,n,l,q2⟩=>?_) hs
 subst ex
 obtain rfl:ov=Cv a:=rx
 exact ADV I2 ea c n l ry fun s3 I3=>⟨σ,_,I3,q2⟩
theorem AE4 {pl:Eo Bool} {m:AG} {Ej:Bt} {args:List Az} {pins:List (AA×Aq)} {s:AI} {σ:St} {H:Hp} {Q:AF->AI->Prop} {te:TE} (he:PE X e te) (I:Inv X pins σ H s)
 (h:te σ H fun x H1=>∃a C dx fs g,x= .ref a/\H1 a=some (.ins C dx fs)/\FU X.K C/\Meth X.K C m g/\fs.lookup m=none/\
  ∀s1,Inv X pins σ H1 s1->AU (AY X.prog X.w) X.A (callWith pos (.ref g) [.ref a] (backTo pos (Bo args X.env)) (backToKw pos (Gs [] X.env))) Q X.xe s1)
 (ht:eval (.Call (.Attribute e m Ej) args [] pos) X.env=(do
  let ov <-eval e X.env
  standAt Ej.atName
  let (f,first) <-holding [ov] (getMethod ov m pl)
  callWith pos f first (backTo pos (Bo args X.env)) (backToKw pos (Gs [] X.env)))):
 AU (AY X.prog X.w) X.A (eval (.Call (.Attribute e m Ej) args [] pos) X.env) Q X.xe s:=by
 refine fR (pl:=pl) (Bv (he pins s σ H _ I h) fun u s1 ⟨x,H1,I1,rx,a,C,dx,fs,g,ex,ea,c,k,l,q⟩=>?_) ht
 subst ex
 obtain rfl:u=Cv a:=rx
 exact Yv I1 ea c k l (q s1 I1)
end
structure BW (k:Nat) (A:Bf):Prop where
 hd:A.handled=none
 dp:A.depth+3*k+5 < recursionLimit
 un:A.units+16*k+200 < cLine
theorem BW.mono {j k:Nat} {A:Bf} (r:BW k A) (h:j<=k):BW j A:=⟨r.hd,by have:=r.dp;lia,by have:=r.un;lia⟩
theorem BW.deeper {k:Nat} {A:Bf} (r:BW (k+1) A) (env:Dh):BW k (A.deeper env):=
 ⟨r.hd,by have:=r.dp;show A.depth+1+3*k+5 < _;lia,by have:=r.un;show A.units+3+16*k+200 < _;lia⟩
theorem BW.in1 {k:Nat} {A:Bf} (r:BW (k+1) A):BW k A.in1:=
 ⟨r.hd,by have:=r.dp;show A.depth+3*k+5 < _;lia,by have:=r.un;show A.units+1+16*k+200 < _;lia⟩
theorem zq {A:Bf} {C:AA} {us:List AF} {kw:List (AG×AF)}:(A.under (.builtin "type.__call__" ⟨.ref C::us,kw⟩)).depth=A.depth+1:=by
 first | rfl | simp[Around.under,Code.weight,Code.isCreation,Code.isGuard,Code.isCaller,Code.frames,Code.isFrame,guardIds]
theorem zt {A:Bf} {C:AA} {us:List AF} {kw:List (AG×AF)}:(A.under (.builtin "type.__call__" ⟨.ref C::us,kw⟩)).units=A.units+1:=by
 first | rfl | simp[Around.under,Code.cUnits,Code.frames,Code.isFrame]
theorem BW.make {k:Nat} {A:Bf} (r:BW (k+1) A) (C:AA) (us:List AF) (kw:List (AG×AF)):BW k (A.under (.builtin "type.__call__" ⟨.ref C::us,kw⟩)):=
 ⟨r.hd,by have:=r.dp;rw[zq];lia,by have:=r.un;rw[zt];lia⟩
theorem BW.depth {k:Nat} {A:Bf} (r:BW k A):A.depth < recursionLimit:=by have:=r.dp;lia
theorem BW.units {k:Nat} {A:Bf} (r:BW k A):A.units+64 < cLine:=by have:=r.un;lia
theorem BW.AEi {k:Nat} {A:Bf} (r:BW k A):A.units < cLine:=by have:=r.un;lia
def R7:TA:=fun _ H Q=>Q [] H
def Wk (ta:TE) (tr:TA):TA:=fun σ H Q=>ta σ H fun x H1=>tr σ H1 fun xs H2=>Q (x::xs) H2
section
variable {X:Cx} {e:Az} {es:List Az} {te:TE} {t:TA} {pos:Bt}
theorem AK:PA X [] R7:=fun _ _ _ _ H Q I h=>Calls.spliced_nil ⟨[],H,I,.nil,h⟩
theorem AH (ha:PE X e te) (hr:PA X es t) (hs:Bo (e::es) X.env=(false,eval e X.env)::Bo es X.env:=by rfl):PA X (e::es) (Wk te t):=by
 intro pos pins s σ H Q I h
 rw[hs]
 show AU _ _ (spliced ((false,eval e X.env)::backTo pos (Bo es X.env))) _ _ s
 refine Calls.spliced_cons (Bh (ha pins s σ H _ I h) fun u s1 x H1 I1 r1 q1=>?_)
 exact Bh (hr pos pins s1 σ H1 _ I1 q1) fun us s2 xs H2 I2 r2 q2=>⟨x::xs,H2,I2,.cons r1 r2,q2⟩
def AEM (t:TA):TE:=fun σ H Q=>t σ H fun xs H1=>xs.length<=AZ/\∀p,H1 p=none->Q (.ref p) (upd H1 p (.tup xs))
def AEA (t:TA):TE:=fun σ H Q=>t σ H fun xs H1=>xs.length<=AZ/\∀p,H1 p=none->Q (.ref p) (upd H1 p (.lst xs))
theorem Ex {x1} (h:PA X es t):PE X (.Tuple es x1 pos) (AEM t):=by
 intro pins s σ H Q I hq
 refine wpAny_Tuple_spliced (Bv (h pos pins s σ H _ I hq) fun us s1 ⟨xs,H1,I1,r,z,q⟩=>⟨by rw[<-r.length];exact z,?_⟩)
 have hf:H1 s1.heap.objs.size=none:=I1.hok.fresh (Aj _)
 refine⟨.ref s1.heap.objs.size,upd H1 s1.heap.objs.size (.tup xs),I1.laid (t':=s1.toks) (fun b u e=>Bz _ e) (Aj _) ?_,rfl,q _ hf⟩
 exact⟨z,us,r,⟨_,Ck _ rfl,rfl,_,rfl⟩⟩
theorem DE (h:PA X es t):PE X (.List es pos) (AEA t):=by
 intro pins s σ H Q I hq
 refine wpAny_List_spliced (Bv (h pos pins s σ H _ I hq) fun us s1 ⟨xs,H1,I1,r,z,q⟩=>⟨by rw[<-r.length];exact z,?_⟩)
 have hf:H1 s1.heap.objs.size=none:=I1.hok.fresh (Aj _)
 refine⟨.ref s1.heap.objs.size,upd H1 s1.heap.objs.size (.lst xs),I1.laid (t':=s1.toks) (fun b u e=>Bz _ e) (Aj _) ?_,rfl,q _ hf⟩
 exact⟨z,us,0,r,Ck _ rfl⟩
end
abbrev Sp:=List V->Hp->VK->XK->Prop
abbrev FT:=List Dh->Hp->AI->XK->AF->AI->Prop
structure LD (P:Av) (w:Am) (K:AW) (mg:AG->Option AF) (base:Ae) (A:Bf) (outer:List Dh) (s:AI) (H:Hp):Prop where
 frames:A.frames=some outer
 mod:Mod K mg base
 bs:∀b o,base.get? b=some o->s.heap.get? b=some o/\H b=none
 Hg:base.objs.size<=s.heap.objs.size
 Gr:s.heap.FunFrames base outer
 Ji:∀b∈frs outer,H b=none
 hok:C0 P w H s.heap
 bare:AllBare s.gens
def CE (outer:List Dh) (P:Av) (w:Am) (H:Hp) (s:AI) (Q:VK) (u:AF) (s':AI):Prop:=
 ∃v H',s'.os=s.os/\AllBare s'.gens/\Un (frs outer) [] H H' s.heap s'.heap/\C0 P w H' s'.heap/\RelV v u/\Q v H'
def CR (CX:FT) (outer:List Dh) (P:Av) (w:Am) (H:Hp) (s:AI) (Q:VK) (E:XK) (r:Result) (s':AI):Prop:=
 match r with
 | .ok (.ret u)=>CE outer P w H s Q u s'
 | .ok _=>False
 | .error e=>CX outer H s E e s'
structure Aa (P:Av) (w:Am) (K:AW) (mg:AG->Option AF) (base:Ae) (CX:FT) (k:Nat) (f:AA) (fd:A2) (ps:List AG) (sp:Sp):Prop where
 len:∀vs H Q E,sp vs H Q E->vs.length=ps.length
 run:∀(A:Bf) (outer:List Dh) (s:AI) (H:Hp) (args:Args) (us:List AF) (vs:List V) (Q:VK) (E:XK),BW k A->LD P w K mg base A outer s H->BindsTo s fd args (ps.zip us)->Vals vs us->sp vs H Q E->
  codeAny (AY P w) A (.call (.ref f) args) (CR CX outer P w H s Q E) s
theorem Aa.mono {P:Av} {w:Am} {K:AW} {mg:AG->Option AF} {base:Ae} {CX:FT} {j k:Nat} {f:AA} {fd:A2} {ps:List AG} {sp:Sp} (F:Aa P w K mg base CX j f fd ps sp) (h:j<=k):
 Aa P w K mg base CX k f fd ps sp:=⟨F.len,fun A outer s H args us vs Q E hr=>F.run A outer s H args us vs Q E (hr.mono h)⟩
theorem Aa.imp {P:Av} {w:Am} {K:AW} {mg:AG->Option AF} {base:Ae} {CX:FT} {k:Nat} {f:AA} {fd:A2} {ps:List AG} {sp o5:Sp} (F:Aa P w K mg base CX k f fd ps sp)
 (h:∀vs H Q E,o5 vs H Q E->sp vs H Q E):Aa P w K mg base CX k f fd ps o5:=
 ⟨fun vs H Q E q=>F.len vs H Q E (h _ _ _ _ q),fun A outer s H args us vs Q E hr he hb hv hs=>F.run A outer s H args us vs Q E hr he hb hv (h _ _ _ _ hs)⟩
theorem LD.make {P:Av} {w:Am} {K:AW} {mg:AG->Option AF} {base:Ae} {A:Bf} {outer:List Dh} {s:AI} {H:Hp} (e:LD P w K mg base A outer s H) (C:AA) (us:List AF) (kw:List (AG×AF)):
 LD P w K mg base (A.under (.builtin "type.__call__" ⟨.ref C::us,kw⟩)) outer s H:=⟨by first | exact e.frames | (simpa [Around.under,Code.envs,Code.isFrame,pushEnvs] using e.frames),e.mod,e.bs,e.Hg,e.Gr,e.Ji,e.hok,e.bare⟩
section
variable {X:Cx} {pins:List (AA×Aq)} {σ:St} {H:Hp} {s s':AI}
theorem Inv.env0 (I:Inv X pins σ H s):LD X.prog X.w X.K X.mg X.base X.A X.stack s H:=
 ⟨I.ok.frames,I.ok.mod,I.bs,BP I.ok.Hg I.sz,I.stack,I.pG,I.hok,I.bare⟩
theorem Inv.after {Q:VK} {u:AF} (I:Inv X pins σ H s) (h:CE X.stack X.prog X.w H s Q u s'):EP X pins σ Q u s':=by
 obtain⟨v,H',os,bare,un,hok,r,q⟩:=h
 obtain⟨hh,g,d,t,os'⟩:=s'
 obtain rfl:os'=s.os:=os
 exact⟨v,H',I.call (h':=hh) (g':=g) (d':=d) (t':=t) (ch:=[]) un hok bare (fun b z=>absurd z (by simp)),r,q⟩
end
def cv (sp:Sp) (D1:List V) (E:XK) (t:TA):TE:=fun σ H Q=>t σ H fun vs H1=>sp (vs++D1) H1 Q E
def Wn (C:AA) (m:AG) (sp:Sp) (D1:List V) (E:XK) (ta:TE) (t:TA):TE:=fun σ H Q=>ta σ H fun x H1=>∃a dx fs,x= .ref a/\H1 a=some (.ins C dx fs)/\fs.lookup m=none/\
 t σ H1 fun vs H2=>sp (x::(vs++D1)) H2 Q E
def pU (C:AA) (sp:Sp) (D1:List V) (E:XK) (t:TA):TE:=fun σ H Q=>t σ H fun vs H1=>∀x dx,H1 x=none->H1 dx=none->dx≠x->
 sp (.ref x::(vs++D1)) (upd (upd H1 dx (.own x)) x (.ins C dx [])) (fun v H2=>v= .non/\Q (.ref x) H2) E
def Binds (K:AW) (fd:A2) (ps:List AG) (ds:List AF):Prop:=
 ∀(s:AI) (us:List AF),K.In s.heap->(us++ds).length=ps.length->BindsTo s fd ⟨us,[]⟩ (ps.zip (us++ds))
theorem Binds.all {K:AW} {fd:A2} {ps:List AG} (h:∀us:List AF,us.length=ps.length->bindArgs fd ⟨us,[]⟩=pure (ps.zip us)):Binds K fd ps []:=fun s us _ hl=>by
 rw[EG] at hl ⊢
 exact .of_eq (h us hl)
def Ja (CX:FT) (X:Cx) (E:XK):Prop:=∀(pins:List (AA×Aq)) (σ:St) (H:Hp) (s:AI) (e:AF) (s':AI),Inv X pins σ H s->CX X.stack H s E e s'->X.xe e s'
section
variable {X:Cx} {CX:FT} {k:Nat} {f C:AA} {fd:A2} {ps:List AG} {sp:Sp} {D1:List V} {ds:List AF} {E:XK} {x m:AG} {p pos Ej:Bt} {e o:Az} {es:List Az} {ta:TE} {t:TA}
theorem RY {pins:List (AA×Aq)} {σ:St} {H:Hp} {s:AI} {Q:VK} {us:List AF} {vs:List V} (F:Aa X.prog X.w X.K X.mg X.base CX k f fd ps sp) (hr:BW k X.A) (hb:Binds X.K fd ps ds) (hd:Vals D1 ds) (hx:Ja CX X E)
 (I:Inv X pins σ H s) (r:Vals vs us) (h:sp (vs++D1) H Q E):AU (AY X.prog X.w) X.A (call (.ref f) us) (EP X pins σ Q) X.xe s:=by
 have r2:Vals (vs++D1) (us++ds):=r.append hd
 have hl:(us++ds).length=ps.length:=by rw[<-r2.length];exact F.len _ _ _ _ h
 refine Wt (KZ (F.run X.A X.stack s H ⟨us,[]⟩ (us++ds) (vs++D1) Q E hr I.env0 (hb s us I.Ff hl) r2 h) fun r s' hq=>?_)
 cases r with
 | error e=>exact hx pins σ H s e s' I hq
 | ok fl=>
  cases fl with
  | ret u=>exact I.after hq
  | next=>exact False.elim hq
  | brk=>exact False.elim hq
  | cont=>exact False.elim hq
theorem FN (F:Aa X.prog X.w X.K X.mg X.base CX k f fd ps sp) (hr:BW k X.A) (hg:Gl X x) (hm:X.mg x=some (.ref f)) (hk:D9 X.K (.ref f)=true) (hb:Binds X.K fd ps ds) (hd:Vals D1 ds) (hx:Ja CX X E)
 (ha:PA X (e::es) t) (hdb:(x==("__debug__":AG))=false:=by decide) (he:Bo (e::es) X.env=(false,eval e X.env)::Bo es X.env:=by rfl) (Cr:(backTo pos (Bo es X.env)).any (·.1)=false:=by rfl):
 PE X (.Call (.Name x p) (e::es) [] pos) (cv sp D1 E t):=by
 intro pins s σ H Q I h
 refine K5 (RD I hg hm ?_ hdb)
 refine Xh (h₀:=X.base) I.ok.mod.Nh hk (Bh (ha pos pins s σ H _ I h) fun us s1 vs H1 I1 r q=>⟨I1.Ff,?_⟩) he Cr
 exact RY F hr hb hd hx I1 r q
theorem IH {pl:Eo Bool} (he:PE X o ta) (c:FU X.K C) (hm:Meth X.K C m f) (F:Aa X.prog X.w X.K X.mg X.base CX k f fd ps sp) (hr:BW k X.A) (hb:Binds X.K fd ps ds) (hd:Vals D1 ds) (hx:Ja CX X E) (ha:PA X (e::es) t)
 (BG:Bo (e::es) X.env=(false,eval e X.env)::Bo es X.env:=by rfl) (Cr:(backTo pos (Bo es X.env)).any (·.1)=false:=by rfl)
 (ht:eval (.Call (.Attribute o m Ej) (e::es) [] pos) X.env=(do
  let ov <-eval o X.env
  standAt Ej.atName
  let (f,first) <-holding [ov] (getMethod ov m pl)
  callWith pos f first (backTo pos (Bo (e::es) X.env)) (backToKw pos (Gs [] X.env))):=by rfl):
 PE X (.Call (.Attribute o m Ej) (e::es) [] pos) (Wn C m sp D1 E ta t):=by
 intro pins s σ H Q I h
 refine fR (pl:=pl) (Bv (he pins s σ H _ I h) fun u s1 ⟨x,H1,I1,rx,a,dx,fs,ex,ea,l,q⟩=>?_) ht
 subst ex
 obtain rfl:u=Cv a:=rx
 refine Yv I1 ea c hm l ?_
 refine Xh (first:=[.ref a]) (h₀:=X.base) I.ok.mod.Nh hm.kp (Bh (ha pos pins s1 σ H1 _ I1 q) fun us s2 vs H2 I2 r q2=>⟨I2.Ff,?_⟩) BG Cr
 exact RY (us:=.ref a::us) (vs:=.ref a::vs) F hr hb hd hx I2 (.cons rfl r) q2
theorem RM {pl:Eo Bool} (he:PE X o ta) (c:FU X.K C) (hm:Meth X.K C m f) (F:Aa X.prog X.w X.K X.mg X.base CX k f fd ps sp) (hr:BW k X.A) (hb:Binds X.K fd ps ds) (hd:Vals D1 ds) (hx:Ja CX X E)
 (ht:eval (.Call (.Attribute o m Ej) [] [] pos) X.env=(do
  let ov <-eval o X.env
  standAt Ej.atName
  let (f,first) <-holding [ov] (getMethod ov m pl)
  callWith pos f first (backTo pos (Bo [] X.env)) (backToKw pos (Gs [] X.env))):=by rfl):
 PE X (.Call (.Attribute o m Ej) [] [] pos) (Wn C m sp D1 E ta R7):=by
 intro pins s σ H Q I h
 refine fR (pl:=pl) (Bv (he pins s σ H _ I h) fun u s1 ⟨x,H1,I1,rx,a,dx,fs,ex,ea,l,q⟩=>?_) ht
 subst ex
 obtain rfl:u=Cv a:=rx
 refine Yv I1 ea c hm l ?_
 exact PySem.W.callWith_K0 (first:=[.ref a]) I1.Ff hm.kp (RY (us:=[.ref a]) (vs:=[.ref a]) F hr hb hd hx I1 (.cons rfl .nil) q)
structure Mk (K:AW) (C f:AA):Prop where
 makes:fP K C=true
 init:Ie K (.ref C) "__init__"=some (some (.ref f))
 fn:Sx K (.ref f)=true
 kp:D9 K (.ref C)=true
theorem oP {pins:List (AA×Aq)} {σ:St} {H:Hp} {s:AI} {Q:VK} {us:List AF} {vs:List V} (M:Mk X.K C f) (F:Aa X.prog X.w X.K X.mg X.base CX k f fd ps sp) (hr:BW (k+1) X.A) (hb:Binds X.K fd ps ds) (hd:Vals D1 ds)
 (hx:Ja CX X E) (I:Inv X pins σ H s) (r:Vals vs us)
 (h:∀x dx,H x=none->H dx=none->dx≠x->sp (.ref x::(vs++D1)) (upd (upd H dx (.own x)) x (.ins C dx [])) (fun v H2=>v= .non/\Q (.ref x) H2) E):
 AU (AY X.prog X.w) X.A (call (.ref C) us) (EP X pins σ Q) X.xe s:=by
 have hq:=h (s.heap.objs.size+1) s.heap.objs.size (I.hok.fresh (Gi _)) (I.hok.fresh (Aj _)) (C4 (Hu _))
 have I2:=Inv.made (C:=C) I
 have r2:Vals (V.ref (s.heap.objs.size+1)::(vs++D1)) (Cv (s.heap.objs.size+1)::(us++ds)):=.cons rfl (r.append hd)
 have hl:(Cv (s.heap.objs.size+1)::us++ds).length=ps.length:=by
  have e:=r2.length
  rw[F.len _ _ _ _ hq] at e
  exact e.symm
 refine Wt (zr (f:=f) I.Ff M.makes M.init (beq_iff_eq.mp M.fn) (KZ (F.run _ X.stack _ _ ⟨Cv (s.heap.objs.size+1)::us,[]⟩ (Cv (s.heap.objs.size+1)::(us++ds)) _ _ E (hr.make C us [])
  (I2.env0.make C us []) (hb _ (Cv (s.heap.objs.size+1)::us) I2.Ff hl) r2 hq) fun r s' hq'=>?_))
 cases r with
 | error e=>exact hx pins σ _ _ e s' I2 hq'
 | ok fl=>
  cases fl with
  | ret u=>
   obtain⟨v,H',I3,rv,ev,q3⟩:=I2.after hq'
   subst ev
   exact⟨rv,⟨V.ref (s.heap.objs.size+1),H',I3,rfl,q3⟩⟩
  | next=>exact False.elim hq'
  | brk=>exact False.elim hq'
  | cont=>exact False.elim hq'
theorem L9 (M:Mk X.K C f) (F:Aa X.prog X.w X.K X.mg X.base CX k f fd ps sp) (hr:BW (k+1) X.A) (hg:Gl X x) (hm:X.mg x=some (.ref C)) (hb:Binds X.K fd ps ds) (hd:Vals D1 ds) (hx:Ja CX X E)
 (ha:PA X (e::es) t) (hdb:(x==("__debug__":AG))=false:=by decide) (he:Bo (e::es) X.env=(false,eval e X.env)::Bo es X.env:=by rfl) (Cr:(backTo pos (Bo es X.env)).any (·.1)=false:=by rfl):
 PE X (.Call (.Name x p) (e::es) [] pos) (pU C sp D1 E t):=by
 intro pins s σ H Q I h
 refine K5 (RD I hg hm ?_ hdb)
 refine Xh (h₀:=X.base) I.ok.mod.Nh M.kp (Bh (ha pos pins s σ H _ I h) fun us s1 vs H1 I1 r q=>⟨I1.Ff,?_⟩) he Cr
 exact oP M F hr hb hd hx I1 r q
theorem ABu (M:Mk X.K C f) (F:Aa X.prog X.w X.K X.mg X.base CX k f fd ps sp) (hr:BW (k+1) X.A) (hg:Gl X x) (hm:X.mg x=some (.ref C)) (hb:Binds X.K fd ps ds) (hd:Vals D1 ds) (hx:Ja CX X E)
 (hdb:(x==("__debug__":AG))=false:=by decide):PE X (.Call (.Name x p) [] [] pos) (pU C sp D1 E R7):=by
 intro pins s σ H Q I h
 refine K5 (RD I hg hm ?_ hdb)
 exact PySem.W.callWith_K0 I.Ff M.kp (oP (us:=[]) M F hr hb hd hx I .nil h)
end
structure BD (N P:List AG) (sc:EJ):Prop where
 kind:sc.kind= .function:=by rfl
 co:sc.isCoroutine=false:=by rfl
 gen:sc.isGenerator=false:=by rfl
 nd:N.Nodup:=by decide+kernel
 pre:N.take P.length=P:=by rfl
 par:∀x∈P,sc.names.lookup x=some .local\/sc.names.lookup x=some .cell:=by decide+kernel
 AAP:∀y∈sc.names,y.2≠ .free:=by decide+kernel
theorem gZ {kindOf:AG->Option F1} {x:AG}:∀{binds:List (AG×AF)} {m:AG->Option AF},(∀v,(x,v)∉binds)->bindL kindOf binds m x=m x
 | [],_,_=>rfl
 | (n,v)::r,m,h=>by
  unfold bindL
  rw[gZ fun w hw=>h w (B2 _ hw)]
  split
  . have:x≠n:=by rintro rfl;exact h v Bl
    simp[this]
  . rfl
theorem gQ {kindOf:AG->Option F1} {x:AG}:∀{binds:List (AG×AF)} {m:AG->Option AF},(∀v,(x,v)∉binds)->bindC kindOf binds m x=m x
 | [],_,_=>rfl
 | (n,v)::r,m,h=>by
  unfold bindC
  rw[gQ fun w hw=>h w (B2 _ hw)]
  split
  . rfl
  . have:x≠n:=by rintro rfl;exact h v Bl
    simp[this]
theorem gU {kindOf:AG->Option F1} {x:AG} {v:AF}:∀{P:List AG} {vs:List AF} {i:Nat} {m:AG->Option AF},P.Nodup->P[i]? =some x->vs[i]? =some v->kindOf x=some .local->
 bindL kindOf (P.zip vs) m x=some v
 | [],_,_,_,_,h,_,_=>by simp at h
 | _::_,[],_,_,_,_,h,_=>by simp at h
 | p::P,w::vs,0,m,nd,h1,h2,hk=>by
  simp at h1 h2;subst h1;subst h2
  show bindL kindOf ((p,w)::P.zip vs) m p=_
  unfold bindL
  rw[gZ fun v hv=>(Ib.mp nd).1 (XS hv).1,if_pos hk]
  simp
 | p::P,w::vs,i+1,m,nd,h1,h2,hk=>by
  show bindL kindOf ((p,w)::P.zip vs) m x=_
  unfold bindL
  exact gU (i:=i) (Ib.mp nd).2 (by simpa using h1) (by simpa using h2) hk
theorem gN {kindOf:AG->Option F1} {x:AG} {v:AF}:∀{P:List AG} {vs:List AF} {i:Nat} {m:AG->Option AF},P.Nodup->P[i]? =some x->vs[i]? =some v->kindOf x≠some .local->
 bindC kindOf (P.zip vs) m x=some v
 | [],_,_,_,_,h,_,_=>by simp at h
 | _::_,[],_,_,_,_,h,_=>by simp at h
 | p::P,w::vs,0,m,nd,h1,h2,hk=>by
  simp at h1 h2;subst h1;subst h2
  show bindC kindOf ((p,w)::P.zip vs) m p=_
  unfold bindC
  rw[gQ fun v hv=>(Ib.mp nd).1 (XS hv).1,if_neg hk]
  simp
 | p::P,w::vs,i+1,m,nd,h1,h2,hk=>by
  show bindC kindOf ((p,w)::P.zip vs) m x=_
  unfold bindC
  exact gN (i:=i) (Ib.mp nd).2 (by simpa using h1) (by simpa using h2) hk
def start (N:List AG) (vs:List V):St:=vs.map some++List.replicate (N.length - vs.length) none
def M0 (CX:FT) (P:Av) (w:Am) (K:AW) (mg:AG->Option AF) (base:Ae) (N:List AG) (Bp:AG) (scope:EJ) (f:AA) (cd:AF) (A:Bf) (outer:List Dh) (s:AI) (H:Hp) (E:XK):Cx where
 prog:=P
 w:=w
 K:=K
 mg:=mg
 base:=base
 A:=A.deeper (envOfC Bp scope s.heap.objs.size f cd)
 N:=N
 s_0:=s
 LG:=H
 env:=envOfC Bp scope s.heap.objs.size f cd
 outer:=outer
 stack:=envOfC Bp scope s.heap.objs.size f cd::outer
 ex:=[]
 calm:=true
 fn:=fun _=>true
 pn:=[]
 xe:=fun e s'=>AU (AY P w) (A.deeper (envOfC Bp scope s.heap.objs.size f cd)) (leaving (envOfC Bp scope s.heap.objs.size f cd) e) (fun _ s''=>CX outer H s E e s'') (fun e' s''=>CX outer H s E e' s'') s'
theorem gy {sc:EJ} {n:Nat} {x:AG} (h:sc.names.lookup x=some .cell):∃c,(cellsFrom n sc.names []).lookup x=some c:=by
 have q:=PySem.W.cellsFrom_some sc.names n [] (.inl h)
 exact Option.isSome_iff_exists.mp q
theorem yh {CX:FT} {P:Av} {w:Am} {K:AW} {mg:AG->Option AF} {base:Ae} {N ps:List AG} {Bp:AG} {scope:EJ} {f:AA} {cd:AF} {A:Bf} {outer:List Dh} {s s1:AI} {H:Hp} {E:XK} {us:List AF} {vs:List V}
 (S:BD N ps scope) (hd:A.handled=none) (e0:LD P w K mg base A outer s H) (hl:vs.length=ps.length) (r:Vals vs us)
 (x:InCallC s s.heap.objs.size (bindL (envOfC Bp scope s.heap.objs.size f cd).kindOf (ps.zip us) fun _=>none) (cellsFrom (s.heap.objs.size+1) scope.names []) (bindC (envOfC Bp scope s.heap.objs.size f cd).kindOf (ps.zip us) fun _=>none) s1):
 Inv (M0 CX P w K mg base N Bp scope f cd A outer s H E) [] (start N vs) H s1:=by
 have Cr:ps.length<=N.length:=by have:=congrArg D6 S.pre;rw[Ct] at this;lia
 obtain⟨h1,tk,rfl,hk⟩:=x.done
 have Nq:∀b:AA,b∉(M0 CX P w K mg base N Bp scope f cd A outer s H E).ex:=fun b z=>absurd (show b∈([]:List AA) from z) (by simp)
 refine⟨⟨e0.mod,S.kind,rfl,rfl,Aj _,fun y z c h1 h2=>?_,fun y hy=>?_,fun y c _ h=>?_,fun _=>hd,Around.frames_deeper e0.frames,.inr ⟨rfl,rfl⟩,fun b z=>absurd z (Nq b),e0.bs,e0.Hg,fun b _ _=>Nq b,fun b z=>absurd z (Nq b),e0.Gr,e0.Ji⟩,
  rfl,e0.bare,Un.kept hk,⟨_,x.toInCall.ns,fun i y v h1 h2 h3=>?_⟩,fun y c h=>⟨_,x.cell y c h⟩,e0.hok.fresh (Aj _),fun y c h=>?_,fun p hp=>absurd (show p∈([]:List (AA×Aq)) from hp) (by simp),e0.hok.kept hk,?_⟩
 . exact name_of_addr x.apart (Gk h1) (Gk h2)
 . have hy:scope.names.lookup y=some .cell\/scope.names.lookup y=some .free:=hy
   rcases hy with hy | hy
   . exact gy hy
   . exact absurd rfl (S.AAP _ (Gk hy))
 . exact Ic (x.above y c (Gk h))
 . have hi:i < vs.length:=by
    unfold start at h2
    by_cases hi:i < vs.length
    . exact hi
    . rw[Ot (by simpa using hi)] at h2
      rw[List.getElem?_replicate] at h2
      split at h2 <;> cases h2
   have ha:vs[i]? =some v:=by
    unfold start at h2
    rw[XH (by simpa using hi),CM] at h2
    cases e:vs[i]? with
    | none=>rw[e] at h2;cases h2
    | some a=>rw[e] at h2;cases h2;rfl
   obtain⟨u,hu,rv⟩:=r.get ha
   have hp:ps[i]? =some y:=by
    rw[<-S.pre,List.getElem?_take_of_lt (by lia)];exact h1
   have mK:ps.Nodup:=by rw[<-S.pre];exact S.nd.sublist (List.take_sublist _ _)
   refine⟨u,rv,?_⟩
   rcases S.par y (G7 hp) with k | k
   . exact .inl ⟨k,gU mK hp hu k⟩
   . obtain⟨c,e⟩:=gy (n:=s.heap.objs.size+1) k
     refine .inr ⟨.inl k,c,e,?_⟩
     have q:=x.cell y c e
     rw[gN mK hp hu (by show scope.names.lookup y≠_;rw[k];decide)] at q
     exact q
 . exact e0.hok.fresh (Ic (x.above y c (Gk h)))
 . unfold start
   show _=N.length
   rw[BZ,AR,List.length_replicate]
   lia
theorem vE {CX:FT} {P:Av} {w:Am} {K:AW} {mg:AG->Option AF} {base:Ae} {k:Nat} {f:AA} {name Bp:AG} {params:Arguments} {body:List Au} {scope:EJ} {dV kV doc pm Al ct oc:AF} {an od:Option AA}
 {osl:Array (Option AF)} {N ps:List AG} {sp:Sp} (lk:K.lookup f=some ⟨oc,od,.func (Ig name Bp params body scope dV kV doc pm an Al ct),osl⟩) (hcd:O3 K Al Bp=true) (S:BD N ps scope)
 (len:∀vs H Q E,sp vs H Q E->vs.length=ps.length)
 (hbody:∀(A:Bf) (outer:List Dh) (s:AI) (H:Hp) (vs:List V) (Q:VK) (E:XK),BW k (A.deeper (envOfC Bp scope s.heap.objs.size f Al))->sp vs H Q E->
  ∃t,HB (M0 CX P w K mg base N Bp scope f Al A outer s H E) body t/\t { nx:=fun _ H'=>Q .non H',rt:=Q } (start N vs) H):
 Aa P w K mg base CX (k+1) f (Ig name Bp params body scope dV kV doc pm an Al ct) ps sp:=by
 refine⟨len,fun A outer s H args us vs Q E hr e0 hb r hsp=>?_⟩
 have hl:=len _ _ _ _ hsp
 have KX:K.In s.heap:=e0.mod.Nh.keeps fun b o e=>(e0.bs b o e).1
 have lim:s.heap.NoLimit:=e0.mod.nolimit.keeps fun b o e=>(e0.bs b o e).1
 have hkind:∀y∈ps.zip us,scope.names.lookup y.1=some .local\/(scope.names.lookup y.1=some .cell/\((cellsFrom (s.heap.objs.size+1) scope.names []).lookup y.1).isSome=true):=fun ⟨n,v⟩ hy=>by
  rcases S.par n (XS hy).1 with q | q
  . exact .inl q
  . exact .inr ⟨q,PySem.W.cellsFrom_some _ _ _ (.inl q)⟩
 refine codeAny_call_function hr.depth (KX _ _ lk) rfl S.co S.gen rfl (PySem.W.codeRec_of KX hcd) (hb _ _ _ _ ?_)
 refine wpAny_newFunctionEnv_cells S.kind hkind fun env he s1 x=>?_
 subst he
 refine⟨lim.keeps x.toInCall.keep,codeAny_func ?_⟩
 obtain⟨t,ht,hq⟩:=hbody A outer s H vs Q E (hr.deeper _) hsp
 have I:Inv (M0 CX P w K mg base N Bp scope f Al A outer s H E) [] (start N vs) H s1:=yh S hr.hd e0 hl r x
 refine FR (ht [] s1 (start N vs) H _ I hq) (fun fl s' hs=>?_) fun e s' hs=>hs
 have fin:∀{σ':St} {H':Hp} {v:V} {u:AF},Inv (M0 CX P w K mg base N Bp scope f Al A outer s H E) [] σ' H' s'->RelV v u->Q v H'->CE outer P w H s Q u s':=
  fun {σ' H' v u} J rv q=>⟨v,H',J.os,J.bare,J.base,J.hok,rv,q⟩
 cases fl with
 | ret u=>
  obtain⟨v,σ',H',J,rv,q⟩:=hs
  exact fin J rv q
 | next=>
  obtain⟨σ',H',J,q⟩:=hs
  exact fin (v:=V.non) (u:=Gn) J rfl q
 | brk=>
  obtain⟨_,_,_,q⟩:=hs
  exact False.elim q
 | cont=>
  obtain⟨_,_,_,q⟩:=hs
  exact False.elim q
section
variable {X:Cx} {x:AG} {p pos:Bt} {e:Az} {es:List Az} {t:TA} {id T:String} {r:List V->Hp->VK->Prop}
def pS (r:List V->Hp->VK->Prop) (t:TA):TE:=fun σ H Q=>t σ H fun vs H1=>r vs H1 Q
theorem Eb (hc:JR X (.builtin id) r) (hg:Gl X x) (hm:X.mg x=none) (hv:bootBuiltins x=some (.builtin id)) (ha:PA X (e::es) t) (hn:x≠"__name__":=by decide) (hdb:(x==("__debug__":AG))=false:=by decide)
 (he:Bo (e::es) X.env=(false,eval e X.env)::Bo es X.env:=by rfl) (Cr:(backTo pos (Bo es X.env)).any (·.1)=false:=by rfl):PE X (.Call (.Name x p) (e::es) [] pos) (pS r t):=by
 intro pins s σ H Q I h
 refine K5 (JF I hg hm hv ?_ hn hdb)
 exact PyProof.Rows.callWith_builtin1 (Bh (ha pos pins s σ H _ I h) fun us s1 vs H1 I1 r1 q1=>hc pins s1 σ H1 vs us Q I1 r1 q1) he Cr
theorem Z9 (hc:JR X (.type T) r) (hg:Gl X x) (hm:X.mg x=none) (hv:bootBuiltins x=some (.type T)) (ha:PA X (e::es) t) (hn:x≠"__name__":=by decide) (hdb:(x==("__debug__":AG))=false:=by decide)
 (he:Bo (e::es) X.env=(false,eval e X.env)::Bo es X.env:=by rfl) (Cr:(backTo pos (Bo es X.env)).any (·.1)=false:=by rfl):PE X (.Call (.Name x p) (e::es) [] pos) (pS r t):=by
 intro pins s σ H Q I h
 refine K5 (JF I hg hm hv ?_ hn hdb)
 exact Sw (Bh (ha pos pins s σ H _ I h) fun us s1 vs H1 I1 r1 q1=>hc pins s1 σ H1 vs us Q I1 r1 q1) he Cr
end
end L2
namespace HT
open PySem PyProof.Rows
def lexLt:List Int->List Int->Bool
 | [],[]=>false
 | [],_::_=>true
 | _::_,[]=>false
 | x::xs,y::ys=>if x=y then lexLt xs ys else decide (x < y)
theorem UY (x y:Int) (xs ys:List Int):lexLt (x::xs) (y::ys)=if x=y then lexLt xs ys else decide (x < y):=rfl
theorem lU:lexLt [] []=false:=rfl
theorem zP (y:Int) (ys:List Int):lexLt [] (y::ys)=true:=rfl
theorem zO (x:Int) (xs:List Int):lexLt (x::xs) []=false:=rfl
theorem uW (A:Bf) (s:AI) (a:Int) (t:E4) (c:Int) (u:E4):∃e,SeqAt.EqAt A s (.int a t) (.int c u) e/\(e=true↔a=c):=
 ⟨(a==c),SeqAt.EqAt.int_int a t c u,by simp⟩
section
variable {prog:Av} {w:Am} {A:Bf} {E:AF->AI->Prop} {s:AI}
def FO (n d:Nat):Option Int->Nat
 | none=>d
 | some v=>if v < 0 then (v+(n:Int)).toNat else min v.toNat n
theorem oV (n d:Nat):FO n d none=d:=rfl
theorem N2 (n d k:Nat):FO n d (some (k:Int))=min k n:=by
 show (if (k:Int) < 0 then ((k:Int)+(n:Int)).toNat else min (k:Int).toNat n)=min k n
 rw[if_neg (by lia),IY]
end
end HT
namespace L2
open PySem PySem.Spec PyProof.Rows
abbrev TO:=St->Hp->(Option Int->Hp->Prop)->Prop
def PO (X:Cx) (e:Option Az) (t:TO):Prop:=
 ∀(pins:List (AA×Aq)) (s:AI) (σ:St) (H:Hp) (Q:Option Int->Hp->Prop),Inv X pins σ H s->t σ H Q->
  AU (AY X.prog X.w) X.A (evalPart e X.env) (fun u s'=>∃o H',Inv X pins σ H' s'/\IsPart u o/\Q o H') X.xe s
def AED:TO:=fun _ H Q=>Q none H
def AEH (t:TE):TO:=fun σ H Q=>t σ H fun x H1=>∃i,x= .int i/\Q (some i) H1
theorem intsAre_of {ns:List Int}:∀{us:List AF},Vals (ns.map V.int) us->Du us ns:=by
 induction ns with
 | nil=>intro us r;rw[KL] at r;cases r;exact .nil
 | cons n ns ih=>
  intro us r
  rw[CP] at r
  cases r with
  | cons r1 r2=>
   obtain⟨t,e⟩:=r1
   subst e
   exact .cons n t (ih r2)
section
variable {X:Cx} {e:Az} {te:TE} {lo hi:Option Az} {tl th:TO} {pos p2:Bt}
theorem MA:PO X none AED:=by
 intro pins s σ H Q I h
 rw[evalPart_none]
 exact Ai ⟨none,H,I,.none,h⟩
theorem II (h:PE X e te):PO X (some e) (AEH te):=by
 intro pins s σ H Q I hw
 rw[evalPart_some]
 refine Bh (h pins s σ H _ I hw) fun u s1 x H1 I1 r1 q1=>?_
 obtain⟨i,rfl,q⟩:=q1
 obtain⟨t,rfl⟩:=r1
 exact⟨some i,H1,I1,.int i t,q⟩
def fg (X:Cx) (r:V->Option Int->Option Int->Hp->VK->Prop):Prop:=
 ∀(pins:List (AA×Aq)) (s:AI) (σ:St) (H:Hp) (x:V) (v vl vu:AF) (lo hi:Option Int) (sl:AA) (Q:VK),Inv X pins σ H s->RelV x v->s.heap.IsSliceOf sl vl vu .none->IsPart vl lo->IsPart vu hi->r x lo hi H Q->
  ∃T id,typeLookup (.type T) "__getitem__"=pure (some (.builtin id))/\s.TypeIs v T/\AU (AY X.prog X.w) X.A (getItem v (.ref sl)) (EP X pins σ Q) X.xe s
def tSl (r:V->Option Int->Option Int->Hp->VK->Prop) (te:TE) (tl th:TO):TE:=fun σ H Q=>te σ H fun x H1=>tl σ H1 fun l H2=>th σ H2 fun u H3=>r x l u H3 Q
theorem Nt {r:V->Option Int->Option Int->Hp->VK->Prop} (hr:fg X r) (he:PE X e te) (hl:PO X lo tl) (hu:PO X hi th):PE X (.Subscript e (.Slice lo hi none p2) pos) (tSl r te tl th):=by
 intro pins s σ H Q I h
 refine Xo (Bh (he pins s σ H _ I h) fun v s1 x H1 I1 r1 q1=>?_)
 refine wpAny_Slice (Bh (hl pins s1 σ H1 _ I1 q1) fun vl s2 l H2 I2 pl q2=>Bh (hu pins s2 σ H2 _ I2 q2) fun vu s3 u H3 I3 pu q3=>?_)
 rw[evalPart_none]
 refine Ai ?_
 have I4:Inv X pins σ H3 { s3 with heap:=s3.heap.push { cls:=.type "slice",data:=.fields #[vl,vu,.none] } }:=I3.kept (t':=s3.toks) fun b ob q=>Bz _ q
 obtain⟨T,id,hT,ht,hg⟩:=hr pins { s3 with heap:=s3.heap.push { cls:=.type "slice",data:=.fields #[vl,vu,.none] } } σ H3 x v vl vu l u s3.heap.objs.size Q I4 r1 (Heap.IsSliceOf.new ..) pl pu q3
 show AU (AY X.prog X.w) X.A (subscriptTail e (.Slice lo hi none p2) v (.ref s3.heap.objs.size)) (EP X pins σ Q) X.xe { s3 with heap:=s3.heap.push { cls:=.type "slice",data:=.fields #[vl,vu,.none] } }
 exact tail_any (ops:=[.ref s3.heap.objs.size,v]) ht hT hg (by with_unfolding_all rfl)
def HD (xs:List V) (lo hi:Option Int):List V:=(xs.drop (HT.FO xs.length 0 lo)).take (HT.FO xs.length xs.length hi - HT.FO xs.length 0 lo)
theorem tM (xs:List V) (lo hi:Option Int):(HD xs lo hi).length<=xs.length:=by
 unfold HD
 rw[Ct,Md]
 lia
end
def Km (n:Nat) (i:Int):Option Nat:=if 0<=i then (if i < n then some i.toNat else none) else if -(n:Int)<=i then some (i+n).toNat else none
def Il {α:Type} (xs:List α) (i:Int):Option α:=(Km xs.length i).bind fun j=>xs[j]?
theorem ym {n:Nat} {i:Int} {j:Nat} (h:Km n i=some j):seqIndex? i n=some j/\j < n/\ -(n:Int)<=i/\i < n:=by
 unfold Km at h
 by_cases h0:0<=i
 . rw[if_pos h0] at h
   by_cases h1:i < n
   . rw[if_pos h1] at h
     have e:i.toNat=j:=CL h
     exact⟨by rw[seqIndex_of h0 h1,e],by lia,by lia,h1⟩
   . rw[if_neg h1] at h;cases h
 . rw[if_neg h0] at h
   by_cases h1: -(n:Int)<=i
   . rw[if_pos h1] at h
     have e:(i+n).toNat=j:=CL h
     exact⟨by rw[seqIndex_neg (by lia) h1,e],by lia,h1,by lia⟩
   . rw[if_neg h1] at h;cases h
theorem fu {α:Type} {xs:List α} {i:Int} {v:α} (h:Il xs i=some v):∃j,seqIndex? i xs.length=some j/\xs[j]? =some v/\j < xs.length/\ -(xs.length:Int)<=i/\i < xs.length:=by
 unfold Il at h
 cases e:Km xs.length i with
 | none=>rw[e] at h;cases h
 | some j=>
  rw[e] at h
  obtain⟨h1,h2,h3,h4⟩:=ym e
  exact⟨j,h1,h,h2,h3,h4⟩
theorem qy {α:Type} {xs:List α} {j:Nat} {v:α} (h:xs[j]? =some v):Il xs (j:Int)=some v:=by
 have hj:j < xs.length:=(Fo.mp h).1
 have e:Km xs.length (j:Int)=some j:=by
  unfold Km
  rw[if_pos (by lia),if_pos (by lia)];simp
 unfold Il;rw[e];exact h
theorem Xu {α:Type} (xs:List α) (v:α):Il (xs++[v]) (-1)=some v:=by
 have hl:(xs++[v]).length=xs.length+1:=by simp
 have e:Km (xs++[v]).length (-1)=some xs.length:=by
  unfold Km
  rw[hl,if_neg (by decide),if_pos (by lia)]
  congr 1
  lia
 unfold Il
 rw[e]
 show (xs++[v])[xs.length]? =some v
 simp
def qd (b:Az):Prop:=∀o i,subscripted b false o i=operate [o,i] (getItem o i)
def XC (X:Cx) (r:R2):Prop:=
 ∀(value slice:Az) (pins:List (AA×Aq)) (s:AI) (σ:St) (H:Hp) (x y:V) (v u:AF) (Q:VK),Inv X pins σ H s->RelV x v->RelV y u->r x y H Q->
  subscripted slice false v u=operate [v,u] (getItem v u)->AU (AY X.prog X.w) X.A (subscriptTail value slice v u) (EP X pins σ Q) X.xe s
def qb (X:Cx) (id:String) (r:V->List V->Hp->VK->Prop):Prop:=
 ∀(pins:List (AA×Aq)) (s:AI) (σ:St) (H:Hp) (x:V) (xs:List V) (v:AF) (us:List AF) (Q:VK),Inv X pins σ H s->RelV x v->Vals xs us->r x xs H Q->
  AU (AY X.prog X.w) X.A (call (.builtin id) (v::us)) (EP X pins σ Q) X.xe s
section
variable {X:Cx} {a b:Az} {ta tb:TE} {pos:Bt}
theorem Br {r:R2} (hr:XC X r) (ha:PE X a ta) (hb:PE X b tb) (hs:qd b:=by exact fun _ _=>rfl):PE X (.Subscript a b pos) (OQ r ta tb):=by
 intro pins s σ H Q I h
 exact Xo (Xx ha hb I h fun v u s2 x y H2 I2 rx ry q=>hr a b pins s2 σ H2 x y v u Q I2 rx ry q (hs _ _))
def aP (K:AW):R2:=fun x y H Q=>∃p xs i v,x= .ref p/\y= .int i/\AQ K H p xs/\Il xs i=some v/\Q v H
def JK (K:AW):R2:=fun x y H Q=>∃p xs i v,x= .ref p/\y= .int i/\Ap K H p xs/\Il xs i=some v/\Q v H
theorem Df:XC X (aP X.K):=by
 intro value slice pins s σ H x y v u Q I rx ry h hs
 obtain⟨p,xs,i,z,rfl,rfl,hq,he,q⟩:=h
 cases rx
 obtain⟨t,rfl⟩:=ry
 obtain⟨AB,r,pl,hz⟩:=I.list hq
 obtain⟨j,h1,h2,h3,h4,h5⟩:=fu he
 obtain⟨w,ew,IJ⟩:=r.get h2
 have hl:=r.length
 have hn:=UZ
 have fin:EP X pins σ Q w s:=⟨z,H,I,IJ,q⟩
 by_cases h0:0<=i
 . have hj:i.toNat=j:=by
    rw[seqIndex_of h0 h5] at h1
    exact CL h1
   exact item_listR pl.isList h0 (by lia) (by rw[hj];simpa using ew) fin hs
 . have hj:(i+(AB.toArray.size:Int)).toNat=j:=by
    rw[seqIndex_neg (by lia) h4] at h1
    rw[Cp,<-hl]
    exact CL h1
   exact subscriptTail_builtinR (x:=w) pl.isList.typeIs ox.lookup
    (wpAny_getItem_list_neg (Q:=fun r s'=>r=w/\EP X pins σ Q r s') pl.isList (by lia) (by rw[Cp] <;> lia) (by lia) (by rw[hj];simpa using ew) ⟨rfl,fin⟩) hs
theorem D5:XC X (JK X.K):=by
 intro value slice pins s σ H x y v u Q I rx ry h hs
 obtain⟨p,xs,i,z,rfl,rfl,hq,he,q⟩:=h
 cases rx
 obtain⟨t,rfl⟩:=ry
 obtain⟨AB,r,pl,hz⟩:=I.tuple hq
 obtain⟨j,h1,h2,h3,h4,h5⟩:=fu he
 obtain⟨w,ew,IJ⟩:=r.get h2
 have hl:=r.length
 have hn:=UZ
 have fin:EP X pins σ Q w s:=⟨z,H,I,IJ,q⟩
 exact subscriptTail_builtinR (x:=w) pl.typeIs slot_tuple_getitem.lookup
  (getItem_tuple (j:=j) (Q:=fun r s'=>r=w/\EP X pins σ Q r s') pl (by lia) (by lia) (by rw[Cp,<-hl];exact h1) (by simpa using ew) ⟨rfl,fin⟩) hs
theorem ADZ (lo hi:Option Int) (n:Nat):(Ez lo hi none n).1=((HT.FO n 0 lo:Nat):Int)/\(Ez lo hi none n).2.1=((HT.FO n n hi:Nat):Int)/\(Ez lo hi none n).2.2=1:=by
 refine⟨?_,?_,rfl⟩
 . cases lo with
   | none=>simp[Ez,HT.FO]
   | some i=>
    simp only[Ez,HT.FO,Option.getD_none,show (1:Int) > 0 by decide,if_true]
    by_cases h:i < 0
    . simp only[h,if_true] <;> lia
    . simp only[h,if_false] <;> lia
 . cases hi with
   | none=>simp[Ez,HT.FO]
   | some i=>
    simp only[Ez,HT.FO,Option.getD_none,show (1:Int) > 0 by decide,if_true]
    by_cases h:i < 0
    . simp only[h,if_true] <;> lia
    . simp only[h,if_false] <;> lia
theorem ADY (AB:List AF) (lo hi:Option Int):slicePick AB.toArray lo hi none=((AB.drop (HT.FO AB.length 0 lo)).take (HT.FO AB.length AB.length hi - HT.FO AB.length 0 lo)).toArray:=by
 obtain⟨h1,h2,h3⟩:=ADZ lo hi AB.toArray.size
 unfold slicePick
 rw[h1,h2,h3]
 simp only[sliceRange_one,pick_run,Cp] <;> rfl
def oC (K:AW):V->Option Int->Option Int->Hp->VK->Prop:=fun x lo hi H Q=>∃a xs,x= .ref a/\AQ K H a xs/\∀p,H p=none->Q (.ref p) (upd H p (.lst (HD xs lo hi)))
theorem OI:fg X (oC X.K):=by
 intro pins s σ H x v vl vu lo hi sl Q I rx hs pl pu h
 obtain⟨a,xs,rfl,hx,q⟩:=h
 cases rx
 obtain⟨AB,r,ht,hz⟩:=I.list hx
 have BV:=r.length
 refine⟨"list",_,ox.lookup,ht.isList.typeIs,?_⟩
 refine wpAny_getItem_list_slice ht.isList hs pl pu .none (by simp) ?_ (by rw[Cp] <;> lia)
 rw[ADY,<-BV]
 refine⟨.ref s.heap.objs.size,_,I.laid (t':=s.toks) (o:=.lst (HD xs lo hi)) (fun b ob q=>Bz _ q) (Aj _) ?_,rfl,q _ (I.hok.fresh (Aj _))⟩
 exact⟨BP (tM xs lo hi) hz,_,0,(r.drop (HT.FO xs.length 0 lo)).take (HT.FO xs.length xs.length hi - HT.FO xs.length 0 lo),Ck _ rfl⟩
def Jh:V->Bool
 | .non=>true
 | .bl _=>true
 | .int _=>true
 | .str _=>true
 | _=>false
def Kd:V->V->Bool
 | .non,.non=>true
 | .bl a,.bl b=>a==b
 | .bl a,.int b=>(if a then 1 else 0)==b
 | .int a,.bl b=>a==(if b then 1 else 0)
 | .int a,.int b=>a==b
 | .str a,.str b=>a==b
 | _,_=>false
theorem uV {A:Bf} {s:AI} {y x:V} {u v:AF} (ry:RelV y u) (rx:RelV x v) (fy:Jh y=true) (fx:Jh x=true):SeqAt.EqAt A s u v (Kd y x):=by
 cases y with
 | non=>
  cases ry
  cases x with
  | non=>cases rx;exact SeqAt.EqAt.same _
  | bl b=>cases rx;exact SeqAt.EqAt.none_bool b
  | int b=>obtain⟨t,rfl⟩:=rx;exact SeqAt.EqAt.none_int b t
  | str b=>obtain⟨t,rfl⟩:=rx;exact SeqAt.EqAt.none_str b t
  | _=>exact absurd (show false=true from fx) Bw
 | bl a=>
  cases ry
  cases x with
  | non=>cases rx;exact SeqAt.EqAt.bool_none a
  | bl b=>cases rx;exact SeqAt.EqAt.bool_bool a b
  | int b=>obtain⟨t,rfl⟩:=rx;exact SeqAt.EqAt.bool_int a b t
  | str b=>obtain⟨t,rfl⟩:=rx;exact SeqAt.EqAt.bool_str a b t
  | _=>exact absurd (show false=true from fx) Bw
 | int a=>
  obtain⟨t',rfl⟩:=ry
  cases x with
  | non=>cases rx;exact SeqAt.EqAt.int_none a t'
  | bl b=>cases rx;exact SeqAt.EqAt.int_bool a t' b
  | int b=>obtain⟨t,rfl⟩:=rx;exact SeqAt.EqAt.int_int a t' b t
  | str b=>obtain⟨t,rfl⟩:=rx;exact SeqAt.EqAt.int_str a t' b t
  | _=>exact absurd (show false=true from fx) Bw
 | str a=>
  obtain⟨t',rfl⟩:=ry
  cases x with
  | non=>cases rx;exact SeqAt.EqAt.str_none a t'
  | bl b=>cases rx;exact SeqAt.EqAt.str_bool a t' b
  | int b=>obtain⟨t,rfl⟩:=rx;exact SeqAt.EqAt.str_int a t' b t
  | str b=>obtain⟨t,rfl⟩:=rx;exact SeqAt.EqAt.str_str a t' b t
  | _=>exact absurd (show false=true from fx) Bw
 | _=>exact absurd (show false=true from fy) Bw
def Jg (x:V) (u:AF):Bool:=match u with
 | .none=>Kd .non x
 | .bool b=>Kd (.bl b) x
 | .int i _=>Kd (.int i) x
 | .str z _=>Kd (.str z) x
 | _=>false
theorem iz {x y:V} {u:AF} (r:RelV y u) (f:Jh y=true):Jg x u=Kd y x:=by
 cases y with
 | non=>cases r;rfl
 | bl b=>cases r;rfl
 | int i=>obtain⟨t,rfl⟩:=r;rfl
 | str z=>obtain⟨t,rfl⟩:=r;rfl
 | _=>exact absurd (show false=true from f) Bw
theorem Xt {x:V}:∀{xs:List V} {us:List AF},Vals xs us->xs.all Jh=true->us.any (Jg x)=xs.any fun y=>Kd y x
 | _,_,.nil,_=>rfl
 | y::xs,u::us,.cons r t,f=>by
  rw[XE,CB] at f
  rw[KH,KH,iz r f.1,Xt t f.2]
theorem Zx {A:Bf} {s:AI} {x:V} {v:AF} (rx:RelV x v) (fx:Jh x=true):∀{xs:List V} {us:List AF},Vals xs us->xs.all Jh=true->∀u∈us,SeqAt.EqAt A s u v (Jg x u)
 | _,_,.nil,_=>fun u hu=>by cases hu
 | y::xs,u::us,.cons r t,f=>fun u' hu=>by
  rw[XE,CB] at f
  rcases BK.mp hu with rfl | hu
  . rw[iz r f.1];exact uV r rx f.1 fx
  . exact Zx rx fx t f.2 u' hu
def inV (x:V) (xs:List V):Bool:=xs.any fun y=>Kd y x
def rIn (K:AW) (neg:Bool):R2:=fun x y H Q=>∃p xs,y= .ref p/\(AQ K H p xs\/Ap K H p xs)/\Jh x=true/\xs.all Jh=true/\Q (.bl (if neg then !inV x xs else inV x xs)) H
theorem Z7:C7 X (D0 .In) (rIn X.K false):=by
 intro pins s σ H x y v u Q I rx ry h
 obtain⟨p,xs,rfl,hq,fx,fs,q⟩:=h
 cases ry
 rcases hq with hq | hq
 . obtain⟨AB,r,pl,hz⟩:=I.list hq
   refine SeqAt.in_listAt (Jg x) pl.isList (fun w hw=>Zx rx fx r fs w (by simpa using hw)) ⟨.bl _,H,I,rfl,?_⟩
   rw[show AB.toArray.any (Jg x)=AB.any (Jg x) by simp,Xt r fs]
   exact q
 . obtain⟨AB,r,pl,hz⟩:=I.tuple hq
   refine SeqAt.in_tupleAt (Jg x) pl (fun w hw=>Zx rx fx r fs w (by simpa using hw)) ⟨.bl _,H,I,rfl,?_⟩
   rw[show AB.toArray.any (Jg x)=AB.any (Jg x) by simp,Xt r fs]
   exact q
theorem F9:JR X (.builtin "len") (fun xs H Q=>∃p ys,xs=[.ref p]/\(AQ X.K H p ys\/Ap X.K H p ys)/\Q (.int ys.length) H):=by
 intro pins s σ H xs us Q I r h
 obtain⟨p,ys,rfl,hq,q⟩:=h
 obtain⟨u,rfl,rx⟩:=vals1 r
 cases rx
 have hn:=UZ
 rcases hq with hq | hq
 . obtain⟨AB,r',pl,hz⟩:=I.list hq
   have BV:=r'.length
   exact Calls.call_len_list pl.isList (by simp only[Cp] <;> lia) ⟨.int ys.length,H,I.tok _,⟨s.toks+1,by rw[Cp,BV]⟩,q⟩
 . obtain⟨AB,r',pl,hz⟩:=I.tuple hq
   have BV:=r'.length
   exact len_tuple pl (by simp only[Cp] <;> lia) ⟨.int ys.length,H,I.tok _,⟨s.toks+1,by rw[Cp,BV]⟩,q⟩
theorem sj:JR X (.type "list") (fun xs H Q=>∃p ys,xs=[.ref p]/\(AQ X.K H p ys\/Ap X.K H p ys)/\∀l,H l=none->Q (.ref l) (upd H l (.lst ys))):=by
 intro pins s σ H xs us Q I r h
 obtain⟨p,ys,rfl,hq,q⟩:=h
 obtain⟨u,rfl,rx⟩:=vals1 r
 cases rx
 have fin:∀(AB:List AF),Vals ys AB->ys.length<=AZ->∀(h':Ae) (c':Nat),(∀b o',s.heap.get? b=some o'->h'.get? b=some o')->
  h'.get? s.heap.objs.size=some { cls:=.type "list",dict:=none,data:=.seq AB.toArray c',slots:= #[] }->EP X pins σ Q (.ref s.heap.objs.size) { s with heap:=h' }:=fun AB r' hz h' c' kp e=>
  ⟨.ref s.heap.objs.size,_,I.laid (t':=s.toks) kp (Aj _) (show DB X.prog X.w _ h' _ (.lst ys) from ⟨hz,AB,c',r',e⟩),rfl,q _ (I.hok.fresh (Aj _))⟩
 rcases hq with hq | hq
 . obtain⟨AB,r',pl,hz⟩:=I.list hq
   have BV:=r'.length
   obtain⟨o,ho,hc,n,hd⟩:=pl.isList
   exact call_list_seq p (.inl rfl) ho hc hd (fun h' c' kp e=>fin AB r' hz h' c' kp e) (by simp only[Cp] <;> lia)
 . obtain⟨AB,r',pl,hz⟩:=I.tuple hq
   have BV:=r'.length
   obtain⟨o,ho,hc,n,hd⟩:=pl
   exact call_list_seq p (.inr rfl) ho hc hd (fun h' c' kp e=>fin AB r' hz h' c' kp e) (by simp only[Cp] <;> lia)
def pd (K:AW) (T:String) (x:V) (H:Hp):Prop:=match x with
 | .str _=>T="str"
 | .int _=>T="int"
 | .ref p=>(T="list"/\∃xs,AQ K H p xs)\/(T="tuple"/\∃o,K.lookup p=some o/\o.cls= .type "tuple"/\o.dict=none)\/
  (T="dict"/\((∃kvs,H p=some (.dK kvs))\/ ∃kvs,H p=some (.dT kvs)))\/(T="set"/\∃S n,H p=some (.set S n))
 | _=>False
theorem AEe {pins:List (AA×Aq)} {σ:St} {H:Hp} {s:AI} {T:String} {x:V} {v:AF} (I:Inv X pins σ H s) (r:RelV x v) (ty:pd X.K T x H):
 s.TypeIs v T/\∀a,v= .ref a->∃ob,s.heap.get? a=some ob/\ob.dict=none:=by
 cases x with
 | str z=>
  obtain⟨t,rfl⟩:=r
  cases (show T="str" from ty)
  exact⟨typeIs_str s z t,fun _ e=>nomatch e⟩
 | int i=>
  obtain⟨t,rfl⟩:=r
  cases (show T="int" from ty)
  exact⟨pf s i t,fun _ e=>nomatch e⟩
 | ref p=>
  cases r
  rcases ty with ⟨rfl,xs,hq⟩ | ⟨rfl,o,hk,hc,hd⟩ | ⟨rfl,hk⟩ | ⟨rfl,S,n,hk⟩
  . obtain⟨AB,_,pl,_⟩:=I.list hq
    refine⟨pl.isList.typeIs,fun a e=>?_⟩
    cases e
    obtain⟨o,n,e,c,hd,_⟩:=pl
    exact⟨o,e,hd⟩
  . refine⟨⟨o,I.Ff p o hk,hc⟩,fun a e=>?_⟩
    cases e
    exact⟨o,I.Ff _ o hk,hd⟩
  . have z:∃o,s.heap.get? p=some o/\o.ExactDict:=by
     rcases hk with ⟨kvs,hk⟩ | ⟨kvs,hk⟩
     . obtain⟨_,_,_,_,o,_,_,e,ex,_⟩:=I.hok p _ hk
       exact⟨o,e,ex⟩
     . obtain⟨_,_,_,_,o,_,_,e,ex,_⟩:=I.hok p _ hk
       exact⟨o,e,ex⟩
    obtain⟨o,e,ex⟩:=z
    refine⟨⟨o,e,ex.1⟩,fun a e2=>?_⟩
    cases e2
    exact⟨o,e,ex.2.1⟩
  . obtain⟨o,_,_,_,e,ex,_⟩:=I.hok p _ hk
    refine⟨⟨o,e,ex.1⟩,fun a e2=>?_⟩
    cases e2
    exact⟨o,e,ex.2.1⟩
 | _=>exact False.elim ty
def tBM (K:AW) (T:String) (r:V->List V->Hp->VK->Prop) (to:TE) (t:TA):TE:=fun σ H Q=>to σ H fun x H1=>pd K T x H1/\t σ H1 fun xs H2=>r x xs H2 Q
variable {o e:Az} {es:List Az} {to:TE} {t:TA} {name:AG} {Ej cpos:Bt} {T id:String} {r:V->List V->Hp->VK->Prop}
theorem F0 (pa:PlainAttrs T) (slot:Slot T name id) (hty:typeOf (.builtin id)=pure (.type "method_descriptor")) (hm:qb X id r) (ho:PE X o to) (ha:PA X (e::es) t)
 (hbase:attributeBase o name X.env (eval o X.env)=eval o X.env:=by rfl)
 (hfew:((backTo cpos (Bo (e::es) X.env)).all (fun x=> !x.1)&&(backToKw cpos (Gs [] X.env)).all (fun x=>x.1.isSome)
  &&decide ((e::es).length+([]:List Keyword).length+(if ([]:List Keyword).isEmpty then 0 else 1) < 30))=true:=by rfl)
 (hline:(Ej.endLine==cpos.line)=true:=by rfl) (hs:Bo (e::es) X.env=(false,eval e X.env)::Bo es X.env:=by rfl) (hplain:(backTo cpos (Bo es X.env)).any (·.1)=false:=by rfl):
 PE X (.Call (.Attribute o name Ej) (e::es) [] cpos) (tBM X.K T r to t):=by
 intro pins s σ H Q I h
 refine wpAny_Call_method_late hbase hfew hline rfl (Bv (ho pins s σ H _ I h) fun v s1 ⟨x,H1,I1,r1,ty,q1⟩=>?_)
 obtain⟨h1,h2⟩:=AEe I1 r1 ty
 refine⟨T,id,pa,slot,hty,h1,h2,?_⟩
 have hA:=ha cpos pins s1 σ H1 _ I1 q1
 rw[hs] at hA ⊢
 refine Calls.callWith_builtin (by show (false||(backTo cpos (Bo es X.env)).any (·.1))=false;rw[hplain] <;> rfl) (Calls.evalArgs_plain ?_)
 exact Bv hA fun us s2 ⟨vs,H2,I2,r2,q2⟩=>hm pins s2 σ H2 x vs v us Q I2 r1 r2 q2
end
def XX (X:Cx) (id:String) (r:V->List V->Hp->VK->Prop):Prop:=
 ∀(pins:List (AA×Aq)) (s:AI) (σ:St) (H:Hp) (x:V) (xs:List V) (v:AF) (us:List AF) (Q:VK),Inv X pins σ H s->RelV x v->Vals xs us->r x xs H Q->
  AU (AY X.prog X.w) X.A (call (.builtin id) (v::us)) (EP X pins σ Q) X.xe s
theorem Vals.one:∀{x:V} {us:List AF},Vals [x] us->∃u,us=[u]/\RelV x u
 | _,_,.cons r .nil=>⟨_,rfl,r⟩
section
variable {X:Cx} {pins:List (AA×Aq)} {σ:St} {H:Hp} {s:AI} {l b:AA} {xs ys zs:List V}
theorem Inv.Zu {AB its':List AF} {n:Nat} {f:Array AF->Array AF} {t':Nat} (I:Inv X pins σ H s) (hH:H l=some (.lst xs))
 (e:s.heap.get? l=some { cls:=.type "list",data:=.seq AB.toArray n }) (hf:f AB.toArray=its'.toArray) (hv:Vals ys its') (hz:ys.length<=AZ):
 Inv X pins σ (upd H l (.lst ys)) { s with heap:=s.heap.update l (DP f),toks:=t' }:=by
 have q:=PySem.IsL.update e f
 rw[hf] at q
 refine I.write (x:=l) (e:=l) (by rw[hH];exact trivial) (.inl rfl) (fun b' u hb hu=>(JT s.heap (DP f) (Ne.symm hb)).trans hu) ⟨_,q⟩ ?_
 exact⟨hz,its',_,hv,q⟩
theorem Inv.zV {AB:List AF} {t':Nat} (I:Inv X pins σ H s) (hv:Vals ys AB) (hz:ys.length<=AZ):
 Inv X pins σ (upd H s.heap.objs.size (.lst ys)) { s with heap:=s.heap.push { cls:=.type "list",data:=.seq AB.toArray },toks:=t' }:=
 I.laid (fun _ _ q=>Bz _ q) (Aj _) ⟨hz,AB,0,hv,Ck _ rfl⟩
theorem Inv.fresh (I:Inv X pins σ H s):H s.heap.objs.size=none:=I.hok.fresh (Aj _)
theorem Inv.Ni (I:Inv X pins σ H s) (hH:H l=some (.lst xs)):xs.length<=AZ/\∃(AB:List AF) (n:Nat),Vals xs AB/\xs.length=AB.length/\s.heap.get? l=some { cls:=.type "list",data:=.seq AB.toArray n }:=by
 obtain⟨z,AB,n,r,e⟩:=I.hok l _ hH
 exact⟨z,AB,n,r,r.length,e⟩
theorem mq {n:Nat} (h:n<=AZ):Builtin.List.listTooLong n=false:=by
 unfold Builtin.List.listTooLong
 exact decide_eq_false (by lia)
end
section
variable {X:Cx}
def ACR:V->List V->Hp->VK->Prop:=fun x vs H Q=>∃l xs y,x= .ref l/\vs=[y]/\H l=some (.lst xs)/\xs.length < AZ/\Q .non (upd H l (.lst (xs++[y])))
theorem HJ:XX X "list.append" ACR:=by
 intro pins s σ H x vs v us Q I rx rv h
 obtain⟨l,xs,y,rfl,rfl,hH,hz,q⟩:=h
 cases rx
 obtain⟨u,rfl,ru⟩:=rv.one
 obtain⟨z,AB,n,r,hl,e⟩:=I.Ni hH
 refine call_meets F.slot_list_append ⟨_,e,rfl⟩ F.entry_list_append (F.args_list_append_2 _ _) (PySem.list_append l AB.toArray n u (by rw[Cp];lia)) ⟨e,?_⟩
 refine⟨.non,_,I.Zu (its':=AB++[u]) hH e (by simp) (r.append (.cons ru .nil)) ?_,rfl,q⟩
 rw[BZ,FW]
 lia
def ACU:V->List V->Hp->VK->Prop:=fun x vs H Q=>∃l b xs zs,x= .ref l/\vs=[.ref b]/\H l=some (.lst xs)/\H b=some (.lst zs)/\xs.length+zs.length<=AZ/\Q .non (upd H l (.lst (xs++zs)))
theorem AAE:XX X "list.extend" ACU:=by
 intro pins s σ H x vs v us Q I rx rv h
 obtain⟨l,b,xs,zs,rfl,rfl,hH,hB,hz,q⟩:=h
 cases rx
 obtain⟨u,rfl,ru⟩:=rv.one
 cases ru
 obtain⟨z,AB,n,r,hl,e⟩:=I.Ni hH
 obtain⟨z2,DT,n2,r2,Cw,e2⟩:=I.Ni hB
 have hsz:AB.toArray.size+DT.toArray.size<=AZ:=by rw[Cp,Cp];lia
 have ZK:¬(!AB.toArray.isEmpty&&Builtin.List.listTooLong (AB.toArray.size+DT.toArray.size))=true:=by
  rw[mq hsz,Oa]
  exact Bw
 refine call_meets F.slot_list_extend ⟨_,e,rfl⟩ F.entry_list_extend (F.args_list_extend_2 _ _)
  (AutoSeq1.list_extend_list_list_0 l AB.toArray n b DT.toArray n2 ZK (by rw[Cp];lia) (by lia)) ⟨e,e2,?_⟩
 refine⟨.non,_,I.Zu (its':=AB++DT) hH e (by simp) (r.append r2) ?_,rfl,q⟩
 rw[BZ]
 lia
def ACS:R2:=fun x y H Q=>∃l b xs zs,x= .ref l/\y= .ref b/\H l=some (.lst xs)/\H b=some (.lst zs)/\xs.length+zs.length<=AZ/\∀p,H p=none->Q (.ref p) (upd H p (.lst (xs++zs)))
theorem Js:C7 X (binaryOp .Add) ACS:=by
 intro pins s σ H x y v u Q I rx ry h
 obtain⟨l,b,xs,zs,rfl,rfl,hH,hB,hz,q⟩:=h
 cases rx
 cases ry
 obtain⟨z,AB,n,r,hl,e⟩:=I.Ni hH
 obtain⟨z2,DT,n2,r2,Cw,e2⟩:=I.Ni hB
 refine PySem.P.add_list e e2 ?_ (by rw[Cp,Cp];lia)
 have ea:AB.toArray++DT.toArray=(AB++DT).toArray:=by simp
 rw[ea]
 exact⟨.ref _,_,I.zV (t':=s.toks) (r.append r2) (by rw[BZ];lia),rfl,q _ I.fresh⟩
end
theorem Vals.ints:∀{ns:List Int} {us:List AF},Vals (ns.map V.int) us->Du us ns
 | [],us,h=>by
  rw[KL] at h
  cases h
  exact IntsAre.nil
 | n::ns,us,h=>by
  rw[CP] at h
  cases h with
  | cons r t=>
   obtain⟨k,rfl⟩:=r
   exact IntsAre.cons n k (Vals.ints t)
theorem p5:∀{us:List AF} {ns:List Int},Du us ns->Vals (ns.map V.int) us
 | _,_,.nil=>by rw[KL];exact Paired.nil
 | _,_,.cons n t h=>by rw[CP];exact Paired.cons (show RelV (V.int n) (Mq n t) from ⟨t,rfl⟩) (p5 h)
theorem Vals.gg:∀{bs:List Bool} {us:List AF},Vals (bs.map V.bl) us->us=bs.map Mp
 | [],us,h=>by
  rw[KL] at h
  cases h
  rfl
 | b::bs,us,h=>by
  rw[CP] at h
  cases h with
  | cons r t=>
   cases r
   rw[Vals.gg t,CP]
theorem Vals.MC {a:AA} {us:List AF} (r:Vals [V.ref a] us):us=[Cv a]:=by
 cases r with
 | cons r t=>
  cases t
  cases r
  rfl
section
variable {prog:Av} {w:Am} {A:Bf} {E:AF->AI->Prop} {s:AI} {l:AA} {AB:List AF} {ns:List Int} {Q:AF->AI->Prop}
theorem ADt (hh:A.handled=none) (hl:s.heap.IsList l AB.toArray) (hi:Du AB ns)
 (h:∀h' tk t',(∀b o,s.heap.get? b=some o->h'.get? b=some o)->Q (.int ns.sum t') { s with heap:=h',toks:=tk }):AU (AY prog w) A (call (.builtin "sum") [.ref l]) Q E s:=by
 obtain⟨xs,e⟩:=hi.allInts.items
 have hn:numsOf (intItems xs).toList=ns:=by rw[<-e];exact hi.numsOf
 rw[nums_intItems] at hn
 rw[e] at hl
 refine PySem.sum_intListG hh hl fun h' tk t' hk=>?_
 have:=h h' tk t' hk
 rw[preSum_eq,DN (by simp),hn];exact this
end
section
variable {X:Cx}
def ACb (K:AW):List V->Hp->VK->Prop:=fun vs H Q=>∃(a:AA) (ns:List Int),vs=[V.ref a]/\AQ K H a (ns.map V.int)/\Q (.int ns.sum) H
theorem tK (hc:X.calm=true):JR X (.builtin "sum") (ACb X.K):=by
 intro pins s σ H vs us Q I r h
 obtain⟨a,ns,rfl,hs,q⟩:=h
 obtain⟨AB,rv,hl,_⟩:=I.list hs
 rw[Vals.MC r]
 exact ADt (I.ok.hd hc) hl.isList rv.ints fun h' tk t' hk=>⟨.int _,H,I.kept hk,⟨_,rfl⟩,q⟩
end
theorem yl {prog:Av} {w:Am} {A:Bf} {E:AF->AI->Prop} {s:AI} {l:AA} {items:Array AF} {Q:AF->AI->Prop} (hl:s.heap.IsList l items)
 (h:∀s₂:AI,s₂={ s with heap:=s.heap.push { cls:=.type "list_iterator",data:=.fields #[.ref l,.int 0 0] } }->
  (s₂.heap.IsListIter s.heap.objs.size l 0/\s₂.heap.IsList l items)->l≠s.heap.objs.size->Q (.ref s.heap.objs.size) s₂):AU (AY prog w) A (pyIter (.ref l)) Q E s:=by
 have A1:l < s.heap.objs.size:=by obtain⟨_,e,_⟩:=hl;exact Bs e
 exact OX hl (h _ rfl ⟨⟨_,Ck _ rfl,rfl,rfl⟩,hl.push _⟩ (C4 A1))
theorem AEQ {prog:Av} {w:Am} {A:Bf} {bs:List Bool} {AB:List AF} (e:AB=bs.map Mp):
 TruthOf prog w A (fun i v=>AB.toArray[i]? =some v) (fun i=>bs.getD i false):=fun i v s Q E hv hq=>by
 have hv':AB[i]? =some v:=by simpa using hv
 rw[e,CM] at hv'
 obtain⟨b,hb,rfl⟩:=Option.map_eq_some_iff.mp hv'
 have hg:bs.getD i false=b:=by rw[Gg,hb] <;> rfl
 have hq':Q (bs.getD i false) s:=hq
 rw[hg] at hq'
 exact IP hq'
theorem any_range:∀bs:List Bool,(Ca bs.length).any (fun i=>bs.getD i false)=bs.any id
 | []=>rfl
 | b::bs=>by
  rw[BO,LP,KH,XF,KH,<-any_range bs]
  all_goals rfl
theorem all_range:∀bs:List Bool,(Ca bs.length).all (fun i=>bs.getD i false)=bs.all id
 | []=>rfl
 | b::bs=>by
  rw[BO,LP,XE,Om,XE,<-all_range bs]
  all_goals rfl
section
variable {X:Cx}
def ACQ (K:AW):List V->Hp->VK->Prop:=fun vs H Q=>∃(a:AA) (bs:List Bool),vs=[V.ref a]/\AQ K H a (bs.map V.bl)/\Q (.bl (bs.all id)) H
theorem YD (hc:X.calm=true):JR X (.builtin "all") (ACQ X.K):=by
 intro pins s σ H vs us Q I r h
 obtain⟨a,bs,rfl,hs,q⟩:=h
 obtain⟨AB,rv,hl,_⟩:=I.list hs
 rw[Vals.MC r]
 have hb:=rv.gg
 refine call_all_walk (yl hl.isList fun s₂ e2 st BX=>?_)
 subst e2
 refine⟨_,_,_,_,_,_,_,rfl,Walks.list (A:=X.A.in1) (I.ok.hd hc) _ a BX AB.toArray,st,AEQ hb,fun h' tk hk=>?_⟩
 refine⟨.bl _,H,I.kept fun b o eo=>hk b o (fun hmem=>?_) (Bz _ eo),?_,q⟩
 . rcases BK.mp hmem with e1 | hmem
   . exact absurd (e1▸Bs eo) (Hc _)
   . cases hmem
 . show Mp _=Mp _
   rw[<-all_range,hb,Cp,AR]
end
mutual
inductive Dp (K:AW) (H:Hp):V->PyData->Prop
 | non:Dp K H .non .none
 | bl (b:Bool):Dp K H (.bl b) (.bool b)
 | int (i:Int):Dp K H (.int i) (.int i)
 | str (x:AG):Dp K H (.str x) (.str x)
 | lst {a:AA} {xs:List V} {ds:List PyData}:AQ K H a xs->J7 K H xs ds->Dp K H (.ref a) (.list ds)
 | tup {a:AA} {xs:List V} {ds:List PyData}:Ap K H a xs->J7 K H xs ds->Dp K H (.ref a) (.tuple ds)
inductive J7 (K:AW) (H:Hp):List V->List PyData->Prop
 | nil:J7 K H [] []
 | cons {v:V} {vs:List V} {d:PyData} {ds:List PyData}:Dp K H v d->J7 K H vs ds->J7 K H (v::vs) (d::ds)
end
section
variable {X:Cx} {pins:List (AA×Aq)} {σ:St} {H:Hp} {s:AI}
mutual
theorem Dp.reads (I:Inv X pins σ H s):∀(d:PyData) (v:V) (u:AF),Dp X.K H v d->RelV v u->∃as,Reads s.heap u d as
 | .none,_,_,h,r=>by
  cases h
  cases r
  exact⟨_,Reads.none⟩
 | .bool b,_,_,h,r=>by
  cases h
  cases r
  exact⟨_,Reads.bool b⟩
 | .int i,_,_,h,r=>by
  cases h
  obtain⟨t,rfl⟩:=r
  exact⟨_,Reads.int i t⟩
 | .str x,_,_,h,r=>by
  cases h
  obtain⟨t,rfl⟩:=r
  exact⟨_,Reads.str x t⟩
 | .list ds,_,_,h,r=>by
  cases h with
  | lst hs ha=>
   cases r
   obtain⟨AB,rv,⟨o,n,ho,hc,_,hd⟩,_⟩:=I.list hs
   obtain⟨as,hr⟩:=Dp.readsAll I ds _ AB ha rv
   exact⟨_,Reads.list ho hc hd hr⟩
 | .tuple ds,_,_,h,r=>by
  cases h with
  | tup hs ha=>
   cases r
   obtain⟨AB,rv,⟨o,ho,hc,n,hd⟩,_⟩:=I.tuple hs
   obtain⟨as,hr⟩:=Dp.readsAll I ds _ AB ha rv
   exact⟨_,Reads.tuple ho hc hd hr⟩
 | .dict _,_,_,h,_=>by cases h
theorem Dp.readsAll (I:Inv X pins σ H s):∀(ds:List PyData) (vs:List V) (us:List AF),J7 X.K H vs ds->Vals vs us->∃as,ReadsAll s.heap us ds as
 | [],_,_,h,r=>by
  cases h
  cases r
  exact⟨_,ReadsAll.nil⟩
 | d::ds,_,_,h,r=>by
  cases h with
  | cons h1 h2=>
   cases r with
   | cons r1 r2=>
    obtain⟨as,q1⟩:=Dp.reads I d _ _ h1 r1
    obtain⟨bs,q2⟩:=Dp.readsAll I ds _ _ h2 r2
    exact⟨_,ReadsAll.cons q1 q2⟩
end
end
section
variable {X:Cx}
def ACY (K:AW):R2:=fun x y H Q=>∃d e,Dp K H x d/\Dp K H y e/\SeqAt.shaped d=true/\SeqAt.shaped e=true/\Q (.bl (!PyData.eqv d e)) H
theorem ABl (hu:X.A.units+64 < cLine):C7 X (D0 .NotEq) (ACY X.K):=by
 intro pins s σ H x y v u Q I rx ry h
 obtain⟨d,e,hd,he,sd,se,q⟩:=h
 obtain⟨as,r1⟩:=Dp.reads I d x v hd rx
 obtain⟨bs,r2⟩:=Dp.reads I e y u he ry
 exact SeqAt.compareNe_shaped r1 r2 sd se hu ⟨.bl _,H,I,rfl,q⟩
end
abbrev dS (h:Ae) (c:AA) (v:Option AF):Prop:=h.IsCell c v
def ACe (scope sc:EJ):EJ:=
 { scope with names:=scope.names.map fun (n,k)=>if (k== .free&&sc.kind== .function&&sc.names.lookup n==some .cell) then (n,.cell) else (n,k) }
def Ek (cells:List (AG×AA)):List (AG×F1)->List (AG×AA)->List (AG×AA)
 | [],acc=>acc
 | (n,k)::r,acc=>if k== .free then Ek cells r ((n,(cells.lookup n).getD 0)::acc) else Ek cells r acc
theorem iE (env:Dh) (f:AG×F1->List (AG×AA)->Eo (ForInStep (List (AG×AA))))
 (hf:∀n k c,f (n,k) c=if k== .free then (do let a <-cellOf env n;pure (.yield ((n,a)::c))) else pure (.yield c)):
 ∀(names:List (AG×F1)) (acc:List (AG×AA)),(∀y∈names,y.2= .free->∃c,env.cells.lookup y.1=some c)->forIn names acc f=pure (Ek env.cells names acc)
 | [],acc,_=>by rw[List.forIn_nil];rfl
 | (n,k)::r,acc,h=>by
  rw[List.forIn_cons,hf]
  have ih:=fun acc=>iE env f hf r acc fun y hy=>h y (B2 _ hy)
  unfold Ek
  by_cases hk:(k==NameKind.free)=true
  . rw[if_pos hk,if_pos hk]
    obtain⟨c,hc⟩:=h (n,k) Bl (by simpa using hk)
    have e:cellOf env n=pure c:=by unfold cellOf;rw[hc]
    rw[e]
    have e2:(env.cells.lookup n).getD 0=c:=by rw[hc];rfl
    rw[e2]
    exact ih _
  . rw[if_neg hk,if_neg hk]
    exact ih _
theorem tG {scope:EJ} {env:Dh} (h:∀y∈scope.names,y.2= .free->∃c,env.cells.lookup y.1=some c):closureFor scope env=pure (Ek env.cells scope.names []):=by
 simp only[closureFor]
 rw[iE env _ (fun n k c=>rfl) scope.names [] h]
 rfl
theorem mem_lookup {α:Type}:∀{l:List (AG×α)} {n:AG} {c:α},(n,c)∈l->∃c',l.lookup n=some c'
 | (k,v)::r,n,c,h=>by
  rw[Mg]
  cases hb:n==k with
  | true=>exact⟨_,rfl⟩
  | false=>
   rcases BK.mp h with e | h
   . cases e;simp at hb
   . exact mem_lookup h
theorem TJ {cells:List (AG×AA)}:∀{names:List (AG×F1)} {acc:List (AG×AA)} {n:AG} {c:AA},(n,c)∈Ek cells names acc->(n,c)∈acc\/((n,.free)∈names/\c=(cells.lookup n).getD 0)
 | [],_,_,_,h=>.inl h
 | (m,k)::r,acc,n,c,h=>by
  unfold Ek at h
  split at h
  . rename_i hk
    have hk:k= .free:=by simpa using hk
    rcases TJ h with h | ⟨h1,h2⟩
    . rcases BK.mp h with e | h
      . cases e;exact .inr ⟨hk▸Bl,rfl⟩
      . exact .inl h
    . exact .inr ⟨B2 _ h1,h2⟩
  . rcases TJ h with h | ⟨h1,h2⟩
    . exact .inl h
    . exact .inr ⟨B2 _ h1,h2⟩
theorem X9 {cells:List (AG×AA)}:∀{names:List (AG×F1)} {acc:List (AG×AA)} {p:AG×AA},p∈acc->p∈Ek cells names acc
 | [],_,_,h=>h
 | (m,k)::r,acc,p,h=>by
  unfold Ek
  split
  . exact X9 (B2 _ h)
  . exact X9 h
theorem YB {cells:List (AG×AA)}:∀{names:List (AG×F1)} {acc:List (AG×AA)} {n:AG},(n,.free)∈names->(n,(cells.lookup n).getD 0)∈Ek cells names acc
 | (m,k)::r,acc,n,h=>by
  unfold Ek
  rcases BK.mp h with e | h
  . cases e
    exact X9 Bl
  . split
    . exact YB h
    . exact YB h
theorem PF:∀{names:List (AG×F1)} {h:Ae} {acc:List (AG×AA)} {x:AG} {c:AA},(x,c)∈cellsFrom h.objs.size names acc->
 (x,c)∈acc\/((x,.cell)∈names/\h.objs.size<=c/\dS (pushCells h names) c none)
 | [],_,_,_,_,h=>.inl h
 | (n,k)::r,h,acc,x,c,hm=>by
  unfold cellsFrom at hm
  unfold pushCells
  split at hm
  . rename_i hk
    rw[if_pos hk]
    have hk:k= .cell:=by simpa using hk
    rw[<-FA h { cls:=.type "cell",data:=.cell none }] at hm
    rcases PF hm with hm | ⟨h1,h2,h3⟩
    . rcases BK.mp hm with e | hm
      . cases e
        exact .inr ⟨hk▸Bl,Aj _,_,aJ r _ _ _ (Ck _ rfl),rfl⟩
      . exact .inl hm
    . rw[FA] at h2
      exact .inr ⟨B2 _ h1,XY h2,h3⟩
  . rename_i hk
    rw[if_neg hk]
    rcases PF hm with hm | ⟨h1,h2,h3⟩
    . exact .inl hm
    . exact .inr ⟨B2 _ h1,h2,h3⟩
theorem TF:∀{names:List (AG×F1)} {n:Nat} {acc:List (AG×AA)} {p:AG×AA},p∈acc->p∈cellsFrom n names acc
 | [],_,_,_,h=>h
 | (m,k)::r,n,acc,p,h=>by
  unfold cellsFrom
  split
  . exact TF (B2 _ h)
  . exact TF h
theorem X5:∀{names:List (AG×F1)} {n:Nat} {acc:List (AG×AA)} {x:AG},(x,.cell)∈names->∃c,(x,c)∈cellsFrom n names acc
 | (m,k)::r,n,acc,x,h=>by
  unfold cellsFrom
  rcases BK.mp h with e | h
  . cases e
    exact⟨n,TF Bl⟩
  . split
    . exact X5 h
    . exact X5 h
theorem X6:∀{names:List (AG×F1)} {h:Ae} {acc:List (AG×AA)} {x y:AG} {c:AA},(∀p∈acc,p.2 < h.objs.size)->(∀x y c,(x,c)∈acc->(y,c)∈acc->x=y)->
 (x,c)∈cellsFrom h.objs.size names acc->(y,c)∈cellsFrom h.objs.size names acc->x=y
 | [],_,_,_,_,_,_,hi,h1,h2=>hi _ _ _ h1 h2
 | (n,k)::r,h,acc,x,y,c,hl,hi,h1,h2=>by
  unfold cellsFrom at h1 h2
  split at h1
  . rename_i hk
    rw[if_pos hk] at h2
    rw[<-FA h { cls:=.type "cell",data:=.cell none }] at h1 h2
    refine X6 (h:=h.push _) (fun p hp=>?_) (fun x y c a b=>?_) h1 h2
    . rw[FA]
      rcases BK.mp hp with rfl | hp
      . exact Hu _
      . exact G8 (hl p hp)
    . rcases BK.mp a with e | a <;> rcases BK.mp b with e' | b
      . cases e;cases e';rfl
      . cases e;exact absurd (hl _ b) (Hc _)
      . cases e';exact absurd (hl _ a) (Hc _)
      . exact hi _ _ _ a b
  . rename_i hk
    rw[if_neg hk] at h2
    exact X6 hl hi h1 h2
theorem AAI {M:Model} {A:Bf} {E:AF->AI->Prop} {s:AI} {scope:EJ} {globals:AA} {closure:List (AG×AA)} {Bp:AG} {func:Option AA} {code:AF} {around:Dh} {builtins:AA} {Q:Dh->AI->Prop}
 (h:Q (newEnv scope s.heap.objs.size globals (cellsFrom (s.heap.objs.size+1) scope.names closure) Bp func code (some around) builtins)
  { s with heap:=pushCells (s.heap.push { cls:=.type "dict",data:=.dict #[] }) scope.names }):
 AU M A (newFunctionEnv scope globals closure [] Bp func code (some around) builtins) Q E s:=by
 simp only[newFunctionEnv,Option.isSome_some,if_true]
 refine AJ (wpAny_alloc ?_)
 refine AJ (wpAny_layCells _ (fun n k c=>rfl) scope.names closure _ _ ?_)
 rw[show ({ s with heap:=s.heap.push { cls:=.type "dict",data:=.dict #[] } }:AI).heap.objs.size=s.heap.objs.size+1 from FA ..]
 rw[List.forIn_nil]
 exact AJ (Ai (Ai h))
theorem Zt {sc:EJ}:∀{names:List (AG×F1)} {x:AG} {k:F1},
 (names.map fun (n,k)=>if (k==NameKind.free&&sc.kind== .function&&sc.names.lookup n==some .cell) then (n,NameKind.cell) else (n,k)).lookup x=some k->
 ∃k',names.lookup x=some k'/\(k=k'\/(k'= .free/\k= .cell))
 | [],_,_,h=>by simp at h
 | (n,k₀)::r,x,k,h=>by
  have ih:= @Zt sc r x k
  have h':LN x ((if (k₀==NameKind.free&&sc.kind== .function&&sc.names.lookup n==some .cell)=true then (n,NameKind.cell) else (n,k₀))::(r.map _))=some k:=h
  cases hx:x==n with
  | true=>
   simp only[Mg,hx]
   by_cases hc:(k₀==NameKind.free&&sc.kind== .function&&sc.names.lookup n==some .cell)=true
   . rw[if_pos hc] at h'
     simp only[Mg,hx] at h'
     cases h'
     simp only[CB,beq_iff_eq] at hc
     exact⟨k₀,rfl,.inr ⟨hc.1.1,rfl⟩⟩
   . rw[if_neg hc] at h'
     simp only[Mg,hx] at h'
     cases h'
     exact⟨_,rfl,.inl rfl⟩
  | false=>
   simp only[Mg,hx]
   by_cases hc:(k₀==NameKind.free&&sc.kind== .function&&sc.names.lookup n==some .cell)=true
   . rw[if_pos hc] at h'
     simp only[Mg,hx] at h'
     exact ih h'
   . rw[if_neg hc] at h'
     simp only[Mg,hx] at h'
     exact ih h'
structure OZ (N:List AG) (sc scope:EJ) (own:List (AG×Nat)):Prop where
 kind:scope.kind= .function
 uniq:∀y∈scope.names,scope.names.lookup y.1=some y.2
 ix:∀p∈own,N[p.2]? =some p.1
 free:∀y∈scope.names,y.2= .free->sc.names.lookup y.1=some .cell\/sc.names.lookup y.1=some .free
 own:∀y∈scope.names,y.2= .local\/y.2= .cell->y.1∈own.map (·.1)\/y.1∉N
def wipe (σ:St):List Nat->St
 | []=>σ
 | v::vs=>(wipe σ vs).set v none
theorem c5 (σ:St):∀vs:List Nat,(wipe σ vs).length=σ.length
 | []=>rfl
 | v::vs=>by unfold wipe;rw[List.length_set,c5 σ vs]
theorem c6 {σ:St} {i:Nat} {x:V}:∀{vs:List Nat},(wipe σ vs)[i]? =some (some x)->σ[i]? =some (some x)/\i∉vs
 | [],h=>⟨h,by simp⟩
 | v::vs,h=>by
  unfold wipe at h
  by_cases hi:v=i
  . subst hi
    by_cases hv:v < (wipe σ vs).length
    . rw[eD hv] at h;cases h
    . rw[XI (by simpa using hv)] at h;cases h
  . rw[eB hi] at h
    obtain⟨h1,h2⟩:=c6 h
    exact⟨h1,by simp only[BK,not_or];exact⟨fun e=>hi e.symm,h2⟩⟩
abbrev Cx.blk (X:Cx) (s:AI) (H:Hp) (scope:EJ) (DQ:Dh) (fp:List AA):Cx:={ X with s_0:=s,LG:=H,env:=DQ,outer:=X.stack,ex:=fp,fn:=fun x=>scope.names.lookup x==some .cell,pn:=[],xe:=fun _ _=>False }
section
variable {X:Cx} {pins:List (AA×Aq)} {σ:St} {H:Hp} {s:AI}
theorem rQ {scope:EJ} {own:List (AG×Nat)} {fp:List AA} (I:Inv X pins σ H s) (ok:OZ X.N X.env.scope scope own) (hN:X.N.Nodup) (hfp:∀b∈fp,DL X pins H b/\b < s.heap.objs.size):
 Inv (X.blk s H scope (compEnvC scope (cellsFrom (s.heap.objs.size+1) scope.names (Ek X.env.cells scope.names [])) s.heap.objs.size X.env) fp) [] (wipe σ (own.map (·.2))) H { s with heap:=pushCells (s.heap.push { cls:=.type "dict",data:=.dict #[] }) scope.names }:=by
 have hfree:∀y∈scope.names,y.2= .free->∃c,X.env.cells.lookup y.1=some c:=fun y hy e=>by
  rcases ok.free y hy e with k | k
  . exact I.ok.has _ (.inl k)
  . exact I.ok.has _ (.inr k)
 generalize Qv:compEnvC scope (cellsFrom (s.heap.objs.size+1) scope.names (Ek X.env.cells scope.names [])) s.heap.objs.size X.env=DQ
 have kp:∀b o,s.heap.get? b=some o->(pushCells (s.heap.push { cls:=.type "dict",data:=.dict #[] }) scope.names).get? b=some o:=fun b o e=>aJ _ _ _ _ (Bz _ e)
 have hL:DQ.locals=s.heap.objs.size:=by rw[<-Qv];rfl
 have CH:DQ.cells=cellsFrom (s.heap.objs.size+1) scope.names (Ek X.env.cells scope.names []):=by rw[<-Qv];rfl
 have hsc:DQ.scope=ACe scope X.env.scope:=by rw[<-Qv];rfl
 rw[<-FA s.heap { cls:=.type "dict",data:=.dict #[] }] at CH
 have cm:∀{y c},(y,c)∈Ek X.env.cells scope.names []->X.env.cells.lookup y=some c/\c < s.heap.objs.size:=fun {y c} hm=>by
  rcases TJ hm with hm | ⟨h1,rfl⟩
  . cases hm
  . obtain⟨c,hc⟩:=hfree _ h1 rfl
    rw[hc]
    obtain⟨w,z⟩:=I.cell _ _ hc
    exact⟨rfl,z.lt⟩
 have mem:∀{y c},DQ.cells.lookup y=some c->(X.env.cells.lookup y=some c/\c < s.heap.objs.size)\/(s.heap.objs.size+1<=c/\dS (pushCells (s.heap.push { cls:=.type "dict",data:=.dict #[] }) scope.names) c none):=fun {y c} e=>by
  rw[CH] at e
  rcases PF (Gk e) with hm | ⟨_,h2,h3⟩
  . exact .inl (cm hm)
  . rw[FA] at h2;exact .inr ⟨h2,h3⟩
 have look:∀{y},scope.names.lookup y=some .free->∃c,DQ.cells.lookup y=some c/\X.env.cells.lookup y=some c:=fun {y} hl=>by
  have hy:(y,NameKind.free)∈scope.names:=Gk hl
  obtain⟨c',e'⟩:=mem_lookup (TF (names:=scope.names) (n:=(s.heap.push { cls:=.type "dict",data:=.dict #[] }).objs.size) (YB (cells:=X.env.cells) (acc:=[]) hy))
  rw[<-CH] at e'
  refine⟨c',e',?_⟩
  rw[CH] at e'
  rcases PF (Gk e') with hm | ⟨h1,_,_⟩
  . exact (cm hm).1
  . have:=ok.uniq _ h1
    rw[hl] at this;cases this
 have okB:(X.blk s H scope DQ fp).Ok:=by
  refine⟨I.ok.mod,by show DQ.scope.kind=_;rw[hsc];exact ok.kind,by show DQ.globals=_;rw[<-Qv];exact I.ok.glob,by show DQ.builtins=_;rw[<-Qv];exact I.ok.blt,by show s.heap.objs.size<=DQ.locals;rw[hL];exact Aj _,
   fun y z c e1 e2=>?_,fun y hy=>?_,fun y c z e=>?_,I.ok.hd,I.ok.frames,.inl rfl,fun b hb=>⟨?_,fun y c e z=>?_⟩,I.bs,BP I.ok.Hg I.sz,fun b o e hb=>?_,fun b hb z=>?_,I.stack,I.pG⟩
  . have e1:DQ.cells.lookup y=some c:=e1
    have e2:DQ.cells.lookup z=some c:=e2
    rw[CH] at e1 e2
    refine X6 (fun p hp=>?_) (fun y z c a b=>I.ok.inj y z c (cm a).1 (cm b).1) (Gk e1) (Gk e2)
    rw[FA]
    exact G8 (cm (y:=p.1) (c:=p.2) hp).2
  . show ∃c,DQ.cells.lookup y=some c
    have key:∀k,DQ.kindOf y=some k->(k= .cell\/k= .free)->∃c,DQ.cells.lookup y=some c:=fun k hk hk'=>by
     unfold Env.kindOf at hk
     rw[hsc] at hk
     obtain⟨k',e,r⟩:=Zt hk
     have:k'= .cell\/k'= .free:=by
      rcases r with rfl | ⟨rfl,_⟩
      . exact hk'
      . exact .inr rfl
     rcases this with rfl | rfl
     . obtain⟨c,hm⟩:=X5 (n:=(s.heap.push { cls:=.type "dict",data:=.dict #[] }).objs.size) (acc:=Ek X.env.cells scope.names []) (Gk e)
       obtain⟨c',e'⟩:=mem_lookup hm
       exact⟨c',by rw[CH];exact e'⟩
     . obtain⟨c,h1,_⟩:=look e
       exact⟨c,h1⟩
    rcases hy with hy | hy
    . exact key _ hy (.inl rfl)
    . exact key _ hy (.inr rfl)
  . have z:(scope.names.lookup y==some NameKind.cell)=true:=z
    have z:scope.names.lookup y=some .cell:=by simpa using z
    have e:DQ.cells.lookup y=some c:=e
    rw[CH] at e
    rcases PF (Gk e) with hm | ⟨_,h2,_⟩
    . rcases TJ hm with hm | ⟨h1,_⟩
      . cases hm
      . have q:=ok.uniq _ h1
        rw[z] at q;cases q
    . rw[FA] at h2
      exact XY h2
  . show b≠DQ.locals
    rw[hL];exact C4 (hfp b hb).2
  . have e:DQ.cells.lookup y=some c:=e
    rcases mem e with ⟨h1,_⟩ | ⟨h1,_⟩
    . exact (hfp b hb).1.2.2.2.2.1 y c h1 z
    . have h2:s.heap.objs.size+1<=b:=by rw[<-z];exact h1
      exact absurd (E3 (hfp b hb).2 (XY h2)) (Hc _)
  . rcases (hfp b hb).1.2.2.2.1 with z | z
    . exact I.ok.L5 b o e z
    . exact absurd (E3 (Bs e) (BP I.ok.Hg z)) (Hc _)
  . rcases BK.mp (I.cu b z) with z | z
    . exact (hfp b hb).1.2.1 z
    . exact (hfp b hb).1.2.2.1 z
 refine⟨okB,rfl,I.bare,Un.kept kp,⟨fun _=>none,?_,fun i y av e1 e2 e3=>?_⟩,fun y c e=>?_,?_,fun y c e=>?_,fun p hp=>?_,I.hok.kept kp,by rw[c5];exact I.len⟩
 . show Heap.Ns _ DQ.locals _
   rw[hL]
   exact Heap.Ns.keeps (Heap.Ns.new ..) fun b o e=>aJ _ _ _ _ e
 . obtain⟨e2,BX⟩:=c6 e2
   have hfr:scope.names.lookup y=some .free/\(DQ.kindOf y=some .cell\/DQ.kindOf y=some .free):=by
    have key:∀k,DQ.scope.names.lookup y=some k->k= .local\/k= .cell\/k= .free->scope.names.lookup y=some .free/\(DQ.kindOf y=some .cell\/DQ.kindOf y=some .free):=fun k hk hk'=>by
     have hk0:=hk
     rw[hsc] at hk
     obtain⟨k',e,r⟩:=Zt hk
     have no:¬(k'= .local\/k'= .cell):=fun hh=>by
      rcases ok.own _ (Gk e) hh with e' | e'
      . obtain⟨p,hp,hpy⟩:=Dc.mp e'
        have e3:=ok.ix p hp
        have:p.1=y:=hpy
        rw[this] at e3
        exact BX (Dc.mpr ⟨p,hp,Z4 hN e3 e1⟩)
      . exact e' (G7 e1)
     rcases r with rfl | ⟨rfl,rfl⟩
     . rcases hk' with rfl | rfl | rfl
       . exact absurd (.inl rfl) no
       . exact absurd (.inr rfl) no
       . exact⟨e,.inr hk0⟩
     . exact⟨e,.inl hk0⟩
    have e3:O6 DQ.scope y:=e3
    rcases e3 with e3 | e3 | e3
    . exact key _ e3 (.inl rfl)
    . exact key _ e3 (.inr (.inl rfl))
    . exact key _ e3 (.inr (.inr rfl))
   obtain⟨m,hn,hl⟩:=I.loc
   have yI:O6 X.env.scope y:=(ok.free _ (Gk hfr.1) rfl).elim (fun k=>.inr (.inl k)) (fun k=>.inr (.inr k))
   obtain⟨w,r,q⟩:=hl i y av e1 e2 yI
   refine⟨w,r,.inr ⟨hfr.2,?_⟩⟩
   obtain⟨c,h1,h2⟩:=look hfr.1
   rcases q with ⟨k,_⟩ | ⟨_,c',e',z⟩
   . have k:X.env.scope.names.lookup y=some .local:=k
     rcases ok.free _ (Gk hfr.1) rfl with k' | k' <;> rw[show X.env.scope.names.lookup y=_ from k'] at k <;> cases k
   . rw[h2] at e';cases e'
     exact⟨c,h1,z.keeps kp⟩
 . have e:DQ.cells.lookup y=some c:=e
   rcases mem e with ⟨h1,_⟩ | ⟨_,z⟩
   . obtain⟨w,z⟩:=I.cell y c h1
     exact⟨w,z.keeps kp⟩
   . exact⟨_,z⟩
 . show H DQ.locals=none
   rw[hL];exact I.hok.fresh (Aj _)
 . have e:DQ.cells.lookup y=some c:=e
   rcases mem e with ⟨h1,_⟩ | ⟨h1,_⟩
   . exact I.Fw y c h1
   . exact I.hok.fresh (XY h1)
 . exact absurd (show p∈([]:List (AA×Aq))++[] from hp) (by simp)
theorem qk {E:AF->AI->Prop} {D:AA} {xs:List V} {y:V} {v:AF} {Q:AF->AI->Prop} (I:Inv X pins σ H s) (hD:H D=some (.lst xs)) (hz:xs.length < AZ) (r:RelV y v)
 (h:∀s',Inv X pins σ (upd H D (.lst (xs++[y]))) s'->Q .none s'):AU (AY X.prog X.w) X.A (call (.builtin "list.append") [.ref D,v]) Q E s:=by
 obtain⟨hz',AB,n,ri,e⟩:=I.hok D _ hD
 have hl:=ri.length
 refine append_at (hsz:=by rw[Cp];lia) e fun h' sb ho'=>?_
 refine h { s with heap:=h' } (I.write (t':=s.toks) (by rw[hD];trivial) (.inl rfl) (fun b u hb q=>(sb.2 b hb).trans q) ⟨_,ho'⟩ ⟨by rw[BZ];exact hz,AB++[v],n+1,ri.append (.cons r .nil),?_⟩)
 rw[ho']
 simp
def O1 (X:Cx) (ifs:List Az) (t:TT):Prop:=
 ∀(pins:List (AA×Aq)) (s:AI) (σ:St) (H:Hp) (Q:Bool->Hp->Prop),Inv X pins σ H s->t σ H Q->
  AU (AY X.prog X.w) X.A (forIn ifs true fun c r=>if r=true then do let ok <-isTrue c X.env (eval c X.env);pure (ForInStep.yield ok) else pure (ForInStep.yield r)) (TP X pins σ Q) X.xe s
def Gy:TT:=fun _ H Q=>Q true H
theorem HM:O1 X [] Gy:=fun _ _ _ H _ I h=>wpAny_tests_nil ⟨H,I,h⟩
theorem MB {c:Az} {t:TT} (h:PT X c t):O1 X [c] t:=fun pins s σ H Q I hw=>wpAny_tests_one (h pins s σ H Q I hw)
end
theorem OS {α:Type} {t:Eo α} {Q Q':α->AI->Prop} {M:Model} {A:Bf} {E:AF->AI->Prop} {s:AI} (h:AU M A t Q (fun _ _=>False) s) (hQ:∀a s,Q a s->Q' a s):AU M A t Q' E s:=FR h hQ fun _ _ z=>False.elim z
theorem tH {prog:Av} {w:Am} {A:Bf} {R:Result->AI->Prop} {s:AI} {elt target iter:Az} {ifs:List Az} {scope:EJ} {pos:Bt} {it acc:AF} {env:Dh} (I:Nat->AI->Prop)
 (turn:∀n s,I n s->AU (AY prog w) A (pyNext it) (fun r s₁=>match r with
  | none=>R (.ok .next) s₁
  | some v=>AU (AY prog w) A (letOwnedTupleGo target it v) (fun _ s₁'=>AU (AY prog w) A (assign target env v) (fun _ s₂=>
   AU (AY prog w) A (forIn ifs true fun c r=>if r=true then do let ok <-isTrue c env (eval c env);pure (ForInStep.yield ok) else pure (ForInStep.yield r)) (fun ok s₃=>
    if ok=true then AU (AY prog w) A (eval elt env) (fun x s₄=>
     AU (AY prog w) A (call (.builtin "list.append") [acc,x]) (fun _ s₅=>∃m,m < n/\I m s₅) (notedBy (AY prog w) A env fun e s'=>R (.error e) s') s₄) (notedBy (AY prog w) A env fun e s'=>R (.error e) s') s₃
    else ∃m,m < n/\I m s₃) (notedBy (AY prog w) A env fun e s'=>R (.error e) s') s₂) (notedBy (AY prog w) A env fun e s'=>R (.error e) s') s₁') (notedBy (AY prog w) A env fun e s'=>R (.error e) s') s₁) (notedBy (AY prog w) A env fun e s'=>R (.error e) s') s)
 (n:Nat) (h:I n s):
 codeAny (AY prog w) A (.compLoop (.ListComp elt [⟨target,iter,ifs,0⟩] scope pos) 0 it acc env) R s:=by
 refine codeAny_loop rfl I (fun n s hI=>?_) n h
 show AU _ A ((compTurn (.ListComp elt [⟨target,iter,ifs,0⟩] scope pos) 0 it acc env).onRaise (fun x=>do noteFrame x env;theTreesLotGoes x)) _ _ s
 refine wpAny_noted ?_
 rw[compTurn_list]
 refine AJ (qK (AJ (FR (turn n s hI) (fun r s₁ h₁=>?_) fun _ _ h'=>h')))
 cases r with
 | none=>exact Ai h₁
 | some v=>
  refine AJ (FR h₁ (fun _ s₁' h₁'=>?_) fun _ _ h'=>h')
  refine AJ (FR h₁' (fun _ s₂ h₂=>AJ (FR h₂ (fun ok s₃ h₃=>?_) fun _ _ h'=>h')) fun _ _ h'=>h')
  cases ok with
  | false=>exact Ai ⟨rfl,h₃⟩
  | true=>
   exact AJ (AJ (FR h₃ (fun x s₄ h₄=>AJ (FR h₄ (fun _ s₅ h₅=>Ai (Ai ⟨rfl,h₅⟩)) fun _ _ h'=>h')) fun _ _ h'=>h'))
section
variable {X:Cx}
def Wm (wi:TI) (g:TG) (tt:TT) (te:TE) (vs:List Nat):TE:=fun σ H Q=>wi σ H fun J H1=>∀D,H1 D=none->∃W:Nat->Nat->Hp->Prop,(∃m,W 0 m (upd H1 D (.lst [])))/\∀i m H,W i m H->
 (J.stop i H/\Q (.ref D) H)\/(J.go i H/\∃Nx:Hp->Prop,(∀H',Nx H'->∃m',m' < m/\W (i+1) m' H')/\∀x H',J.HW i H x H'->g x (wipe σ vs) H' fun σ2 H2=>wipe σ2 vs=wipe σ vs/\tt σ2 H2 fun b H3=>
  if b=true then te σ2 H3 fun y H4=>∃acc,H4 D=some (.lst acc)/\acc.length < AZ/\Nx (upd H4 D (.lst (acc++[y]))) else Nx H3)
theorem lP {pins:List (AA×Aq)} {s:AI} {σ:St} {H:Hp} {Q:VK} {elt tg iter:Az} {ifs:List Az} {scope:EJ} {own:List (AG×Nat)} {pos pos':Bt} {wi:TI} {g:TG} {tt:TT} {te:TE} {use:Option (AF->Eo Unit)} {Qf:AF->AI->Prop}
 (hc:X.calm=true) (hN:X.N.Nodup) (I:Inv X pins σ H s) (hi:PI X tg iter wi) (ok:OZ X.N X.env.scope scope own)
 (hg:∀(s:AI) (H:Hp) (C:AA) (cl:List (AG×AA)) (fp:List AA),PG (X.blk s H scope (compEnvC scope cl C X.env) fp) tg g) (ht:∀(s:AI) (H:Hp) (C:AA) (cl:List (AG×AA)) (fp:List AA),O1 (X.blk s H scope (compEnvC scope cl C X.env) fp) ifs tt)
 (he:∀(s:AI) (H:Hp) (C:AA) (cl:List (AG×AA)) (fp:List AA),PE (X.blk s H scope (compEnvC scope cl C X.env) fp) elt te) (hs:∀x,foldedSetIterable iter X.env x=pure x)
 (h:Wm wi g tt te (own.map (·.2)) σ H Q)
 (hRR:∀D C s' m H',Inv X pins σ H' s'->Q (.ref D) H'->s'.heap.Ns C m->DL X pins H' C->compPost (AY X.prog X.w) X.A X.xe use Qf (.ref D) C (.ok .next) s'):
 AU (AY X.prog X.w) X.A (comprehension (.ListComp elt [⟨tg,iter,ifs,0⟩] scope pos) scope X.env pos' (newList []) false (eval iter X.env) use) Qf X.xe s:=by
 have hfree:∀y∈scope.names,y.2= .free->∃c,X.env.cells.lookup y.1=some c:=fun y hy e=>by
  rcases ok.free y hy e with k | k
  . exact I.ok.has _ (.inl k)
  . exact I.ok.has _ (.inr k)
 refine wpAny_comprehension_free (use:=use) rfl hs (tG hfree) ok.kind (fun y hy e=>by rw[ok.uniq y hy,e])
  (Bv (hi pins s σ H _ I h) fun xv s1 hx=>Bv hx fun itv s2 h2=>?_)
 obtain⟨it,fp,tn,J,H2,e,I2,T,st2,f2,q⟩:=h2
 subst e
 refine Hq (AAI ?_) (by show 0<=AZ;decide)
 generalize hD:s2.heap.objs.size=D
 have Li:H2 D=none:=I2.hok.fresh (JZ hD)
 obtain⟨W,⟨m0,w0⟩,turn⟩:=q D Li
 generalize hs3:({ s2 with heap:=s2.heap.push { cls:=.type "list",data:=.seq ([]:List AF).toArray } }:AI)=s3
 have I3:Inv X pins σ (upd H2 D (.lst [])) s3:=by
  rw[<-hs3]
  refine I2.laid (t':=s2.toks) (fun b o e=>Bz _ e) (JZ hD) ⟨Ci _,[],0,.nil,?_⟩
  rw[<-hD]
  exact Ck _ rfl
 have h3:s3.heap=s2.heap.push { cls:=.type "list",data:=.seq ([]:List AF).toArray }:=by rw[<-hs3]
 have sz:∀b∈fp,b < s2.heap.objs.size:=fun b hb=>by
  obtain⟨o,e,_⟩:=T.obj _ _ st2 b hb
  exact Bs e
 have f3:∀b∈fp,DL X pins (upd H2 D (.lst [])) b/\b < s3.heap.objs.size:=fun b hb=>by
  have A1:=sz b hb
  refine⟨⟨?_,(f2 b hb).2⟩,by rw[h3,FA];exact G8 A1⟩
  rw[AV (by rw[<-hD];exact C4 A1)]
  exact (f2 b hb).1
 have st3:tn 0 s3.heap:=T.keep _ _ _ st2 fun b _ o e=>by rw[h3];exact Bz _ e
 have I4:=rQ I3 ok hN f3
 have pg:=hg s3 (upd H2 D (.lst [])) s3.heap.objs.size (cellsFrom (s3.heap.objs.size+1) scope.names (Ek X.env.cells scope.names [])) fp
 have pt:=ht s3 (upd H2 D (.lst [])) s3.heap.objs.size (cellsFrom (s3.heap.objs.size+1) scope.names (Ek X.env.cells scope.names [])) fp
 have pe:=he s3 (upd H2 D (.lst [])) s3.heap.objs.size (cellsFrom (s3.heap.objs.size+1) scope.names (Ek X.env.cells scope.names [])) fp
 show codeAny _ _ (.compStart (.ListComp elt [⟨tg,iter,ifs,0⟩] scope pos) 0 (.ref it) (.ref D) (compEnvC scope (cellsFrom (s3.heap.objs.size+1) scope.names (Ek X.env.cells scope.names [])) s3.heap.objs.size X.env)) (compPost (AY X.prog X.w) X.A X.xe use Qf (.ref D) s3.heap.objs.size) { s3 with heap:=pushCells (s3.heap.push { cls:=.type "dict",data:=.dict #[] }) scope.names }
 have mh:∀b∈fp,(upd H2 D (.lst [])) b=none:=fun b hb=>(f3 b hb).1.1
 generalize hce:compEnvC scope (cellsFrom (s3.heap.objs.size+1) scope.names (Ek X.env.cells scope.names [])) s3.heap.objs.size X.env=ce at I4 pg pt pe ⊢
 have cL:ce.locals=s3.heap.objs.size:=by subst hce;rfl
 generalize Qs:upd H2 D (.lst [])=H3 at I3 I4 pg pt pe w0 mh f3
 generalize x9:({ s3 with heap:=pushCells (s3.heap.push { cls:=.type "dict",data:=.dict #[] }) scope.names }:AI)=s4 at I4 ⊢
 have st4:tn 0 s4.heap:=T.keep _ _ _ st3 fun b _ o e=>by rw[<-x9];exact aJ _ _ _ _ (Bz _ e)
 have stat:∀{σ':St} {H':Hp} {s':AI},Inv (X.blk s3 H3 scope ce fp) [] σ' H' s'->(∀b∈fp,H' b=none)->∀b∈fp,DL (X.blk s3 H3 scope ce fp) [] H' b:=fun {σ' H' s'} I' hn b hb=>
  ⟨hn b hb,(I'.ok.M8 b hb).1,I'.ok.Lf b hb,.inl hb,fun x c e=>(I'.ok.M8 b hb).2 x c e,fun p hp=>absurd (show p∈([]:List (AA×Aq))++[] from hp) (by simp)⟩
 have loop:codeAny (AY X.prog X.w) X.A (.compLoop (.ListComp elt [⟨tg,iter,ifs,0⟩] scope pos) 0 (.ref it) (.ref D) ce) (compPost (AY X.prog X.w) X.A X.xe use Qf (.ref D) s3.heap.objs.size) s4:=by
  refine tH (fun n s'=>∃i H',Inv (X.blk s3 H3 scope ce fp) [] (wipe σ (own.map (·.2))) H' s'/\tn i s'.heap/\(∀b∈fp,H' b=none)/\W i n H') ?_ m0 ⟨0,H3,I4,st4,mh,w0⟩
  rintro n s5 ⟨i,H5,I5,st5,n5,w5⟩
  rcases turn i n H5 w5 with ⟨stop,qq⟩ | ⟨go,Nx,wz,step⟩
  . have td:=T.done (X.blk s3 H3 scope ce fp) rfl rfl rfl hc i [] s5 _ H5 (fun _ _=>False) I5 (stat I5 n5) st5 stop
    refine OS td fun r s6 ⟨hr,I6⟩=>?_
    subst hr
    have I7:Inv X pins σ H5 s6:=I3.call' (ch:=fp) I6.os I6.base I6.hok I6.bare fun b hb=>⟨(f3 b hb).1.2.2.2.1,(f3 b hb).1.2.1,(f3 b hb).1.2.2.2.2.1,(f3 b hb).1.2.2.2.2.2⟩
    have nC:H5 s3.heap.objs.size=none:=by
     have z:H5 ce.locals=none:=I6.free
     rw[cL] at z
     exact z
    obtain⟨m,hn,_⟩:=I6.loc
    have hn:s6.heap.Ns ce.locals m:=hn
    rw[cL] at hn
    exact hRR D s3.heap.objs.size s6 m H5 I7 qq hn (I3.Iu (Aj _) nC)
  . have ti:=T.item (X.blk s3 H3 scope ce fp) rfl rfl rfl hc i [] s5 _ H5 (fun _ _=>False) I5 (stat I5 n5) st5 go
    refine OS ti fun r s6 ⟨u,hr,h6⟩=>?_
    subst hr
    refine OS h6 fun _ s7 ⟨x,H7,I7,r7,y7,cq,n7⟩=>?_
    have qV:=I7.pinned (stat I7 n7) (T.obj _ _ cq)
    refine OS (pg _ s7 _ H7 x u _ qV r7 (step x H7 y7)) fun _ s8 ⟨W2,H8,I8,kr,q8⟩=>?_
    refine OS (pt _ s8 W2 H8 _ I8 q8) fun b s9 ⟨H9,I9,q9⟩=>?_
    have fin:∀{s':AI} {H':Hp},Inv (X.blk s3 H3 scope ce fp) ([]++RP fp s7.heap) W2 H' s'->Nx H'->∃m,m < n/\∃i H',Inv (X.blk s3 H3 scope ce fp) [] (wipe σ (own.map (·.2))) H' s'/\tn i s'.heap/\(∀b∈fp,H' b=none)/\W i m H':=fun {s' H'} I' nx=>by
     obtain⟨m',hm,w'⟩:=wz H' nx
     have ng:∀b∈fp,∀o,s7.heap.get? b=some o->s'.heap.get? b=some o/\H' b=none:=fun b hb o e=>
      let z:=I'.pin (b,o) (DM _ (DM _ (Zy hb e)))
      ⟨z.1,z.2.1⟩
     have hl:(wipe σ (own.map (·.2))).length=W2.length:=by rw[<-kr,c5]
     refine⟨m',hm,i+1,H',(I'.MP (pins:=[])).weak hl (fun j v e=>?_),T.keep _ _ _ cq fun b hb o e=>(ng b hb o e).1,fun b hb=>?_,w'⟩
     . rw[<-kr] at e
       exact (c6 e).1
     . obtain⟨o,e,_⟩:=T.obj _ _ cq b hb
       exact (ng b hb o e).2
    cases b with
    | false=>
     simp only[Cg,if_false] at q9 ⊢
     exact fin I9 q9
    | true=>
     simp only[if_true] at q9 ⊢
     refine OS (pe _ s9 W2 H9 _ I9 q9) fun z Kv ⟨yv,Oe,qS,r10,acc,wd,yR,nx⟩=>?_
     exact qk (X:=X.blk s3 H3 scope ce fp) qS wd yR r10 fun Jx qT=>fin qT nx
 exact codeAny_compStart_list loop (T.self X.A 0 _ _ _ st4 loop)
theorem GP {elt tg iter:Az} {ifs:List Az} {scope:EJ} {own:List (AG×Nat)} {pos:Bt} {wi:TI} {g:TG} {tt:TT} {te:TE} (hc:X.calm=true) (hN:X.N.Nodup) (hi:PI X tg iter wi) (ok:OZ X.N X.env.scope scope own)
 (hg:∀(s:AI) (H:Hp) (C:AA) (cl:List (AG×AA)) (fp:List AA),PG (X.blk s H scope (compEnvC scope cl C X.env) fp) tg g) (ht:∀(s:AI) (H:Hp) (C:AA) (cl:List (AG×AA)) (fp:List AA),O1 (X.blk s H scope (compEnvC scope cl C X.env) fp) ifs tt)
 (he:∀(s:AI) (H:Hp) (C:AA) (cl:List (AG×AA)) (fp:List AA),PE (X.blk s H scope (compEnvC scope cl C X.env) fp) elt te) (hs:∀x,foldedSetIterable iter X.env x=pure x:=by intro _;rfl):
 PE X (.ListComp elt [⟨tg,iter,ifs,0⟩] scope pos) (Wm wi g tt te (own.map (·.2))):=by
 intro pins s σ H Q I h
 rw[eval_ListComp]
 refine lP hc hN I hi ok hg ht he hs h fun D C s' m H' I' q hn f=>⟨m,hn,fun h'' sb=>?_⟩
 obtain⟨f0,f1,f2,f3,f4,f5⟩:=f
 exact⟨.ref D,H',I'.turned (t':=s'.toks) (fun b o hb e=>(sb.2 b hb).trans e) f0 f1 f3 f4 f5,rfl,q⟩
theorem RT {i:Nat} {y:AG} {py:Bt} {elt tg iter:Az} {ifs:List Az} {scope:EJ} {own:List (AG×Nat)} {pos spos:Bt} {wi:TI} {g:TG} {tt:TT} {te:TE} (hc:X.calm=true) (hN:X.N.Nodup) (hy:X.N[i]? =some y) (hyl:X.env.scope.names.lookup y=some .local)
 (hsw:swapsWith (.ListComp elt [⟨tg,iter,ifs,0⟩] scope pos) (some (.Name y py)) spos.line X.env=pure true) (hi:PI X tg iter wi) (ok:OZ X.N X.env.scope scope own)
 (hg:∀(s:AI) (H:Hp) (C:AA) (cl:List (AG×AA)) (fp:List AA),PG (X.blk s H scope (compEnvC scope cl C X.env) fp) tg g) (ht:∀(s:AI) (H:Hp) (C:AA) (cl:List (AG×AA)) (fp:List AA),O1 (X.blk s H scope (compEnvC scope cl C X.env) fp) ifs tt)
 (he:∀(s:AI) (H:Hp) (C:AA) (cl:List (AG×AA)) (fp:List AA),PE (X.blk s H scope (compEnvC scope cl C X.env) fp) elt te) (hs:∀x,foldedSetIterable iter X.env x=pure x:=by intro _;rfl):
 PS X (.Assign [.Name y py] (.ListComp elt [⟨tg,iter,ifs,0⟩] scope pos) spos) (pR (Wm wi g tt te (own.map (·.2))) (Kg i)):=by
 intro pins s σ H D I h
 rw[exec_Assign_Name_used _ _ _ _ hsw]
 refine AJ (qK (AJ ?_))
 show AU _ X.A (do let _ <-comprehension (.ListComp elt [⟨tg,iter,ifs,0⟩] scope pos) scope X.env (firstIterPos [⟨tg,iter,ifs,0⟩] pos) (newList []) false (eval iter X.env) (some (assign (.Name y py) X.env))) _ _ s
 have h:Wm wi g tt te (own.map (·.2)) σ H (fun x H1=>Kg i x σ H1 D.nx):=h
 refine AJ (Bv (lP (Qf:=fun _ s'=>SP X pins D .next s') hc hN I hi ok hg ht he hs h fun L C s' m H' I' q hn f=>?_) fun _ s' hq=>Ai (Ai hq))
 show AU _ _ (assign (.Name y py) X.env (.ref L)) _ _ _
 refine wpAny_assign_Name (pJ (v:=V.ref L) I' hN hy (.inl hyl) rfl (fun s2 I2 ⟨a,sb,ha⟩=>?_) (.inr hyl))
 obtain⟨f0,f1,f2,f3,f4,f5⟩:=f
 have haC:C≠a:=by
  rcases ha with z | z
  . rw[z];exact f1
  . exact fun e=>f4 y a z e.symm
 refine⟨m,hn.sameBut sb haC,fun h3 Kw=>?_⟩
 exact⟨_,H',I2.turned (t':=s2.toks) (fun b o hb e=>(Kw.2 b hb).trans e) f0 f1 f3 f4 f5,q⟩
theorem R5 {elt:Az} {gs:List Comprehension} {scope:EJ} {pos py:Bt} {y:AG} {l:Nat} {env:Dh} (hk:env.scope.kind= .function) (hy:env.scope.names.lookup y=some .local) (hl:(py.line==pos.line)=true)
 (ha:(scope.names.any fun (n,k)=>n==y&&(k== .local||k== .cell))=false):swapsWith (.ListComp elt gs scope pos) (some (.Name y py)) l env=pure true:=by
 have ky:env.kindOf y=some .local:=hy
 have hb:env.blockKind= .function:=by unfold Env.blockKind;rw[hk];rfl
 unfold swapsWith
 simp only[hb,ky,ha,Expr.pos,hl]
 rfl
end
theorem Fx {K:AW} {a:AA} {xs:List V} {g:TG} {tt:TT} {te:TE} {vs:List Nat} {σ:St} {H1:Hp} {D:AA} {Qd:Hp->Prop} (Pv:Nat->Hp->Prop) (h0:Pv 0 (upd H1 D (.lst []))) (hl:∀i H,i<=xs.length->Pv i H->AQ K H a xs)
 (hs:∀i x H,xs[i]? =some x->Pv i H->g x (wipe σ vs) H fun σ2 H2=>wipe σ2 vs=wipe σ vs/\tt σ2 H2 fun b H3=>
  if b=true then te σ2 H3 fun y H4=>∃acc,H4 D=some (.lst acc)/\acc.length < AZ/\Pv (i+1) (upd H4 D (.lst (acc++[y]))) else Pv (i+1) H3) (hd:∀H,Pv xs.length H->Qd H):
 ∃W:Nat->Nat->Hp->Prop,(∃m,W 0 m (upd H1 D (.lst [])))/\∀i m H,W i m H->
  ((KC K a).stop i H/\Qd H)\/((KC K a).go i H/\∃Nx:Hp->Prop,(∀H',Nx H'->∃m',m' < m/\W (i+1) m' H')/\∀x H',(KC K a).HW i H x H'->g x (wipe σ vs) H' fun σ2 H2=>wipe σ2 vs=wipe σ vs/\tt σ2 H2 fun b H3=>
    if b=true then te σ2 H3 fun y H4=>∃acc,H4 D=some (.lst acc)/\acc.length < AZ/\Nx (upd H4 D (.lst (acc++[y]))) else Nx H3):=by
 refine⟨fun i m H=>m=xs.length - i/\i<=xs.length/\Pv i H,⟨xs.length,by simp,Ci _,h0⟩,?_⟩
 rintro i m H ⟨rfl,hi,p⟩
 have q:=hl i H hi p
 by_cases A1:i < xs.length
 . refine .inr ⟨⟨xs,xs[i],q,by simp[A1]⟩,Pv (i+1),fun H' p'=>⟨xs.length - (i+1),by lia,rfl,A1,p'⟩,fun x H' y=>?_⟩
   obtain⟨e,y⟩:=y
   subst e
   exact hs i x _ (y xs q) p
 . have e:i=xs.length:=by lia
   subst e
   exact .inl ⟨⟨xs,q,Aj _⟩,hd H p⟩
theorem zL {K:AW} {a:AA} {xs:List V} {g:TG} {tt:TT} {te:TE} {vs:List Nat} {σ:St} {H1:Hp} {D:AA} {Qd:Hp->Prop} (Pv:Nat->Hp->Prop) (h0:Pv 0 (upd H1 D (.lst []))) (hl:∀i H,i<=xs.length->Pv i H->Ap K H a xs)
 (hs:∀i x H,xs[i]? =some x->Pv i H->g x (wipe σ vs) H fun σ2 H2=>wipe σ2 vs=wipe σ vs/\tt σ2 H2 fun b H3=>
  if b=true then te σ2 H3 fun y H4=>∃acc,H4 D=some (.lst acc)/\acc.length < AZ/\Pv (i+1) (upd H4 D (.lst (acc++[y]))) else Pv (i+1) H3) (hd:∀H,Pv xs.length H->Qd H):
 ∃W:Nat->Nat->Hp->Prop,(∃m,W 0 m (upd H1 D (.lst [])))/\∀i m H,W i m H->
  ((KG K a).stop i H/\Qd H)\/((KG K a).go i H/\∃Nx:Hp->Prop,(∀H',Nx H'->∃m',m' < m/\W (i+1) m' H')/\∀x H',(KG K a).HW i H x H'->g x (wipe σ vs) H' fun σ2 H2=>wipe σ2 vs=wipe σ vs/\tt σ2 H2 fun b H3=>
    if b=true then te σ2 H3 fun y H4=>∃acc,H4 D=some (.lst acc)/\acc.length < AZ/\Nx (upd H4 D (.lst (acc++[y]))) else Nx H3):=by
 refine⟨fun i m H=>m=xs.length - i/\i<=xs.length/\Pv i H,⟨xs.length,by simp,Ci _,h0⟩,?_⟩
 rintro i m H ⟨rfl,hi,p⟩
 have q:=hl i H hi p
 by_cases A1:i < xs.length
 . refine .inr ⟨⟨xs,xs[i],q,by simp[A1]⟩,Pv (i+1),fun H' p'=>⟨xs.length - (i+1),by lia,rfl,A1,p'⟩,fun x H' y=>?_⟩
   obtain⟨e,y⟩:=y
   subst e
   exact hs i x _ (y xs q) p
 . have e:i=xs.length:=by lia
   subst e
   exact .inl ⟨⟨xs,q,Aj _⟩,hd H p⟩
def EL (N:List AG) (sc scope:EJ) (own:List (AG×Nat)):Bool:=
 (match scope.kind with | .function=>true | _=>false)&&(scope.names.all fun y=>decide (scope.names.lookup y.1=some y.2))&&(own.all fun p=>decide (N[p.2]? =some p.1))&&
  (scope.names.all fun y=>match y.2 with
   | .free=>(match sc.names.lookup y.1 with | some .cell=>true | some .free=>true | _=>false)
   | .local=>decide (y.1∈own.map (·.1))||decide (y.1∉N)
   | .cell=>decide (y.1∈own.map (·.1))||decide (y.1∉N)
   | _=>true)
theorem Ep {N:List AG} {sc scope:EJ} {own:List (AG×Nat)} (h:EL N sc scope own=true):OZ N sc scope own:=by
 unfold EL at h
 simp only[CB,MY,decide_eq_true_eq] at h
 obtain⟨⟨⟨h1,h2⟩,h3⟩,h4⟩:=h
 refine⟨?_,h2,h3,fun y hy e=>?_,fun y hy e=>?_⟩
 . split at h1
   . assumption
   . cases h1
 . have q:=h4 y hy
   simp only[e] at q
   split at q <;> first | exact .inl (by assumption) | exact .inr (by assumption) | cases q
 . have q:=h4 y hy
   rcases e with e | e <;> (simp only[e,Oc,decide_eq_true_eq] at q;exact q)
section
variable {κ:Type} [DecidableEq κ]
def Bq (kvs:List (κ×V)) (k:κ):Option V:=(kvs.find? fun kv=>decide (kv.1=k)).map (·.2)
def putK (kvs:List (κ×V)) (k:κ) (v:V):List (κ×V):=
 if (kvs.any fun kv=>decide (kv.1=k))=true then kvs.map (fun kv=>if kv.1=k then (kv.1,v) else kv) else kvs++[(k,v)]
theorem HR {p:κ×V} {r:List (κ×V)} {k:κ} (e:p.1=k):Bq (p::r) k=some p.2:=by simp[Bq,Oo,e]
theorem HQ {p:κ×V} {r:List (κ×V)} {k:κ} (e:¬p.1=k):Bq (p::r) k=Bq r k:=by simp[Bq,Oo,e]
theorem SF (k:κ):∀kvs:List (κ×V),(kvs.any fun kv=>decide (kv.1=k))=(Bq kvs k).isSome
 | []=>rfl
 | p::r=>by
  rw[KH]
  by_cases e:p.1=k
  . simp only[HR e,decide_eq_true e,Bool.true_or,Option.isSome_some]
  . rw[HQ e,decide_eq_false e,Bool.false_or];exact SF k r
theorem pq (k j:κ) (y:V):∀kvs:List (κ×V),Bq (kvs.map fun kv=>if kv.1=k then (kv.1,y) else kv) j=(Bq kvs j).map fun x=>if j=k then y else x
 | []=>rfl
 | p::r=>by
  have ih:=pq k j y r
  rw[CP]
  by_cases h:p.1=k
  . rw[if_pos h]
    by_cases e:p.1=j
    . rw[HR (p:=(p.1,y)) e,HR e,Xd,if_pos (e.symm.trans h)]
    . rw[HQ (p:=(p.1,y)) e,HQ e,ih]
  . rw[if_neg h]
    by_cases e:p.1=j
    . rw[HR (p:=p) e,HR e,Xd,if_neg (fun z=>h (e.trans z))]
    . rw[HQ (p:=p) e,HQ e,ih]
theorem px (k j:κ) (y:V):∀kvs:List (κ×V),Bq kvs k=none->Bq (kvs++[(k,y)]) j=if j=k then some y else Bq kvs j
 | [],_=>by
  by_cases e:k=j
  . rw[if_pos e.symm];exact HR (p:=(k,y)) e
  . rw[if_neg (fun z=>e z.symm)];exact HQ (p:=(k,y)) e
 | p::r,hn=>by
  rw[dz]
  have hk:¬p.1=k:=fun z=>by rw[HR z] at hn;cases hn
  rw[HQ hk] at hn
  have ih:=px k j y r hn
  by_cases e:p.1=j
  . rw[HR e,HR e,if_neg (fun z=>hk (e.trans z))]
  . rw[HQ e,HQ e,ih]
theorem cz (kvs:List (κ×V)) (k j:κ) (y:V):Bq (putK kvs k y) j=if j=k then some y else Bq kvs j:=by
 unfold putK
 by_cases a:(kvs.any fun kv=>decide (kv.1=k))=true
 . rw[if_pos a,pq]
   rw[SF] at a
   by_cases e:j=k
   . obtain⟨x,hx⟩:=Option.isSome_iff_exists.mp a
     rw[if_pos e,e,hx,Xd,if_pos rfl]
   . rw[if_neg e]
     cases Bq kvs j with
     | none=>rfl
     | some x=>rw[Xd,if_neg e]
 . rw[if_neg a]
   refine px k j y kvs ?_
   rw[SF] at a
   cases q:Bq kvs k with
   | none=>rfl
   | some x=>rw[q] at a;exact (a rfl).elim
theorem Zo (kvs:List (κ×V)) (k:κ) (v:V):(putK kvs k v).length<=kvs.length+1:=by
 unfold putK
 split
 . rw[AR];lia
 . rw[BZ,BO,D7];lia
theorem n9 {kvs:List (κ×V)} {k:κ} (v:V) (h:Bq kvs k=none):putK kvs k v=kvs++[(k,v)]:=by
 unfold putK
 rw[SF,h]
 exact if_neg (by decide)
theorem FX.Ng {o:Option V} {u:Option AF} (r:FX o u):o.isSome=u.isSome:=by
 cases o with
 | none=>cases u with
  | none=>rfl
  | some _=>exact (show False from r).elim
 | some _=>cases u with
  | none=>exact (show False from r).elim
  | some _=>rfl
theorem KV.val {kvs:List (κ×V)} {vs:List (κ×AF)} (r:KV kvs vs) (k:κ):FX (Bq kvs k) (valueAt vs k):=by
 unfold KV at r
 induction r with
 | nil=>exact True.intro
 | @cons p q ps qs h t ih=>
  obtain⟨h1,h2⟩:=h
  by_cases e:p.1=k
  . have e':q.1=k:=h1.symm.trans e
    have b:valueAt (q::qs) k=some q.2:=by simp[valueAt,Oo,e']
    rw[HR e,b];exact h2
  . have e':¬q.1=k:=fun z=>e (h1.trans z)
    have b:valueAt (q::qs) k=valueAt qs k:=by simp[valueAt,Oo,e']
    rw[HQ e,b];exact ih
theorem KV.any {kvs:List (κ×V)} {vs:List (κ×AF)} (r:KV kvs vs) (k:κ):(kvs.any fun kv=>decide (kv.1=k))=vs.any fun kv=>decide (kv.1=k):=by
 unfold KV at r
 induction r with
 | nil=>rfl
 | cons h t ih=>rw[KH,KH,ih,h.1]
theorem KV.repl {kvs:List (κ×V)} {vs:List (κ×AF)} (r:KV kvs vs) (k:κ) {y:V} {u:AF} (ry:RelV y u):
 KV (kvs.map fun kv=>if kv.1=k then (kv.1,y) else kv) (vs.map fun kv=>if kv.1=k then (kv.1,u) else kv):=by
 unfold KV at r ⊢
 induction r with
 | nil=>exact .nil
 | @cons p q ps qs h t ih=>
  rw[CP,CP]
  refine .cons ?_ ih
  obtain⟨h1,h2⟩:=h
  by_cases e:p.1=k
  . rw[if_pos e,if_pos (h1.symm.trans e)];exact⟨h1,ry⟩
  . rw[if_neg e,if_neg (fun z=>e (h1.trans z))];exact⟨h1,h2⟩
theorem KV.put {kvs:List (κ×V)} {vs:List (κ×AF)} (r:KV kvs vs) (k:κ) {y:V} {u:AF} (ry:RelV y u):KV (putK kvs k y) (stored vs k u):=by
 unfold putK stored
 rw[r.any k]
 by_cases e:(vs.any fun kv=>decide (kv.1=k))=true
 . rw[if_pos e,if_pos e];exact r.repl k ry
 . rw[if_neg e,if_neg e];exact Paired.snoc r ⟨rfl,ry⟩
theorem KV.length {kvs:List (κ×V)} {vs:List (κ×AF)} (r:KV kvs vs):kvs.length=vs.length:=Paired.length r
end
theorem Kn {P:Av} {w:Am} {k:Key} {u:AF} (r:RelV (kV k) u):(EZ P w).is k u=true:=by
 cases k with
 | inl i=>obtain⟨t,e⟩:=(show ∃t,u=Mq i t from r);subst e;exact AAB P w i t
 | inr x=>obtain⟨t,e⟩:=(show ∃t,u=S0 x t from r);subst e;exact AAC P w x t
theorem lG {P:Av} {w:Am}:∀{ks:List Key} {us:List AF},Vals (ks.map kV) us->ItemsAre (EZ P w) ks us
 | [],_,r=>by rw[KL] at r;cases r;exact .nil
 | k::ks,_,r=>by
  rw[CP] at r
  cases r with
  | cons h t=>exact .cons (Kn h) (lG t)
abbrev KT (H:Hp):List (List Key×V)->List (List Key×AA×AF)->Prop:=Ar fun p q=>p.1=q.1/\H q.2.1=some (.tup (p.1.map kV))/\RelV p.2 q.2.2
theorem KT.val {H:Hp} {kvs:List (List Key×V)} {xs:List (List Key×AA×AF)} (r:KT H kvs xs) (k:List Key):FX (Bq kvs k) ((atKey xs k).map (·.2)):=by
 induction r with
 | nil=>exact True.intro
 | @cons p q ps qs h t ih=>
  obtain⟨h1,_,h2⟩:=h
  by_cases e:p.1=k
  . have e':q.1=k:=h1.symm.trans e
    have b:atKey (q::qs) k=some q.2:=by simp[atKey,Oo,e']
    rw[HR e,b];exact h2
  . have e':¬q.1=k:=fun z=>e (h1.trans z)
    have b:atKey (q::qs) k=atKey qs k:=by simp[atKey,Oo,e']
    rw[HQ e,b];exact ih
theorem KT.repl {H:Hp} {kvs:List (List Key×V)} {xs:List (List Key×AA×AF)} (r:KT H kvs xs) (k:List Key) {y:V} {u:AF} (ry:RelV y u):
 KT H (kvs.map fun kv=>if kv.1=k then (kv.1,y) else kv) (xs.map (putAt k u)):=by
 induction r with
 | nil=>exact .nil
 | @cons p q ps qs h t ih=>
  rw[CP,CP]
  refine .cons ?_ ih
  obtain⟨h1,h2,h3⟩:=h
  unfold putAt
  by_cases e:p.1=k
  . rw[if_pos e,if_pos (h1.symm.trans e)];exact⟨h1,h2,ry⟩
  . rw[if_neg e,if_neg (fun z=>e (h1.trans z))];exact⟨h1,h2,h3⟩
theorem KT.put {H:Hp} {kvs:List (List Key×V)} {xs:List (List Key×AA×AF)} (r:KT H kvs xs) (k:List Key) {b:AA} {y:V} {u:AF} (hb:H b=some (.tup (k.map kV))) (ry:RelV y u):
 KT H (putK kvs k y) (storedH xs k b u):=by
 have e:(kvs.any fun kv=>decide (kv.1=k))=(atKey xs k).isSome:=by
  rw[SF,(r.val k).Ng,eU]
 unfold putK storedH
 rw[e]
 by_cases q:(atKey xs k).isSome=true
 . rw[if_pos q,if_pos q];exact r.repl k ry
 . rw[if_neg q,if_neg q];exact Paired.snoc r ⟨rfl,hb,ry⟩
theorem KT.keeps {H H':Hp} {kvs:List (List Key×V)} {xs:List (List Key×AA×AF)} (r:KT H kvs xs) (ht:∀b ys,H b=some (.tup ys)->H' b=some (.tup ys)):KT H' kvs xs:=
 Paired.Be r fun _ _ z=>⟨z.1,ht _ _ z.2.1,z.2.2⟩
section
variable {P:Av} {w:Am} {H:Hp} {h:Ae} {a:AA}
theorem oF {u:HO} (ok:C0 P w H h) (e:Rd H a u):DB P w H h a u:=e.ok ok
theorem QW {kvs:List (Key×V)} (ok:C0 P w H h) (e:Rd H a (.dK kvs)):kvs.length<=AZ/\(a==Gb)=false/\∃vs,KV kvs vs/\h.DictOf (EZ P w) a vs:=
 show DB P w H h a (.dK kvs) from oF ok e
theorem iZ {kvs:List (Key×V)} (ok:C0 P w H h) (e:H a=some (.dK kvs)):kvs.length<=AZ/\(a==Gb)=false/\∃vs,KV kvs vs/\h.DictOf (EZ P w) a vs:=QW ok (.inl e)
theorem RA {ks:List Key} (ok:C0 P w H h) (e:H a=some (.tup (ks.map kV))):(tupleKind (EZ P w)).is h ks a:=by
 obtain⟨_,AB,r,o,h1,h2,n,h3⟩:=(show DB P w H h a (.tup (ks.map kV)) from ok a _ e)
 exact⟨o,AB.toArray,n,h1,h2,h3,by simpa using lG r⟩
theorem QX {kvs:List (List Key×V)} (ok:C0 P w H h) (e:Rd H a (.dT kvs)):kvs.length<=AZ/\(a==Gb)=false/\
 ∃xs,KT H kvs xs/\h.DictOfH (tupleKind (EZ P w)) a xs:=by
 obtain⟨z,y,xs,r,o,es,ep,h1,h2,h3,h4,h5⟩:=(show DB P w H h a (.dT kvs) from oF ok e)
 refine⟨z,y,xs,r,o,es,ep,h1,h2,h3,h4,fun x hx=>?_,h5⟩
 have all:∀{l:List (List Key×V)} {m:List (List Key×AA×AF)},KT H l m->∀x∈m,(tupleKind (EZ P w)).is h x.1 x.2.1:=by
  intro l m q
  induction q with
  | nil=>intro x hx;exact nomatch hx
  | @cons p q ps qs hq t ih=>
   intro x hx
   rcases BK.mp hx with e | hx
   . subst e
     exact RA ok (by rw[<-hq.1];exact hq.2.1)
   . exact ih x hx
 exact all r x hx
theorem tj {kvs:List (List Key×V)} (ok:C0 P w H h) (e:H a=some (.dT kvs)):kvs.length<=AZ/\(a==Gb)=false/\
 ∃xs,KT H kvs xs/\h.DictOfH (tupleKind (EZ P w)) a xs:=QX ok (.inl e)
end
def Fm (H:Hp) (a:AA) (y:V) (r:Option V):Prop:=
 (∃kvs k,Rd H a (.dK kvs)/\y=kV k/\r=Bq kvs k)\/ ∃kvs k b,Rd H a (.dT kvs)/\y= .ref b/\H b=some (.tup (k.map kV))/\r=Bq kvs k
def IX (H:Hp) (a:AA) (y v:V) (H':Hp):Prop:=
 (∃kvs k,H a=some (.dK kvs)/\y=kV k/\kvs.length < AZ/\H'=upd H a (.dK (putK kvs k v)))\/
 ∃kvs k b,H a=some (.dT kvs)/\y= .ref b/\H b=some (.tup (k.map kV))/\kvs.length < AZ/\H'=upd H a (.dT (putK kvs k v))
theorem Fm.t {H:Hp} {a b:AA} {kvs:List (List Key×V)} {k:List Key} (e:H a=some (.dT kvs)) (eb:H b=some (.tup (k.map kV))):Fm H a (.ref b) (Bq kvs k):=.inr ⟨kvs,k,b,.inl e,rfl,eb,rfl⟩
theorem IX.k {H:Hp} {a:AA} {kvs:List (Key×V)} {k:Key} {v:V} (e:H a=some (.dK kvs)) (hl:kvs.length < AZ):IX H a (kV k) v (upd H a (.dK (putK kvs k v))):=.inl ⟨kvs,k,e,rfl,hl,rfl⟩
theorem IX.t {H:Hp} {a b:AA} {kvs:List (List Key×V)} {k:List Key} {v:V} (e:H a=some (.dT kvs)) (eb:H b=some (.tup (k.map kV))) (hl:kvs.length < AZ):
 IX H a (.ref b) v (upd H a (.dT (putK kvs k v))):=.inr ⟨kvs,k,b,e,rfl,eb,hl,rfl⟩
section
variable {X:Cx} {pins:List (AA×Aq)} {σ:St} {H:Hp} {s:AI} {a:AA} {y v:V} {u r:AF} {o:Option V} {A:Bf} {E:AF->AI->Prop}
theorem Inv.big (I:Inv X pins σ H s):Gb < s.heap.objs.size:=by
 have h:Hm < s.heap.objs.size:=(I.mod.glob.keeps I.bk).lt
 exact Xa (by decide) h
theorem tQ {Q:AF->AI->Prop} (hu:A.units+1 < cLine) (I:Inv X pins σ H s) (g:Fm H a y (some v)) (ry:RelV y u) (h:∀w' s',Inv X pins σ H s'->RelV v w'->Q w' s'):
 AU (AY X.prog X.w) A (getItem (.ref a) u) Q E s:=by
 rcases g with ⟨kvs,k,e,ey,l⟩ | ⟨kvs,k,b,e,ey,eb,l⟩
 . subst ey
   obtain⟨z,hd,vs,rel,dd⟩:=QW I.hok e
   obtain⟨w',hw,IJ⟩:=FX.some_of (v:=v) (o:=valueAt vs k) (by rw[l];exact rel.val k)
   exact wpAny_getItem_of (Kn ry) dd.mapOf hw (h w' _ (I.tok _) IJ)
 . subst ey
   cases (show u=Cv b from ry)
   obtain⟨z,hd,xs,rel,dd⟩:=QX I.hok e
   obtain⟨w',hw,IJ⟩:=FX.some_of (v:=v) (o:=(atKey xs k).map (·.2)) (by rw[l];exact rel.val k)
   obtain⟨p,hp,hp2⟩:=Option.map_eq_some_iff.mp hw
   refine wpAny_getItem_heap (cy hu) (RA I.hok eb) dd hp ?_
   rw[hp2]
   exact h w' _ (I.tok _) IJ
theorem tR {Q:AF->AI->Prop} (hu:A.units+1 < cLine) (I:Inv X pins σ H s) (g:Fm H a y o) (ry:RelV y u) (h:∀s',Inv X pins σ H s'->Q (.bool o.isSome) s'):
 AU (AY X.prog X.w) A (D0 .In u (.ref a)) Q E s:=by
 rcases g with ⟨kvs,k,e,ey,l⟩ | ⟨kvs,k,b,e,ey,eb,l⟩
 . subst ey
   obtain⟨z,hd,vs,rel,dd⟩:=QW I.hok e
   refine wpAny_in_of (Kn ry) hd dd.mapOf ?_
   rw[<-(rel.val k).Ng,<-l]
   exact h _ (I.tok _)
 . subst ey
   cases (show u=Cv b from ry)
   obtain⟨z,hd,xs,rel,dd⟩:=QX I.hok e
   refine wpAny_in_heap (cy hu) (RA I.hok eb) hd dd ?_
   have q:=(rel.val k).Ng
   rw[eU] at q
   rw[<-q,<-l]
   exact h _ (I.tok _)
theorem tS {Q:AF->AI->Prop} (hu:A.units+1 < cLine) (I:Inv X pins σ H s) (g:Fm H a y o) (ry:RelV y u) (h:∀s',Inv X pins σ H s'->Q (.bool (!o.isSome)) s'):
 AU (AY X.prog X.w) A (D0 .NotIn u (.ref a)) Q E s:=by
 rcases g with ⟨kvs,k,e,ey,l⟩ | ⟨kvs,k,b,e,ey,eb,l⟩
 . subst ey
   obtain⟨z,hd,vs,rel,dd⟩:=QW I.hok e
   refine wpAny_notIn_of (Kn ry) hd dd.mapOf ?_
   rw[<-(rel.val k).Ng,<-l]
   exact h _ (I.tok _)
 . subst ey
   cases (show u=Cv b from ry)
   obtain⟨z,hd,xs,rel,dd⟩:=QX I.hok e
   refine wpAny_notIn_heap (cy hu) (RA I.hok eb) hd dd ?_
   have q:=(rel.val k).Ng
   rw[eU] at q
   rw[<-q,<-l]
   exact h _ (I.tok _)
theorem YJ {h':Ae} {t':Nat} {ob:HO} (I:Inv X pins σ H s) (mu:KN (H a)) (hs:Fn a s.heap h') (he:∃q,h'.get? a=some q) (new:DB X.prog X.w (upd H a ob) h' a ob):
 Inv X pins σ (upd H a ob) { s with heap:=h',toks:=t' }:=
 I.write (x:=a) (e:=a) mu (.inl rfl) (fun b q hb z=>(hs.2 b hb).trans z) he new
theorem iY {P:Av} {w:Am} {H':Hp} {h':Ae} {kvs:List (Key×V)} {vs:List (Key×AF)} (z:kvs.length<=AZ) (hd:(a==Gb)=false) (rel:KV kvs vs) (dd:h'.DictOf (EZ P w) a vs):
 DB P w H' h' a (.dK kvs):=⟨z,hd,vs,rel,dd⟩
theorem tT {H':Hp} {Q:Unit->AI->Prop} (hu:A.units+1 < cLine) (I:Inv X pins σ H s) (g:IX H a y v H') (ry:RelV y u) (rv:RelV v r) (h:∀s',Inv X pins σ H' s'->Q () s'):
 AU (AY X.prog X.w) A (setItem (.ref a) u r) Q E s:=by
 rcases g with ⟨kvs,k,e,ey,l,eH⟩ | ⟨kvs,k,b,e,ey,eb,l,eH⟩
 . subst ey eH
   obtain⟨z,hd,vs,rel,dd⟩:=iZ I.hok e
   have hz:vs.length<=AZ:=by rw[<-rel.length];exact z
   have hl:(putK kvs k v).length<=AZ:=by have:=Zo kvs k v;lia
   refine wpAny_setItem_pairs (hsz:=hz) (Kn ry) dd fun h' Ld hs=>h _ ?_
   have he:∃q,h'.get? a=some q:=let ⟨q,_,_,hq,_⟩:=Ld;⟨q,hq⟩
   exact YJ I (by rw[e];exact True.intro) hs he (iY hl hd (rel.put k rv) Ld)
 . subst ey eH
   cases (show u=Cv b from ry)
   obtain⟨z,hd,xs,rel,dd⟩:=tj I.hok e
   have hz:xs.length<=AZ:=by rw[<-Paired.length rel];exact z
   have hl:(putK kvs k v).length<=AZ:=by have:=Zo kvs k v;lia
   refine wpAny_setItem_heap (hsz:=hz) (cy hu) (RA I.hok eb) dd fun h' Ld hs=>h _ ?_
   obtain⟨q,es,ep,hq,h2,h3,h4,_,h5⟩:=Ld
   refine YJ I (by rw[e];exact True.intro) hs ⟨q,hq⟩ ⟨hl,hd,_,(rel.put k eb rv).keeps fun c ys ec=>?_,q,es,ep,hq,h2,h3,h4,h5⟩
   rw[AV (B9 ec e (fun z=>nomatch z))]
   exact ec
end
def Xc (i:Az):Prop:=∀ov iv,subscripted i false ov iv=operate [ov,iv] (getItem ov iv)
theorem pP {prog:Av} {w:Am} {A:Bf} {E:AF->AI->Prop} {s:AI} {env:Dh} {value slice:Az} {pos:Bt} {T id:String} {Q:AF->AI->Prop}
 (hl:typeLookup (.type T) "__getitem__"=pure (some (.builtin id))) (hs:Xc slice)
 (h:AU (AY prog w) A (eval value env) (fun o s₁=>AU (AY prog w) A (eval slice env) (fun i s₂=>s₂.TypeIs o T/\AU (AY prog w) A (getItem o i) Q E s₂) E s₁) E s):
 AU (AY prog w) A (eval (.Subscript value slice pos) env) Q E s:=by
 refine Xo (FR h (fun o s₁ h₁=>FR h₁ (fun i s₂ h₂=>?_) fun _ _ x=>x) fun _ _ x=>x)
 obtain⟨hT,h₂⟩:=h₂
 unfold subscriptTail
 refine AJ ?_
 rw[getitemInPython_of_ne hT.not_modules]
 refine AJ (wpAny_specialOf hT hl ?_)
 have fin:AU (AY prog w) A (subscripted slice false o i) (fun r s₃=>AU (AY prog w) A (letTemporaryGo value o r >>= fun _=>pure r) Q E s₃) E s₂:=by
  rw[hs o i]
  exact wpAny_operating (FR h₂ (fun r s₃ h₃=>AJ (wpAny_letTemporaryGo (Ai h₃))) fun _ _ x=>x)
 first
  | exact Ai (AJ fin)
  | exact AJ (Ai (AJ fin))
  | exact AJ fin
theorem tX {X:Cx} {pins:List (AA×Aq)} {σ:St} {H:Hp} {s:AI} {a:AA} {y:V} {o:Option V} (I:Inv X pins σ H s) (g:Fm H a y o):s.TypeIs (.ref a) "dict":=by
 rcases g with ⟨kvs,k,e,_,_⟩ | ⟨kvs,k,b,e,_,_,_⟩
 . obtain⟨_,_,vs,_,dd⟩:=QW I.hok e
   exact dd.typeIs
 . obtain⟨_,_,xs,_,dd⟩:=QX I.hok e
   exact dd.typeIs
def R6 (td ty:TE):TE:=fun σ H Q=>td σ H fun x H1=>ty σ H1 fun y H2=>∃a v,x= .ref a/\Fm H2 a y (some v)/\Q v H2
def ADy (ty td:TE):TE:=fun σ H Q=>ty σ H fun y H1=>td σ H1 fun x H2=>∃a o,x= .ref a/\Fm H2 a y o/\Q (.bl o.isSome) H2
def AD1 (ty td:TE):TE:=fun σ H Q=>ty σ H fun y H1=>td σ H1 fun x H2=>∃a o,x= .ref a/\Fm H2 a y o/\Q (.bl (!o.isSome)) H2
def ACq (td ty tv:TE):TS:=fun D σ H=>tv σ H fun v H1=>td σ H1 fun x H2=>ty σ H2 fun y H3=>∃a H4,x= .ref a/\IX H3 a y v H4/\D.nx σ H4
section
variable {X:Cx} {o i e value:Az} {pos pos' tpos:Bt} {td ty tv:TE}
theorem Ah (hu:X.A.units+1 < cLine) (ho:PE X o td) (hi:PE X i ty) (hs:Xc i:=by exact fun _ _=>rfl):PE X (.Subscript o i pos) (R6 td ty):=by
 intro pins s σ H Q I h
 refine pP PySem.F.slot_dict_getitem.lookup hs (Bh (ho pins s σ H _ I h) fun u s1 x H1 I1 rx q1=>Bv (hi pins s1 σ H1 _ I1 q1) fun iv s2 ⟨y,H2,I2,ry,a,v,ex,g,q2⟩=>?_)
 subst ex
 obtain rfl:u=Cv a:=rx
 exact⟨tX I2 g,tQ hu I2 g ry fun w' s3 I3 IJ=>⟨v,H2,I3,IJ,q2⟩⟩
theorem nO (hu:X.A.units+1 < cLine) (hi:PE X i ty) (ho:PE X o td):PC X .In i o (ADy ty td):=by
 intro pins s σ H Q I h
 refine Bh (hi pins s σ H _ I h) fun iv s1 y H1 I1 ry q1=>Bv (ho pins s1 σ H1 _ I1 q1) fun u s2 ⟨x,H2,I2,rx,a,ov,ex,g,q2⟩=>?_
 subst ex
 obtain rfl:u=Cv a:=rx
 exact tR hu I2 g ry fun s3 I3=>⟨.bl ov.isSome,H2,I3,rfl,q2⟩
theorem Z8 (hu:X.A.units+1 < cLine) (hi:PE X i ty) (ho:PE X o td):PC X .NotIn i o (AD1 ty td):=by
 intro pins s σ H Q I h
 refine Bh (hi pins s σ H _ I h) fun iv s1 y H1 I1 ry q1=>Bv (ho pins s1 σ H1 _ I1 q1) fun u s2 ⟨x,H2,I2,rx,a,ov,ex,g,q2⟩=>?_
 subst ex
 obtain rfl:u=Cv a:=rx
 exact tS hu I2 g ry fun s3 I3=>⟨.bl (!ov.isSome),H2,I3,rfl,q2⟩
theorem RQ (hu:X.A.units+1 < cLine) (ho:PE X o td) (hi:PE X i ty) (hv:PE X value tv) (hs:swapsWith value (some (.Subscript o i pos')) pos.line X.env=pure false):
 PS X (.Assign [.Subscript o i pos'] value pos) (ACq td ty tv):=by
 intro pins s σ H D I h
 refine wpAny_Assign_Subscript (Bh (hv pins s σ H _ I h) fun r s1 v H1 I1 rv q1=>Bh (ho pins s1 σ H1 _ I1 q1) fun u s2 x H2 I2 rx q2=>Bv (hi pins s2 σ H2 _ I2 q2) fun iv s3 ⟨y,H3,I3,ry,a,H4,ex,g,q3⟩=>?_) hs
 subst ex
 obtain rfl:u=Cv a:=rx
 exact tT hu I3 g ry rv fun s4 I4=>⟨σ,H4,I4,q3⟩
end
theorem iX {P:Av} {w:Am} {H:Hp} (h:Ae) (hb:Gb < h.objs.size):DB P w H (h.push { cls:=.type "dict",data:=.dict #[] }) h.objs.size (.dK []):=
 ⟨Ci _,beq_eq_false_iff_ne.mpr (Ne.symm (C4 hb)),[],.nil,Heap.DictOf.new h⟩
theorem tZ {P:Av} {w:Am} {H:Hp} (h:Ae) (hb:Gb < h.objs.size):DB P w H (h.push { cls:=.type "dict",data:=.dict #[] }) h.objs.size (.dT []):=
 ⟨Ci _,beq_eq_false_iff_ne.mpr (Ne.symm (C4 hb)),[],.nil,_,#[],0,Ck _ rfl,⟨rfl,rfl,rfl⟩,rfl,rfl,XQ⟩
def ADz:TE:=fun _ H Q=>∀p,H p=none->Q (.ref p) (upd H p (.dK []))
def AD0:TE:=fun _ H Q=>∀p,H p=none->Q (.ref p) (upd H p (.dT []))
section
variable {X:Cx} {pos:Bt}
theorem ABt:PE X (.Dict [] [] pos) ADz:=fun pins s σ H Q I h=>
 wpAny_Dict_empty ⟨.ref s.heap.objs.size,_,I.laid (a:=s.heap.objs.size) (o:=.dK []) (t':=s.toks) (fun _ _ q=>Bz _ q) (Aj _) (iX s.heap I.big),rfl,h _ (I.hok.fresh (Aj _))⟩
theorem nQ:PE X (.Dict [] [] pos) AD0:=fun pins s σ H Q I h=>
 wpAny_Dict_empty ⟨.ref s.heap.objs.size,_,I.laid (a:=s.heap.objs.size) (o:=.dT []) (t':=s.toks) (fun _ _ q=>Bz _ q) (Aj _) (tZ s.heap I.big),rfl,h _ (I.hok.fresh (Aj _))⟩
end
def cw:List (TE×TE)->St->Hp->(List (V×V)->Hp->Prop)->Prop
 | [],_,H,Q=>Q [] H
 | (tk,tv)::r,σ,H,Q=>tk σ H fun x H1=>tv σ H1 fun y H2=>cw r σ H2 fun ps H3=>Q ((x,y)::ps) H3
abbrev VV:List (V×V)->List (AF×AF)->Prop:=Ar fun p q=>RelV p.1 q.1/\RelV p.2 q.2
def Ss (X:Cx) (pos:Bt) (keys:List (Option Az)) (values:List Az) (J4:List (TE×TE)):Prop:=
 ∀(pins:List (AA×Aq)) (s:AI) (σ:St) (H:Hp) (Q:List (V×V)->Hp->Prop),Inv X pins σ H s->cw J4 σ H Q->
  AU (AY X.prog X.w) X.A (evalPairs (pairTrees keys values X.env pos)) (fun vs s'=>∃ps H',Inv X pins σ H' s'/\VV ps vs/\Q ps H') X.xe s
theorem ACO {X:Cx} {pos:Bt}:Ss X pos [] [] []:=fun pins s σ H Q I h=>pairTrees_nil_walk ⟨[],H,I,.nil,h⟩
theorem aI {X:Cx} {pos:Bt} {k v:Az} {ks:List (Option Az)} {vs:List Az} {tk tv:TE} {J4:List (TE×TE)} (hk:PE X k tk) (hv:PE X v tv) (hr:Ss X pos ks vs J4):
 Ss X pos (some k::ks) (v::vs) ((tk,tv)::J4):=fun pins s σ H Q I h=>
 pairTrees_cons_walk (Bh (hk pins s σ H _ I h) fun u s1 x H1 I1 rx q1=>Bh (hv pins s1 σ H1 _ I1 q1) fun w2 s2 y H2 I2 ry q2=>
  Bh (hr pins s2 σ H2 _ I2 q2) fun ws s3 ps H3 I3 rel q3=>⟨(x,y)::ps,H3,I3,.cons ⟨rx,ry⟩ rel,q3⟩)
def Nk (kvs more:List (Key×V)):List (Key×V):=more.foldl (fun acc kv=>putK acc kv.1 kv.2) kvs
theorem KV.merge:∀{more:List (Key×V)} {rs:List (Key×AF)} {kvs:List (Key×V)} {vs:List (Key×AF)},KV more rs->KV kvs vs->KV (Nk kvs more) (merged vs rs):=by
 intro more rs kvs vs r
 unfold KV at r
 induction r generalizing kvs vs with
 | nil=>intro q;exact q
 | @cons p q ps qs h t ih=>
  intro r0
  have e:KV (putK kvs p.1 p.2) (stored vs q.1 q.2):=by
   have:=r0.put p.1 h.2
   rw[<-h.1];exact this
  exact ih e
theorem lS:∀(more kvs:List (Key×V)),(Nk kvs more).length<=kvs.length+more.length
 | [],kvs=>by show kvs.length<=kvs.length+0;lia
 | p::r,kvs=>by
  have h1:=lS r (putK kvs p.1 p.2)
  have h2:=Zo kvs p.1 p.2
  show (Nk (putK kvs p.1 p.2) r).length<=_
  rw[BO];lia
theorem gx {P:Av} {w:Am}:∀{kvs:List (Key×V)} {ws:List (AF×AF)},VV (kvs.map fun kv=>(kV kv.1,kv.2)) ws->∃rs,Carries (EZ P w) ws rs/\KV kvs rs
 | [],_,r=>by rw[KL] at r;cases r;exact⟨[],True.intro,.nil⟩
 | p::kvs,_,r=>by
  rw[CP] at r
  cases r with
  | @cons a b as bs h t=>
   obtain⟨rs,c,q⟩:=gx (P:=P) (w:=w) t
   obtain⟨b1,b2⟩:=b
   exact⟨(p.1,b2)::rs,⟨Kn h.1,rfl,c⟩,.cons ⟨rfl,h.2⟩ q⟩
def AD2 (J4:List (TE×TE)):TE:=fun σ H Q=>∀p,H p=none->cw J4 σ (upd H p (.dK [])) fun ps H2=>H2 p=some (.dK [])/\∃kvs:List (Key×V),ps=kvs.map (fun kv=>(kV kv.1,kv.2))/\kvs.length<=15/\Q (.ref p) (upd H2 p (.dK (Nk [] kvs)))
theorem ABs {X:Cx} {pos:Bt} {keys:List (Option Az)} {values:List Az} {J4:List (TE×TE)} (h:Ss X pos keys values J4) (Cm:keys.all (·.isSome)=true) (hl:keys.length=values.length) (h0:keys≠[])
 (h15:keys.length<=15):PE X (.Dict keys values pos) (AD2 J4):=by
 intro pins s σ H Q I q
 have hn:=I.hok.fresh (Aj s.heap.objs.size)
 have I1:=I.laid (a:=s.heap.objs.size) (o:=.dK []) (h':=s.heap.push { cls:=.type "dict",data:=.dict #[] }) (t':=s.toks) (fun _ _ q=>Bz _ q) (Aj _) (iX s.heap I.big)
 refine wpAny_Dict_walk (knd:=EZ X.prog X.w) Cm hl h0 h15 (Bv (h pins _ σ _ _ I1 (q _ hn)) fun ws s2 ⟨ps,H2,I2,rel,e,kvs,ep,lk,q2⟩=>?_)
 subst ep
 obtain⟨rs,c,rk⟩:=gx (P:=X.prog) (w:=X.w) rel
 obtain⟨z,hd,vs0,r0,dd⟩:=iZ I2.hok e
 cases r0
 refine⟨rs,c,dd,fun h' Ld hs=>⟨.ref s.heap.objs.size,_,?_,rfl,q2⟩⟩
 have hz:(Nk [] kvs).length<=AZ:=by
  have h1:=lS kvs []
  rw[D7] at h1
  rw[Dn];lia
 have he:∃q,h'.get? s.heap.objs.size=some q:=let ⟨q,_,_,hq,_⟩:=Ld;⟨q,hq⟩
 exact YJ I2 (by rw[e];exact True.intro) hs he (iY hz hd (rk.merge .nil) Ld)
section
variable {X:Cx} {pins:List (AA×Aq)} {σ:St} {H:Hp} {s:AI} {h':Ae}
theorem Inv.AEd {t':Nat} {ch:List AA} (I:Inv X pins σ H s) (k:∀b o,b∉ch->s.heap.get? b=some o->h'.get? b=some o) (hf:∀b∈ch,DL X pins H b):Inv X pins σ H { s with heap:=h',toks:=t' }:=by
 have Kq:∀b u,H b=some u->b∉ch:=fun b u e z=>by
  have q:=(hf b z).1
  rw[q] at e;cases e
 refine I.step (g':=s.gens) (d':=s.drawn) (ch:=ch) (fun b hb=>⟨(hf b hb).2.2.2.1,(hf b hb).2.1,(hf b hb).2.2.2.2.1,(hf b hb).2.2.2.2.2⟩) (fun b o _ _ hc e _=>k b o hc e) (fun b o _ _ hc e _=>⟨o.slots,k b o hc e⟩)
  (fun _ _ _ _ n=>n) (fun b o hc e=>⟨o,k b o hc e⟩) (fun _ _ e=>e) (fun _ _ _ e=>e) (fun b ps e=>⟨#[],by rw[e];simp⟩) (fun m hm=>?_) (fun b u e=>?_) I.bare
 . obtain⟨o,es,ep,ho,r⟩:=hm
   exact⟨o,es,ep,k _ o (fun z=>(hf _ z).2.1 rfl) ho,r⟩
 . refine (I.hok b u e).stay (fun c v hc q=>k c v ?_ q) (fun _ q=>q) fun _ _ q=>q
   rcases hc with z | z
   . rw[z];exact Kq b u e
   . exact Kq c _ z
theorem Inv.pZ {t':Nat} {ch:List AA} {T:AA} {ob:HO} (I:Inv X pins σ H s) (k:∀b o,b∉ch->s.heap.get? b=some o->h'.get? b=some o) (hf:∀b∈ch,DL X pins H b) (hT:s.heap.objs.size<=T)
 (new:DB X.prog X.w (upd H T ob) h' T ob):Inv X pins σ (upd H T ob) { s with heap:=h',toks:=t' }:=by
 have hn:H T=none:=I.hok.fresh hT
 have Kq:∀b u,H b=some u->b∉ch:=fun b u e z=>by
  have q:=(hf b z).1
  rw[q] at e;cases e
 refine I.step (g':=s.gens) (d':=s.drawn) (ch:=ch) (fun b hb=>⟨(hf b hb).2.2.2.1,(hf b hb).2.1,(hf b hb).2.2.2.2.1,(hf b hb).2.2.2.2.2⟩) (fun b o _ _ hc e _=>k b o hc e) (fun b o _ _ hc e _=>⟨o.slots,k b o hc e⟩)
  (fun b o _ e n=>?_) (fun b o hc e=>⟨o,k b o hc e⟩) (fun b xs e=>?_) (fun b o u e=>?_) (fun b ps e=>⟨#[],?_⟩) (fun m hm=>?_) (fun b u e=>?_) I.bare
 . rw[AV (C4 (E3 (Bs e) hT))];exact n
 . rw[AV (BF e hn)];exact e
 . rw[AV (BF e hn)];exact e
 . rw[AV (BF e hn),e];simp
 . obtain⟨o,es,ep,ho,r⟩:=hm
   exact⟨o,es,ep,k _ o (fun z=>(hf _ z).2.1 rfl) ho,r⟩
 . by_cases hb:b=T
   . subst hb
     rw[AO] at e
     cases e
     exact new
   . rw[AV hb] at e
     refine (I.hok b u e).stay (fun c v hc q=>k c v ?_ q) (fun c q=>by rw[AV (BF q hn)];exact q) fun c xs q=>by rw[AV (BF q hn)];exact q
     rcases hc with z | z
     . rw[z];exact Kq b u e
     . exact Kq c _ z
theorem Inv.lock {d:AA} {u:HO} (I:Inv X pins σ H s) (h:H d=some u) (mu:KN (some u)):∃od,Inv X pins σ (upd H d (.CG od u)) s:=by
 have x:=I.hok d u h
 have ex:∃od,s.heap.get? d=some od:=by
  cases u with
  | lst xs=>obtain⟨_,_,_,_,e⟩:=x;exact⟨_,e⟩
  | dK kvs=>obtain⟨_,_,_,_,o,_,_,e,_⟩:=x;exact⟨o,e⟩
  | dT kvs=>obtain⟨_,_,_,_,o,_,_,e,_⟩:=x;exact⟨o,e⟩
  | set S n=>obtain⟨o,_,_,_,e,_⟩:=x;exact⟨o,e⟩
  | ins C dx fs=>obtain⟨_,_,_,e,_⟩:=x;exact⟨_,e⟩
  | ext φ=>obtain⟨_,⟨_,e⟩,_⟩:=x;exact⟨_,e⟩
  | _=>exact False.elim mu
 obtain⟨od,e⟩:=ex
 have new:DB X.prog X.w (upd H d (.CG od u)) s.heap d (.CG od u):=by
  refine⟨e,x.stay (fun b v _ q=>q) (fun b q=>?_) fun b xs q=>?_⟩
  . rw[AV (fun z=>by rw[z,h] at q;cases q;exact mu)];exact q
  . rw[AV (fun z=>by rw[z,h] at q;cases q;exact mu)];exact q
 exact⟨od,I.write (x:=d) (e:=d) (t':=s.toks) (h':=s.heap) (by rw[h];exact mu) (.inl rfl) (fun b v _ q=>q) ⟨od,e⟩ new⟩
theorem Inv.Uh {d:AA} {u:HO} (I:Inv X pins σ H s) (h:H d=some u) (mu:KN (some u)):∀o' u',X.LG d≠some (.CG o' u'):=fun o' u' e=>by
 have q:=I.base.Hh d o' u' e
 rw[h] at q
 cases q
 exact mu
theorem Inv.unlock {d:AA} {od:Aq} {u:HO} (I:Inv X pins σ H s) (h:H d=some (.CG od u)) (hn:∀o' u',X.LG d≠some (.CG o' u')):Inv X pins σ (upd H d u) s:=by
 have Np:∀b o,H b=some o->(∀o' u',o≠ .CG o' u')->b≠d:=fun b o e BX z=>by
  rw[z,h] at e
  cases e
  exact BX _ _ rfl
 have neN:∀b,H b=none->b≠d:=fun b e z=>by rw[z,h] at e;cases e
 refine⟨I.ok,I.os,I.bare,⟨I.base.keep,I.base.slot,fun b o e n hx=>?_,I.base.there,fun b xs e=>?_,fun b o x e=>?_,fun b ps e=>?_⟩,I.loc,I.cell,?_,fun x c e=>?_,fun p hp=>?_,fun b o e=>?_,I.len⟩
 . rw[AV (neN b (I.base.free b o e n hx))];exact I.base.free b o e n hx
 . have q:=I.base.tups b xs e
   rw[AV (Np b _ q (fun _ _ z=>nomatch z))];exact q
 . have q:=I.base.Hh b o x e
   rw[AV (fun z=>by rw[z] at e;exact hn _ _ e)];exact q
 . obtain⟨m,q⟩:=I.base.JQ b ps e
   exact⟨m,by rw[AV (Np b _ q (fun _ _ z=>nomatch z))];exact q⟩
 . rw[AV (neN _ I.free)];exact I.free
 . rw[AV (neN c (I.Fw x c e))];exact I.Fw x c e
 . obtain⟨e,n,r⟩:=I.pin p hp
   exact⟨e,by rw[AV (neN _ n)];exact n,r⟩
 . by_cases hb:b=d
   . rw[hb,AO] at e
     cases e
     rw[hb]
     obtain⟨_,x⟩:=I.hok d _ h
     exact x.stay (fun c v _ q=>q) (fun c q=>by rw[AV (Np c _ q (fun _ _ z=>nomatch z))];exact q) fun c xs q=>by rw[AV (Np c _ q (fun _ _ z=>nomatch z))];exact q
   . rw[AV hb] at e
     exact (I.hok b o e).stay (fun c v _ q=>q) (fun c q=>by rw[AV (Np c _ q (fun _ _ z=>nomatch z))];exact q) fun c xs q=>by rw[AV (Np c _ q (fun _ _ z=>nomatch z))];exact q
end
def AD9 (t:TS):TS:=fun D σ H=>∃d u,H d=some u/\KN (some u)/\∀od,t ⟨fun σ' H'=>H' d=some (.CG od u)/\D.nx σ' (upd H' d u),fun v H'=>H' d=some (.CG od u)/\D.rt v (upd H' d u),fun σ' H'=>H' d=some (.CG od u)/\D.bk σ' (upd H' d u),fun σ' H'=>H' d=some (.CG od u)/\D.ct σ' (upd H' d u)⟩ σ (upd H d (.CG od u))
section
variable {X:Cx}
theorem ACP {st:Au} {t:TS} (h:PS X st t):PS X st (AD9 t):=by
 intro pins s σ H D I hw
 obtain⟨d,u,hd,mu,hw⟩:=hw
 obtain⟨od,I1⟩:=I.lock hd mu
 refine Bv (h pins s σ _ _ I1 (hw od)) fun f s1 q=>?_
 cases f with
 | next=>obtain⟨σ',H',I2,e,q⟩:=q;exact⟨σ',_,I2.unlock e (I.Uh hd mu),q⟩
 | brk=>obtain⟨σ',H',I2,e,q⟩:=q;exact⟨σ',_,I2.unlock e (I.Uh hd mu),q⟩
 | cont=>obtain⟨σ',H',I2,e,q⟩:=q;exact⟨σ',_,I2.unlock e (I.Uh hd mu),q⟩
 | ret v=>obtain⟨x,σ',H',I2,r,e,q⟩:=q;exact⟨x,σ',_,I2.unlock e (I.Uh hd mu),r,q⟩
theorem aG {tg:Az} {pins:List (AA×Aq)} {σ:St} {H:Hp} {s:AI} {R:It->Hp->Prop} {J:It} {tn:Nat->Ae->Prop} {tk:Nat} (I:Inv X pins σ H s) (o:Aq)
 (T:Turn X.prog X.w X.K tg J [s.heap.objs.size] s.heap.objs.size tn) (st:tn 0 (s.heap.push o)) (q:R J H):PIE X pins σ tg R (.ref s.heap.objs.size) { s with heap:=s.heap.push o,toks:=tk }:=by
 refine⟨s.heap.objs.size,[s.heap.objs.size],tn,J,H,rfl,I.kept fun b ob e=>Bz _ e,T,st,fun b hb=>?_,q⟩
 have e:b=s.heap.objs.size:=by simpa using hb
 subst e
 exact I.Iu (Aj _) (I.hok.fresh (Aj _))
end
def J9 (lo c:Int) (n:Nat):It:=⟨fun i _=>i < n,fun i H x H'=>H'=H/\x= .int (lo+(i:Nat)*c),fun i _=>n<=i⟩
theorem AEa {P:Av} {w:Am} {K:AW} {tg:Az} (it:AA) (lo c:Int) (n:Nat):Turn P w K tg (J9 lo c n) [it] it (fun i h=>IsRangeIter h it (lo+(i:Nat)*c) ((n:Int) - (i:Nat)) c) where
 mem:=by simp
 obj:=fun i h st b hb=>by
  have e:b=it:=by simpa using hb
  subst e
  exact⟨_,st,fun v z=>nomatch z⟩
 keep:=fun i h h' st k=>k it (by simp) _ st
 item:=by
  intro X hP hw hK hc i pins s σ H E I hf st hg
  subst hP hw hK
  obtain⟨f0,f1,f2,f3,f4,f5⟩:=hf it (by simp)
  have W:=Walks.range (prog:=X.prog) (w:=X.w) (I.ok.hd hc) it lo c n
  refine W.item i s _ _ hg st fun v h' tk hv st' kk=>?_
  obtain⟨t,rfl⟩:=hv
  have I1:Inv X pins σ H { s with heap:=h',toks:=tk }:=I.turned (fun b o hb e=>kk b o (by simpa using hb) e) f0 f1 f3 f4 f5
  exact⟨_,rfl,NF (s:={ s with heap:=h',toks:=tk }) (n:="range_iterator") st' rfl rfl (by decide) ⟨.int (lo+(i:Nat)*c),H,I1,⟨t,rfl⟩,⟨rfl,rfl⟩,st',fun b hb=>(hf b hb).1⟩⟩
 done:=by
  intro X hP hw hK hc i pins s σ H E I hf st hg
  subst hP hw hK
  obtain⟨f0,f1,f2,f3,f4,f5⟩:=hf it (by simp)
  exact wpAny_pyNext_range_end (I.ok.hd hc) st (by have:n<=i:=hg;lia) fun h' eb=>⟨rfl,I.turned (t':=s.toks) (fun b o hb e=>eb b o hb e) f0 f1 f3 f4 f5⟩
 self:=fun A i s Q E st h=>wpAny_pyIter_rangeiter st h
def Mj (i j c:Int) (n:Nat):Prop:=c≠0/\c.natAbs < 1073741824/\Builtin.Range.small i j c=true/\Builtin.Range.rangeSize i j c=n
theorem Mj.neg {i j:Int} (ha: -(2 ^ 62)<=i) (ha':i < 2 ^ 62) (hb: -(2 ^ 62)<=j) (hb':j < 2 ^ 62):Mj i j (-1) (i - j).toNat:=
 ⟨by decide,by decide,PySem.W.small_down ha ha' hb hb',PySem.W.rangeSize_downNat i j⟩
def yZ (ta:TA):TI:=fun σ H R=>ta σ H fun vs H1=>∃(i j c:Int) (n:Nat),vs=[.int i,.int j,.int c]/\Mj i j c n/\R (J9 i c n) H1
section
variable {X:Cx} {tg:Az}
theorem nW {a b c:Az} {ta:TA} {p pos:Bt} (hg:Gl X "range") (hm:X.mg "range"=none) (ha:PA X [a,b,c] ta)
 (hs:Bo [a,b,c] X.env=(false,eval a X.env)::Bo [b,c] X.env:=by rfl) (Cr:(backTo pos (Bo [b,c] X.env)).any (·.1)=false:=by rfl):
 PI X tg (.Call (.Name "range" p) [a,b,c] [] pos) (yZ ta):=by
 intro pins s σ H R I h
 refine Call_ (JF I hg hm gh (Sw (Bh (ha pos pins s σ H _ I h) fun us s1 vs H1 I1 r1 q1=>?_) hs Cr))
 obtain⟨i,j,k,n,e,⟨c0,c1,c2,c3⟩,q⟩:=q1
 subst e
 cases r1 with
 | cons r rr=>
  cases rr with
  | cons r' rr=>
   cases rr with
   | cons r'' rr=>
    cases rr
    obtain⟨t,rfl⟩:=r
    obtain⟨t',rfl⟩:=r'
    obtain⟨t'',rfl⟩:=r''
    refine call_range_3 c0 ?_ (.inl (PyProof.noPylong_small c1))
    refine wpAny_pyIter_range (IsRange.new ..) c2 ?_
    have I2:Inv X pins σ H1 { s1 with heap:=s1.heap.push { cls:=.type "range",data:=.fields #[.int i t,.int j t',.int k t''] } }:=I1.kept (t':=s1.toks) fun b o e=>Bz _ e
    refine aG (tk:=s1.toks) I2 _ (AEa _ i k n) ?_ q
    have e1:i+((0:Nat):Int)*k=i:=by simp
    have e2:(n:Int) - ((0:Nat):Int)=Builtin.Range.rangeSize i j k:=by rw[c3];simp
    show IsRangeIter _ _ (i+((0:Nat):Int)*k) ((n:Int) - ((0:Nat):Int)) k
    rw[e1,e2]
    exact Ck _ rfl
end
theorem vH {lo c:Int} {n:Nat} {g:TG} {tb:TS} {D:Ends} {σ:St} {H:Hp} (Pv:Nat->St->Hp->Prop) (h0:Pv 0 σ H)
 (hs:∀i σ H,i < n->Pv i σ H->g (.int (lo+(i:Nat)*c)) σ H fun σ2 H2=>tb { D with nx:=Pv (i+1),ct:=Pv (i+1),bk:=D.nx } σ2 H2) (hd:∀σ H,Pv n σ H->D.nx σ H):
 ∃W:Nat->Nat->St->Hp->Prop,(∃m,W 0 m σ H)/\∀i m σ H,W i m σ H->
  ((J9 lo c n).stop i H/\D.nx σ H)\/((J9 lo c n).go i H/\∃N:St->Hp->Prop,(∀σ' H',N σ' H'->∃m',m' < m/\W (i+1) m' σ' H')/\∀x H',(J9 lo c n).HW i H x H'->g x σ H' fun σ2 H2=>tb { D with nx:=N,ct:=N,bk:=D.nx } σ2 H2):=by
 refine⟨fun i m σ H=>m=n - i/\i<=n/\Pv i σ H,⟨n,by simp,Ci _,h0⟩,?_⟩
 rintro i m σ H ⟨rfl,hi,p⟩
 by_cases A1:i < n
 . refine .inr ⟨A1,Pv (i+1),fun σ' H' p'=>⟨n - (i+1),by lia,rfl,A1,p'⟩,fun x H' y=>?_⟩
   obtain⟨e,y⟩:=y
   subst e y
   exact hs i σ _ A1 p
 . have e:i=n:=by lia
   subst e
   exact .inl ⟨Aj _,hd σ H p⟩
section
variable {prog:Av} {w:Am} {A:Bf} {E:AF->AI->Prop} {s:AI}
theorem lH {d:AA} {o:Aq} {es:Array Gf} {ep:Nat} {Q:AF->AI->Prop} (hd:(d==Gb)=false) (ho:s.heap.get? d=some o) (hc:o.ExactDict) (hdat:o.data= .dict es ep)
 (hQ:Q (.ref s.heap.objs.size) { s with heap:=s.heap.push { cls:=.type "dict_keyiterator",data:=.fields #[.ref d,.int 0 0,.int es.size 0,.int ep 0] } }):
 AU (AY prog w) A (pyIter (.ref d)) Q E s:=by
 have hT:s.TypeIs (.ref d) "dict":=⟨o,ho,hc.1⟩
 refine dA hT F.slot_dict_iter (HS F.slot_dict_iter hT F.entry_dict_iter ?_ (F.args_dict_iter_1 _))
 unfold Ed.«dict.__iter__»
 refine AJ ?_
 unfold Builtin.Dict.dictSlotNone
 refine AJ (wpAny_notOrdered_dict hT ?_)
 show AU _ _ (pure (Cv d)) _ _ s
 refine Ai ?_
 show AU _ _ (Builtin.Dict.showsAll d >>= _) _ _ s
 unfold Builtin.Dict.showsAll
 rw[if_neg (by rw[hd];exact Bw)]
 refine AJ (Ai ?_)
 refine AJ (qD ho hdat ?_)
 refine AJ (qE ho hdat ?_)
 refine AJ (Hq (Ai ⟨_,rfl,"dict_keyiterator",_,⟨_,Ck _ rfl,rfl⟩,Od.lookup,?_⟩))
 simpa [rawInt] using hQ
theorem AAN {it d:AA} {i n ep:Nat} {od:Aq} {es:Array Gf} {en:Gf} {Q:Option AF->AI->Prop} (CJ:s.heap.IsKeyIter it d i n ep) (hod:s.heap.get? d=some od) (hdd:od.data= .dict es ep)
 (hsz:es.size=n) (hx:es[i]? =some en) (hQ:∀h',h'.IsKeyIter it d (i+1) n ep->Fn it s.heap h'->Q (some en.key) { s with heap:=h' }):AU (AY prog w) A (pyNext (.ref it)) Q E s:=by
 obtain⟨o,ho,hc,hd⟩:=id CJ
 unfold pyNext
 refine AJ (K6 (MQ (name:=Eh "__next__") CJ.typeIs Od
  (HS Od CJ.typeIs F.entry_dict_keyiterator_next ?_ (F.args_dict_keyiterator_next_1 _))))
 refine AJ (Ai ?_)
 refine AJ ?_
 refine AJ ?_
 first | refine AJ (dB CJ.typeIs (Ai ?_)) | refine AJ (dC CJ.typeIs (Ai ?_))
 refine AJ (SJ ho hd ?_)
 have hown:Builtin.Dict_items.ownsTuple "dict_keyiterator"=false:=by decide
 simp only[hown,Cg,if_false]
 show AU _ _ (if (Cv d==Gn)=true then _ else _) _ _ s
 rw[if_neg (show ¬((Cv d==Gn)=true) from Bw)]
 refine AJ (Ai ?_)
 refine AJ (qD hod hdd ?_)
 rw[if_neg (by rw[hsz];simp)]
 refine AJ (Ai ?_)
 refine AJ (qE hod hdd ?_)
 rw[if_neg (by simp)]
 refine Ai ?_
 obtain⟨hlt',EV⟩:=dM.mp hx
 simp only[show ¬((i:Int) < 0) from by lia,if_false,IY,IU hlt']
 refine AJ ?_
 first | refine AJ (dB CJ.typeIs (Ai ?_)) | refine AJ (dC CJ.typeIs (Ai ?_))
 refine AJ (wpAny_isOneOf_keyiter CJ.typeIs ?_)
 show AU _ _ (setField (.ref it) 1 (rawInt ((i:Int)+1)) >>= _) _ _ s
 refine AJ (MR ho hd (by simp) ?_)
 have hit':(s.heap.update it (Sl (·.setIfInBounds 1 (rawInt ((i:Int)+1))))).IsKeyIter it d (i+1) n ep:=
  ⟨_,MV _ ho (Obj.isFreed_of_fields (eS hd _)),(Obj.cls_mapFields ..).trans hc,by rw[eS hd];simp[rawInt]⟩
 refine AJ (HV ?_)
 refine AJ (wpAny_isOneOf_keyiter (s:={ s with heap:=s.heap.update it (Sl (·.setIfInBounds 1 (rawInt ((i:Int)+1)))) }) hit'.typeIs ?_)
 show AU _ _ (pure es[i].key) _ _ _
 rw[EV]
 exact Ai (Ai ⟨_,rfl,Ai (hQ _ hit' (G6 ..))⟩)
theorem mP {it d:AA} {i n ep:Nat} {od:Aq} {es:Array Gf} {Q:Option AF->AI->Prop} (hh:A.handled=none) (CJ:s.heap.IsKeyIter it d i n ep) (hod:s.heap.get? d=some od) (hdd:od.data= .dict es ep)
 (hsz:es.size=n) (hge:n<=i) (hQ:∀h',W8 it s.heap h'->Q none { s with heap:=h' }):AU (AY prog w) A (pyNext (.ref it)) Q E s:=by
 obtain⟨o,ho,hc,hd⟩:=id CJ
 unfold pyNext
 refine AJ (K6 (MQ (name:=Eh "__next__") CJ.typeIs Od
  (HS Od CJ.typeIs F.entry_dict_keyiterator_next ?_ (F.args_dict_keyiterator_next_1 _))))
 refine AJ (Ai ?_)
 refine AJ ?_
 refine AJ ?_
 first | refine AJ (dB CJ.typeIs (Ai ?_)) | refine AJ (dC CJ.typeIs (Ai ?_))
 refine AJ (SJ ho hd ?_)
 have hown:Builtin.Dict_items.ownsTuple "dict_keyiterator"=false:=by decide
 simp only[hown,Cg,if_false]
 show AU _ _ (if (Cv d==Gn)=true then _ else _) _ _ s
 rw[if_neg (show ¬((Cv d==Gn)=true) from Bw)]
 refine AJ (Ai ?_)
 refine AJ (qD hod hdd ?_)
 rw[if_neg (by rw[hsz];simp)]
 refine AJ (Ai ?_)
 refine AJ (qE hod hdd ?_)
 rw[if_neg (by simp)]
 refine Ai ?_
 have hge':es.size<=i:=by rw[hsz];exact hge
 simp only[show ¬((i:Int) < 0) from by lia,if_false,IY,dJ hge']
 refine AJ ?_
 first | refine AJ (dB CJ.typeIs (Ai ?_)) | refine AJ (dC CJ.typeIs (Ai ?_))
 show AU _ _ (setField (.ref it) 0 .none >>= _) _ _ s
 refine AJ (MR ho hd (by simp) ?_)
 show AU _ _ (newExc (.type "StopIteration") [] >>= _) _ _ _
 refine AJ ?_
 simp only[newExc,newTuple]
 refine AJ (Hq ?_ (by size_fits))
 refine AJ (m:=firstArgMember _ _) (SM (a:=Gn) (by first | rfl | (simp only[firstArgMember];rfl)) ?_)
 refine Hq ?_ (by size_fits)
 simp only[raiseNew]
 refine AJ (qF ?_)
 rw[show A.in1.handled=none from hh]
 refine AJ (Ai (qL ?_))
 refine AJ (Wu (T:="StopIteration") (b:=true) ⟨_,Ck _ rfl,rfl⟩ Zj ?_)
 exact Ai (hQ _ (((G6 ..).extBut.push _).push _))
end
theorem Lz {κ:Type} {kvs:List (κ×V)} {vs:List (κ×AF)} (h:KV kvs vs):∀{i:Nat} {k:κ} {v:V},kvs[i]? =some (k,v)->∃u,vs[i]? =some (k,u)/\RelV v u:=by
 unfold KV at h
 induction h with
 | nil=>intro i k v e;simp at e
 | @cons a b l₁ l₂ r t ih=>
  intro i k v e
  cases i with
  | zero=>
   simp only[eA,Option.some.injEq] at e
   subst e
   refine⟨b.2,?_,r.2⟩
   simp only[eA]
   exact congrArg some (Prod.ext r.1.symm rfl)
  | succ j=>
   simp only[List.getElem?_cons_succ] at e ⊢
   exact ih e
theorem ABn {α β:Type} {G:α->β->Prop} {l₁:List α} {l₂:List β} (h:Ar G l₁ l₂):∀{i:Nat} {a:α},l₁[i]? =some a->∃b,l₂[i]? =some b/\G a b:=by
 induction h with
 | nil=>intro i a e;simp at e
 | @cons a b l₁ l₂ r t ih=>
  intro i a' e
  cases i with
  | zero=>
   simp only[eA,Option.some.injEq] at e
   subst e
   exact⟨b,rfl,r⟩
  | succ j=>
   simp only[List.getElem?_cons_succ] at e ⊢
   exact ih e
theorem ACf {k:Key} {u:AF} (h:Jp k u=true):RelV (kV k) u:=by
 rcases JC h with ⟨i,t,rfl,rfl⟩ | ⟨x,t,rfl,rfl⟩
 . exact⟨t,rfl⟩
 . exact⟨t,rfl⟩
section
variable {X:Cx} {pins:List (AA×Aq)} {σ:St} {H:Hp} {s:AI} {d:AA} {o:Aq}
theorem Inv.Yg {kvs:List (Key×V)} (I:Inv X pins σ H s) (h:H d=some (.CG o (.dK kvs))):
 (d==Gb)=false/\s.heap.get? d=some o/\o.ExactDict/\∃(es:Array Gf) (ep:Nat) (vs:List (Key×AF)),o.data= .dict es ep/\es.size=kvs.length/\KV kvs vs/\s.heap.DictAt (EZ X.prog X.w) d vs ep:=by
 obtain⟨hd,z,hs,vs,kv,o',es,ep,ho,hx,hdt,r⟩:=I.hok d _ h
 rw[hd] at ho
 cases ho
 refine⟨hs,hd,hx,es,ep,vs,hdt,?_,kv,o,es,hd,hx,hdt,r⟩
 have l1:=r.2.1.length
 have l2:kvs.length=vs.length:=Paired.length kv
 rw[E1] at l1
 lia
theorem Inv.Yh {kvs:List (List Key×V)} (I:Inv X pins σ H s) (h:H d=some (.CG o (.dT kvs))):
 (d==Gb)=false/\s.heap.get? d=some o/\o.ExactDict/\∃(es:Array Gf) (ep:Nat),o.data= .dict es ep/\es.size=kvs.length/\
  ∀(i:Nat) (k:List Key) (v:V),kvs[i]? =some (k,v)->∃(en:Gf) (q:AA),es[i]? =some en/\en.key= .ref q/\H q=some (.tup (k.map kV)):=by
 obtain⟨hd,z,hs,xs,pr,o',es,ep,ho,hx,hdt,he,_⟩:=I.hok d _ h
 rw[hd] at ho
 cases ho
 refine⟨hs,hd,hx,es,ep,hdt,?_,fun i k v e=>?_⟩
 . have l1:es.size=xs.length:=size_of_entries he
   have l2:kvs.length=xs.length:=Paired.length pr
   lia
 . obtain⟨b,hb,e1,e2,_⟩:=ABn pr e
   have q:=entry_at he i
   rw[hb] at q
   exact⟨_,b.2.1,q,rfl,e2⟩
end
def Oi (d:AA) (o:Aq) (kvs:List (Key×V)):It:=
 ⟨fun i H=>H d=some (.CG o (.dK kvs))/\i < kvs.length,fun i H x H'=>H'=H/\∃k v,kvs[i]? =some (k,v)/\x=kV k,fun i H=>H d=some (.CG o (.dK kvs))/\kvs.length<=i⟩
def di (d:AA) (o:Aq) (kvs:List (List Key×V)):It:=
 ⟨fun i H=>H d=some (.CG o (.dT kvs))/\i < kvs.length,fun i H x H'=>H'=H/\∃(k:List Key) (v:V) (q:AA),kvs[i]? =some (k,v)/\x= .ref q/\H q=some (.tup (k.map kV)),fun i H=>H d=some (.CG o (.dT kvs))/\kvs.length<=i⟩
theorem TY {o:Aq} {es es':Array Gf} {ep ep':Nat} (h:o.data= .dict es ep) (h':o.data= .dict es' ep'):es'=es/\ep'=ep:=by
 rw[h] at h'
 cases h'
 exact⟨rfl,rfl⟩
section
variable {P:Av} {w:Am} {K:AW} {tg:Az} {d:AA} {o:Aq} {es:Array Gf} {ep:Nat}
theorem AEW {kvs:List (Key×V)} (it:AA) (hod:o.data= .dict es ep):Turn P w K tg (Oi d o kvs) [it] it (fun i h=>h.IsKeyIter it d i kvs.length ep) where
 mem:=by simp
 obj:=fun i h st b hb=>by
  have e:b=it:=by simpa using hb
  subst e
  obtain⟨oi,e,c,dd⟩:=st
  exact⟨oi,e,fun v z=>by rw[dd] at z;cases z⟩
 keep:=fun i h h' st k=>st.at fun oi e=>k it (by simp) oi e
 item:=by
  intro X hP hw hK hc i pins s σ H E I hf st hg
  subst hP hw hK
  obtain⟨hd,hi⟩:=hg
  obtain⟨f0,f1,f2,f3,f4,f5⟩:=hf it (by simp)
  obtain⟨hs,hgd,hx,es',ep',vs,hdt,hsz,kv,hm⟩:=I.Yg hd
  obtain⟨rfl,rfl⟩:=TY hod hdt
  obtain⟨⟨k,v⟩,hkv⟩:∃p,kvs[i]? =some p:=⟨kvs[i],DU hi⟩
  obtain⟨u,hu,ru⟩:=Lz kv hkv
  have hl:kvs.length=vs.length:=Paired.length kv
  rw[hl] at st
  refine wpAny_pyNext_dict_item st hm hu fun key h' hkey st' sb=>?_
  have I1:Inv X pins σ H { s with heap:=h' }:=I.turned (t':=s.toks) (fun b ob hb e=>(sb.2 b hb).trans e) f0 f1 f3 f4 f5
  obtain⟨oi,e,c,dd⟩:=id st'
  refine⟨key,rfl,NF (s:={ s with heap:=h' }) e c dd (by decide) ⟨kV k,H,I1,ACf (show Jp k key=true from hkey),⟨rfl,k,v,hkv,rfl⟩,?_,fun b hb=>(hf b hb).1⟩⟩
  show h'.IsKeyIter it d (i+1) kvs.length _
  rw[hl]
  exact st'
 done:=by
  intro X hP hw hK hc i pins s σ H E I hf st hg
  subst hP hw hK
  obtain⟨hd,hi⟩:=hg
  obtain⟨f0,f1,f2,f3,f4,f5⟩:=hf it (by simp)
  obtain⟨hs,hgd,hx,es',ep',vs,hdt,hsz,kv,hm⟩:=I.Yg hd
  obtain⟨rfl,rfl⟩:=TY hod hdt
  exact mP (I.ok.hd hc) st hgd hdt hsz hi fun h' eb=>⟨rfl,I.turned (t':=s.toks) (fun b ob hb e=>eb b ob hb e) f0 f1 f3 f4 f5⟩
 self:=fun A i s Q E st h=>wpAny_pyIter_keyiter st h
theorem AEX {kvs:List (List Key×V)} (it:AA) (hod:o.data= .dict es ep):Turn P w K tg (di d o kvs) [it] it (fun i h=>h.IsKeyIter it d i kvs.length ep) where
 mem:=by simp
 obj:=fun i h st b hb=>by
  have e:b=it:=by simpa using hb
  subst e
  obtain⟨oi,e,c,dd⟩:=st
  exact⟨oi,e,fun v z=>by rw[dd] at z;cases z⟩
 keep:=fun i h h' st k=>st.at fun oi e=>k it (by simp) oi e
 item:=by
  intro X hP hw hK hc i pins s σ H E I hf st hg
  subst hP hw hK
  obtain⟨hd,hi⟩:=hg
  obtain⟨f0,f1,f2,f3,f4,f5⟩:=hf it (by simp)
  obtain⟨hs,hgd,hx,es',ep',hdt,hsz,ent⟩:=I.Yh hd
  obtain⟨rfl,rfl⟩:=TY hod hdt
  obtain⟨⟨k,v⟩,hkv⟩:∃p,kvs[i]? =some p:=⟨kvs[i],DU hi⟩
  obtain⟨en,q,EV,hkey,hq⟩:=ent i k v hkv
  refine AAN st hgd hdt hsz EV fun h' st' sb=>?_
  have I1:Inv X pins σ H { s with heap:=h' }:=I.turned (t':=s.toks) (fun b ob hb e=>(sb.2 b hb).trans e) f0 f1 f3 f4 f5
  obtain⟨oi,e,c,dd⟩:=id st'
  exact⟨en.key,rfl,NF (s:={ s with heap:=h' }) e c dd (by decide) ⟨.ref q,H,I1,hkey,⟨rfl,k,v,q,hkv,rfl,hq⟩,st',fun b hb=>(hf b hb).1⟩⟩
 done:=by
  intro X hP hw hK hc i pins s σ H E I hf st hg
  subst hP hw hK
  obtain⟨hd,hi⟩:=hg
  obtain⟨f0,f1,f2,f3,f4,f5⟩:=hf it (by simp)
  obtain⟨hs,hgd,hx,es',ep',hdt,hsz,ent⟩:=I.Yh hd
  obtain⟨rfl,rfl⟩:=TY hod hdt
  exact mP (I.ok.hd hc) st hgd hdt hsz hi fun h' eb=>⟨rfl,I.turned (t':=s.toks) (fun b ob hb e=>eb b ob hb e) f0 f1 f3 f4 f5⟩
 self:=fun A i s Q E st h=>by
  refine dA st.typeIs F.slot_dict_keyiterator_iter (HS F.slot_dict_keyiterator_iter st.typeIs F.entry_dict_keyiterator_iter ?_ (F.args_dict_keyiterator_iter_1 _))
  show AU _ _ (ret (.ref it)) _ _ s
  exact Ai ⟨_,rfl,"dict_keyiterator",_,st.typeIs,Od.lookup,h⟩
end
def yU (td:TE):TI:=fun σ H R=>td σ H fun x H1=>∃d o,x= .ref d/\((∃kvs,H1 d=some (.CG o (.dK kvs))/\R (Oi d o kvs) H1)\/ ∃kvs,H1 d=some (.CG o (.dT kvs))/\R (di d o kvs) H1)
section
variable {X:Cx} {tg e:Az} {td:TE} {Ej cpos:Bt}
theorem ABz (he:PE X e td):PI X tg e (yU td):=by
 intro pins s σ H R I h
 refine Bv (he pins s σ H _ I h) fun u s1 ⟨x,H1,I1,rx,d,o,ex,q⟩=>?_
 subst ex
 obtain rfl:u=Cv d:=rx
 rcases q with ⟨kvs,hd,q⟩ | ⟨kvs,hd,q⟩
 . obtain⟨hs,hgd,hx,es,ep,vs,hdt,hsz,kv,hm⟩:=I1.Yg hd
   refine lH hs hgd hx hdt (aG (tk:=s1.toks) I1 _ (AEW _ hdt) ⟨_,Ck _ rfl,rfl,?_⟩ q)
   rw[hsz] <;> rfl
 . obtain⟨hs,hgd,hx,es,ep,hdt,hsz,ent⟩:=I1.Yh hd
   refine lH hs hgd hx hdt (aG (tk:=s1.toks) I1 _ (AEX _ hdt) ⟨_,Ck _ rfl,rfl,?_⟩ q)
   rw[hsz] <;> rfl
end
theorem rT:bootBuiltins "zip"=some (.type "zip"):=by decide+kernel
def Oj (K:AW) (a b:AA):It:=
 ⟨fun i H=>∃(xs ys:List V) (x y:V),AQ K H a xs/\AQ K H b ys/\xs[i]? =some x/\ys[i]? =some y,
  fun i H v H'=>∃T x y,v= .ref T/\H T=none/\H'=upd H T (.tup [x,y])/\(∀xs,AQ K H a xs->xs[i]? =some x)/\∀ys,AQ K H b ys->ys[i]? =some y,
  fun i H=>∃xs ys:List V,AQ K H a xs/\AQ K H b ys/\(xs.length<=i\/ys.length<=i)⟩
theorem AEc {P:Av} {w:Am} {K:AW} {elts:List Az} {kk:Nat} {tpos:Bt} {a b z TI TO i1 i2:AA} (D:ZipApart z TI TO i1 i2 a b):
 Turn P w K (.Tuple elts kk tpos) (Oj K a b) [z,TI,TO,i1,i2] z (fun i h=>IsZip h z TI TO .none/\IsPair h TI (.ref i1) (.ref i2)/\(∃x y,IsPair h TO x y)/\h.IsListIter i1 a i/\h.IsListIter i2 b i) where
 mem:=by simp
 obj:=fun i h st c hc=>by
  obtain⟨hz,hTI,⟨x,y,hTO⟩,⟨o1,e1,_,d1⟩,⟨o2,e2,_,d2⟩⟩:=st
  have e':c=z\/c=TI\/c=TO\/c=i1\/c=i2:=by simpa using hc
  rcases e' with q | q | q | q | q
  . rw[q];exact⟨_,hz,fun v q=>nomatch q⟩
  . rw[q];exact⟨_,hTI,fun v q=>nomatch q⟩
  . rw[q];exact⟨_,hTO,fun v q=>nomatch q⟩
  . rw[q];exact⟨o1,e1,fun v q=>by rw[d1] at q;cases q⟩
  . rw[q];exact⟨o2,e2,fun v q=>by rw[d2] at q;cases q⟩
 keep:=fun i h h' st k=>by
  obtain⟨hz,hTI,⟨x,y,hTO⟩,h1,h2⟩:=st
  exact⟨k z (by simp) _ hz,k TI (by simp) _ hTI,⟨x,y,k TO (by simp) _ hTO⟩,h1.at fun o q=>k i1 (by simp) o q,h2.at fun o q=>k i2 (by simp) o q⟩
 item:=by
  intro X hP hw hK hc i pins s σ H E I hf st hg
  subst hP hw hK
  obtain⟨hz,hTI,⟨x0,y0,hTO⟩,h1,h2⟩:=st
  obtain⟨xs,ys,x,y,NW,NX,hx,hy⟩:=hg
  obtain⟨AB,rv,p,_⟩:=I.list NW
  obtain⟨DT,Ny,p2,_⟩:=I.list NX
  obtain⟨u,hu,ru⟩:=rv.get hx
  obtain⟨u2,hu2,ru2⟩:=Ny.get hy
  have Q8:z < s.heap.objs.size:=Bs hz
  refine wpAny_pyNext_zip_item D hz hTI hTO h1 h2 p.isList p2.isList (x:=u) (y:=u2) (by simpa using hu) (by simpa using hu2) fun h' z' qe h1' h2' hT hsz hk=>?_
  refine⟨_,rfl,wpAny_letOwnedTupleGo_zip (s:={ s with heap:=h' }) z' fun h'' z'' sb=>?_⟩
  have hT2:h''.get? s.heap.objs.size=some { cls:=.type "tuple",data:=.seq #[u,u2] }:=(sb.2 _ (Mi Q8)).trans hT
  have new:DB X.prog X.w (upd H s.heap.objs.size (.tup [x,y])) h'' s.heap.objs.size (.tup [x,y]):=
   ⟨by show 2<=AZ;decide,[u,u2],.cons ru (.cons ru2 .nil),⟨_,hT2,rfl,_,rfl⟩⟩
  have I1:Inv X pins σ (upd H s.heap.objs.size (.tup [x,y])) { s with heap:=h'' }:=
   I.pZ (t':=s.toks) (ch:=[z,TI,TO,i1,i2]) (fun c o hb q=>(sb.2 c (fun q'=>hb (by simp[q']))).trans (hk c o (fun q'=>hb (by simp[q'])) (fun q'=>hb (by simp[q'])) (fun q'=>hb (by simp[q'])) (fun q'=>hb (by simp[q'])) q)) hf (Aj _) new
  refine⟨.ref s.heap.objs.size,_,I1,rfl,⟨_,x,y,rfl,I.hok.fresh (Aj _),rfl,fun l hl=>by rw[I.Ub hl NW];exact hx,fun l hl=>by rw[I.Ub hl NX];exact hy⟩,⟨z'',?_,⟨u,u2,?_⟩,?_,?_⟩,fun c hcm=>?_⟩
  . exact (sb.2 _ D.TIz).trans (hk _ _ D.TIz D.TITO D.TIi1 D.TIi2 hTI)
  . exact (sb.2 _ D.TOz).trans qe
  . exact h1'.at fun o q=>(sb.2 _ D.i1z).trans q
  . exact h2'.at fun o q=>(sb.2 _ D.i2z).trans q
  . have A1:c < s.heap.objs.size:=by
     have e':c=z\/c=TI\/c=TO\/c=i1\/c=i2:=by simpa using hcm
     rcases e' with q | q | q | q | q
     . rw[q];exact Q8
     . rw[q];exact Bs hTI
     . rw[q];exact Bs hTO
     . rw[q];obtain⟨_,e1,_⟩:=h1;exact Bs e1
     . rw[q];obtain⟨_,e2,_⟩:=h2;exact Bs e2
    rw[AV (C4 A1)]
    exact (hf c hcm).1
 done:=by
  intro X hP hw hK hc i pins s σ H E I hf st hg
  subst hP hw hK
  obtain⟨hz,hTI,⟨x0,y0,hTO⟩,h1,h2⟩:=st
  obtain⟨xs,ys,NW,NX,hend⟩:=hg
  obtain⟨AB,rv,p,_⟩:=I.list NW
  obtain⟨DT,Ny,p2,_⟩:=I.list NX
  have l1:=rv.length
  have l2:=Ny.length
  have he:AB.toArray[i]? =none\/DT.toArray[i]? =none:=by
   rcases hend with q | q
   . exact .inl (by simp;lia)
   . exact .inr (by simp;lia)
  exact wpAny_pyNext_zip_end (I.ok.hd hc) D hz hTI hTO h1 h2 p.isList p2.isList he fun h' hk=>⟨rfl,I.AEd (t':=s.toks) (ch:=[z,TI,TO,i1,i2]) (fun c o hb q=>
   hk c o (fun q'=>hb (by simp[q'])) (fun q'=>hb (by simp[q'])) (fun q'=>hb (by simp[q'])) (fun q'=>hb (by simp[q'])) q) hf⟩
 self:=fun A i s Q E st h=>wpAny_pyIter_zip st.1 h
def yb (K:AW) (ta:TA):TI:=fun σ H R=>ta σ H fun vs H1=>∃a b xs ys,vs=[.ref a,.ref b]/\AQ K H1 a xs/\AQ K H1 b ys/\R (Oj K a b) H1
theorem nX {X:Cx} {e e2:Az} {ta:TA} {p pos tpos:Bt} {elts:List Az} {kk:Nat} (hg:Gl X "zip") (hm:X.mg "zip"=none) (ha:PA X [e,e2] ta)
 (hs:Bo [e,e2] X.env=(false,eval e X.env)::Bo [e2] X.env:=by rfl) (Cr:(backTo pos (Bo [e2] X.env)).any (·.1)=false:=by rfl):
 PI X (.Tuple elts kk tpos) (.Call (.Name "zip" p) [e,e2] [] pos) (yb X.K ta):=by
 intro pins s σ H R I h
 refine Call_ (JF I hg hm rT (Sw (Bh (ha pos pins s σ H _ I h) fun us s1 vs H1 I1 r1 q1=>?_) hs Cr))
 obtain⟨a,b,xs,ys,ex,NW,NX,q⟩:=q1
 subst ex
 cases r1 with
 | cons r rr=>
  cases rr with
  | cons r' rr=>
   cases rr
   cases r
   cases r'
   obtain⟨AB,rv,p1,_⟩:=I1.list NW
   obtain⟨DT,Ny,p2,_⟩:=I1.list NX
   have la:a < s1.heap.objs.size:=p1.lt
   have lb:b < s1.heap.objs.size:=p2.lt
   refine call_zip_2 p1.isList p2.isList fun h' hz hTI hTO h1 h2 hsz hk=>wpAny_pyIter_zip hz ?_
   have I2:Inv X pins σ H1 { s1 with heap:=h' }:=I1.kept (t':=s1.toks) hk
   refine⟨s1.heap.objs.size+4,[s1.heap.objs.size+4,s1.heap.objs.size+2,s1.heap.objs.size+3,s1.heap.objs.size,s1.heap.objs.size+1],_,_,H1,rfl,I2,AEc (PySem.W.ktu_apart s1.heap.objs.size a b la lb),⟨hz,hTI,⟨_,_,hTO⟩,h1,h2⟩,fun c hcm=>?_,q⟩
   have e':c=s1.heap.objs.size+4\/c=s1.heap.objs.size+2\/c=s1.heap.objs.size+3\/c=s1.heap.objs.size\/c=s1.heap.objs.size+1:=by simpa using hcm
   have hle:s1.heap.objs.size<=c:=by
    rcases e' with z | z | z | z | z
    . rw[z];exact KP _ _
    . rw[z];exact KP _ _
    . rw[z];exact KP _ _
    . rw[z];exact Aj _
    . rw[z];exact KP _ _
   exact I1.Iu hle (I1.hok.fresh hle)
def inClass (s:Au) (j:Nat):Au:=match s with
 | .ClassDef _ _ _ body _ _ _ _ _ _ _=>body.getD j (.Pass ⟨0,0,0,0⟩)
 | _=>.Pass ⟨0,0,0,0⟩
def Jf (s:Au):Arguments:=match s with
 | .FunctionDef _ a _ _ _ _ _ _ _ _=>a
 | _=>{ posonlyargs:=[],args:=[],vararg:=none,kwonlyargs:=[],kw_defaults:=[],kwarg:=none,defaults:=[] }
def Io (s:Au):List Au:=match s with
 | .FunctionDef _ _ b _ _ _ _ _ _ _=>b
 | _=>[]
def As (s:Au):EJ:=match s with
 | .FunctionDef _ _ _ _ _ _ sc _ _ _=>sc
 | _=>{ kind:=.function,names:=[],isGenerator:=false,isCoroutine:=false }
abbrev Ag:FT:=fun _ _ _ _ _ _=>False
abbrev E0:XK:=fun _ _ _=>False
theorem CV {X:Cx}:Ja Ag X E0:=fun _ _ _ _ _ _ _ h=>h.elim
structure A0 (K:AW) (x Bp:AG) (st:Au) (f:AA) (fd:A2):Prop where
 ex:∃(oc:AF) (od:Option AA) (kV doc pm:AF) (an:Option AA) (Al ct:AF) (osl:Array (Option AF)),
  fd=Ig x Bp (Jf st) (Io st) (As st) .none kV doc pm an Al ct/\K.lookup f=some ⟨oc,od,.func fd,osl⟩/\O3 K Al Bp=true
 kp:D9 K (.ref f)=true
section
variable {P:Av} {w:Am} {K:AW} {mg:AG->Option AF} {base:Ae}
theorem A0.ok {x Bp:AG} {st:Au} {f:AA} {fd:A2} {N ps:List AG} {k:Nat} {sp:Sp} (F:A0 K x Bp st f fd) (S:BD N ps (As st)) (len:∀vs H Q E,sp vs H Q E->vs.length=ps.length)
 (hbody:∀(Al:AF) (A:Bf) (outer:List Dh) (s:AI) (H:Hp) (vs:List V) (Q:VK) (E:XK),BW k (A.deeper (envOfC Bp (As st) s.heap.objs.size f Al))->sp vs H Q E->
  ∃t,HB (M0 Ag P w K mg base N Bp (As st) f Al A outer s H E).Ui (Io st) t/\t { nx:=fun _ H'=>Q .non H',rt:=Q } (start N vs) H):Aa P w K mg base Ag (k+1) f fd ps sp:=by
 obtain⟨oc,od,kV,doc,pm,an,Al,ct,osl,rfl,lk,hcd⟩:=F.ex
 refine vE lk hcd S len fun A outer s H vs Q E hr hsp=>?_
 obtain⟨t,h,q⟩:=hbody Al A outer s H vs Q E hr hsp
 exact⟨t,h.Ui,q⟩
def K7:List AG->(List AF->Prop)->Prop
 | [],F=>F []
 | _::r,F=>∀a,K7 r fun l=>F (a::l)
theorem K7.go:∀{ps:List AG} {F:List AF->Prop},K7 ps F->∀us:List AF,us.length=ps.length->F us
 | [],_,h,[],_=>h
 | _::_,_,h,a::us,e=>K7.go (h a) us (Nat.succ.inj e)
theorem A0.binds {x Bp:AG} {st:Au} {f:AA} {fd:A2} {ps:List AG} (F:A0 K x Bp st f fd)
 (h:∀(kV doc pm:AF) (an:Option AA) (Al ct:AF),K7 ps fun us=>bindArgs (Ig x Bp (Jf st) (Io st) (As st) .none kV doc pm an Al ct) ⟨us,[]⟩=pure (ps.zip us):=by (repeat intro _);exact rfl):Binds K fd ps []:=by
 obtain⟨oc,od,kV,doc,pm,an,Al,ct,osl,rfl,lk,hcd⟩:=F.ex
 exact .all (h kV doc pm an Al ct).go
theorem Yi {x Bp:AG} {st:Au} {f:AA} {oc:AF} {od an:Option AA} {osl:Array (Option AF)} {kV doc pm Al ct:AF} (l:K.lookup f=some ⟨oc,od,.func (Ig x Bp (Jf st) (Io st) (As st) .none kV doc pm an Al ct),osl⟩)
 (c:O3 K Al Bp=true) (k:D9 K (.ref f)=true):A0 K x Bp st f (Ig x Bp (Jf st) (Io st) (As st) .none kV doc pm an Al ct):=⟨⟨oc,od,kV,doc,pm,an,Al,ct,osl,rfl,l,c⟩,k⟩
end
theorem DC {A:Bf} {k:Nat} (hr:BW k A):A.units+1 < cLine:=Fp (Nat.add_le_add_left (by decide:1<=64) _) hr.units
section
variable {X:Cx}
theorem pv (i:Nat) {x:AG} {pos:Bt} (hN:X.N[i]? =some x:=by rfl) (hv:O6 X.env.scope x:=by first | exact Ad rfl | exact KQ (Ad rfl) | exact KQ (KQ rfl)) (hd:(x==("__debug__":AG))=false:=by decide)
 (hcd:(x==("__classdict__":AG))=false:=by decide):PE X (.Name x pos) (JP i):=ABx hN hv hd hcd
end
theorem BJ {A B:Prop} (h:B):if false=true then A else B:=by
 rw[if_neg Bw]
 exact h
theorem A9 {A B:Prop} (h:A):if true=true then A else B:=by
 rw[if_pos rfl]
 exact h
def Same (H H':Hp):Prop:=∀b o,H b=some o->H' b=some o
theorem Same.refl (H:Hp):Same H H:=fun _ _ h=>h
theorem Same.trans {H H1 H2:Hp} (a:Same H H1) (b:Same H1 H2):Same H H2:=fun c o h=>b c o (a c o h)
theorem Same.free {H H':Hp} (e:Same H H') {l:AA} (h:H' l=Xe):H l=Xe:=by
 cases q:H l with
 | none=>rfl
 | some o=>
  rw[e l o q] at h
  cases h
theorem Same.seq {K:AW} {H H':Hp} {a:AA} {xs:List V} (e:Same H H') (h:AQ K H a xs):AQ K H' a xs:=by
 rcases h with (h | ⟨o,h⟩) | h
 . exact .inl (.inl (e _ _ h))
 . exact .inl (.inr ⟨o,e _ _ h⟩)
 . exact .inr h
section
variable {κ:Type} [DecidableEq κ]
theorem Z2:∀{l:List κ} {k:κ},l.Nodup->¬k∈l->(l++[k]).Nodup
 | [],k,_,_=>by simp
 | a::r,k,h,hk=>by
  obtain⟨h1,h2⟩:=Ib.mp h
  show (a::(r++[k])).Nodup
  refine Ib.mpr ⟨fun m=>?_,Z2 h2 fun m=>hk (BK.mpr (KQ m))⟩
  rcases D8.mp m with q | q
  . exact h1 q
  . exact hk (BK.mpr (Ad (DZ.mp q).symm))
end
theorem at_of {xs:List V} {z:Int} {j:Nat} {v:V} (e:z=(j:Int)) (h:xs[j]? =some v):Il xs z=some v:=by
 rw[e]
 exact qy h
theorem AAF {α:Type} {l:List α} (hN:l.Nodup) {i j:Nat} {x:α} (a:l[i]? =some x) (b:l[j]? =some x):i=j:=by
 obtain⟨h1,e1⟩:=Fo.mp a
 obtain⟨h2,e2⟩:=Fo.mp b
 exact (List.getElem_inj hN).mp (e1.trans e2.symm)
theorem Same.made {H H1:Hp} {x dx C:AA} (nx:H x=Xe) (nd:H dx=Xe) (k:∀b o,(upd (upd H dx (.own x)) x (.ins C dx [])) b=some o->b≠x->H1 b=some o):Same H H1:=fun b o e=>
 k b o (by rw[AV (BF e nx),AV (BF e nd)];exact e) (BF e nx)
end L2
section
set_option maxHeartbeats 2000000
namespace L2
open PySem PySem.Spec PyProof.Rows
open PySem.W (WData Codec OpenSpec Well WellAll ReadsW ReadsAllW)
mutual
inductive Dw (K:AW) (H:Hp):V->Dz->Prop
 | non:Dw K H .non .none
 | bl (b:Bool):Dw K H (.bl b) (.bool b)
 | int (i:Int):Dw K H (.int i) (.int i)
 | str (x:AG):Dw K H (.str x) (.str x)
 | Fd (b:Array UInt8):Dw K H (.Fd b) (.bytes b.toList)
 | lst {a:AA} {xs:List V} {ds:List Dz}:AQ K H a xs->HZ K H xs ds->Dw K H (.ref a) (.list ds)
 | tup {a:AA} {xs:List V} {ds:List Dz}:Ap K H a xs->HZ K H xs ds->Dw K H (.ref a) (.tuple ds)
inductive HZ (K:AW) (H:Hp):List V->List Dz->Prop
 | nil:HZ K H [] []
 | cons {v:V} {vs:List V} {d:Dz} {ds:List Dz}:Dw K H v d->HZ K H vs ds->HZ K H (v::vs) (d::ds)
end
theorem ip {K:AW} {H:Hp}:∀ns:List Int,HZ K H (ns.map V.int) (ns.map WData.int)
 | []=>.nil
 | n::r=>.cons (.int n) (ip r)
theorem lB {K:AW} {H:Hp}:∀(ns:List Int) (xs:List V),HZ K H xs (ns.map WData.int)->xs=ns.map V.int
 | [],xs,h=>by
  cases h
  rfl
 | n::r,xs,h=>by
  cases h with
  | cons h1 h2=>
   cases h1
   rw[lB r _ h2] <;> rfl
section
variable {P:Av} {w:Am} {K:AW} {H:Hp} {h:Ae} {R:PySem.W.WRecords} {cl:AG->Option AA}
theorem ADm {a:AA} {xs:List V} (hok:C0 P w H h) (KX:K.In h) (q:AQ K H a xs):∃(AB:List AF) (o:Aq) (n:Nat),Vals xs AB/\h.get? a=some o/\o.cls= .type "list"/\o.data= .seq AB.toArray n:=by
 rcases q with q | ⟨o,AB,n,e,hc,_,hd,_,hv⟩
 . obtain⟨_,AB,n,hv,e⟩:=(show DB P w H h a (.lst xs) from q.ok hok)
   exact⟨AB,_,n,hv,e,rfl,rfl⟩
 . exact⟨AB.toList,o,n,hv,KX _ _ e,hc,by simp[hd]⟩
theorem ADn {a:AA} {xs:List V} (hok:C0 P w H h) (KX:K.In h) (q:Ap K H a xs):∃(AB:List AF) (o:Aq) (n:Nat),Vals xs AB/\h.get? a=some o/\o.cls= .type "tuple"/\o.data= .seq AB.toArray n:=by
 rcases q with q | ⟨o,AB,n,e,hc,hd,_,hv⟩
 . obtain⟨_,AB,hv,o,e,hc,n,hd⟩:=(show DB P w H h a (.tup xs) from q.ok hok)
   exact⟨AB,o,n,hv,e,hc,hd⟩
 . exact⟨AB.toList,o,n,hv,KX _ _ e,hc,by simp[hd]⟩
mutual
theorem Dw.reads (hok:C0 P w H h) (KX:K.In h):∀(d:Dz) (v:V) (u:AF),Dw K H v d->RelV v u->∃as,ReadsW R cl h u d as
 | .none,_,_,x,r=>by
  cases x
  cases r
  exact⟨_,ReadsW.none⟩
 | .bool b,_,_,x,r=>by
  cases x
  cases r
  exact⟨_,ReadsW.bool b⟩
 | .int i,_,_,x,r=>by
  cases x
  obtain⟨t,rfl⟩:=r
  exact⟨_,ReadsW.int i t⟩
 | .str s,_,_,x,r=>by
  cases x
  obtain⟨t,rfl⟩:=r
  exact⟨_,ReadsW.str s t⟩
 | .bytes b,_,_,x,r=>by
  cases x
  obtain⟨t,rfl⟩:=r
  exact⟨_,ReadsW.bytes _ t⟩
 | .list ds,_,_,x,r=>by
  cases x with
  | lst hs ha=>
   cases r
   obtain⟨AB,o,n,rv,ho,hc,hd⟩:=ADm hok KX hs
   obtain⟨as,hr⟩:=Dw.readsAll hok KX ds _ AB ha rv
   exact⟨_,ReadsW.list ho hc hd hr⟩
 | .tuple ds,_,_,x,r=>by
  cases x with
  | tup hs ha=>
   cases r
   obtain⟨AB,o,n,rv,ho,hc,hd⟩:=ADn hok KX hs
   obtain⟨as,hr⟩:=Dw.readsAll hok KX ds _ AB ha rv
   exact⟨_,ReadsW.tuple ho hc hd hr⟩
 | .float _,_,_,x,_=>by cases x
 | .dict _,_,_,x,_=>by cases x
 | .bytearray _,_,_,x,_=>by cases x
 | .set _,_,_,x,_=>by cases x
 | .frozenset _,_,_,x,_=>by cases x
 | .obj _ _,_,_,x,_=>by cases x
theorem Dw.readsAll (hok:C0 P w H h) (KX:K.In h):∀(ds:List Dz) (vs:List V) (us:List AF),HZ K H vs ds->Vals vs us->∃as,ReadsAllW R cl h us ds as
 | [],_,_,x,r=>by
  cases x
  cases r
  exact⟨_,ReadsAllW.nil⟩
 | d::ds,_,_,x,r=>by
  cases x with
  | cons h1 h2=>
   cases r with
   | cons r1 r2=>
    obtain⟨as,q1⟩:=Dw.reads hok KX d _ _ h1 r1
    obtain⟨bs,q2⟩:=Dw.readsAll hok KX ds _ _ h2 r2
    exact⟨_,ReadsAllW.cons q1 q2⟩
end
end
mutual
def Gv:Dz->Bool
 | .none=>true
 | .bool _=>true
 | .int _=>true
 | .str _=>true
 | .bytes _=>true
 | .list xs=>Hn xs
 | .tuple xs=>Hn xs
 | _=>false
def Hn:List Dz->Bool
 | []=>true
 | x::r=>Gv x&&Hn r
end
theorem nj {α:Type} {f:α->Dz} (h:∀a,Gv (f a)=true):∀l:List α,Hn (l.map f)=true
 | []=>rfl
 | x::r=>by
  show (Gv (f x)&&Hn (r.map f))=true
  rw[h x,nj h r] <;> rfl
theorem Ks:∀(c:Codec) (a:c.denote),Gv (c.enc a)=true
 | .unit,_=>rfl
 | .bool,_=>rfl
 | .int _ _,_=>rfl
 | .nat _ _,_=>rfl
 | .u8,_=>rfl
 | .bytes _ _,_=>rfl
 | .text _ _ _ _,_=>rfl
 | .list _ _ c,a=>nj (fun x=>Ks c x) a
 | .pair c d,a=>by
  show (Gv (c.enc a.1)&&(Gv (d.enc a.2)&&true))=true
  rw[Ks c a.1,Ks d a.2] <;> rfl
 | .triple c d e,a=>by
  show (Gv (c.enc a.1)&&(Gv (d.enc a.2.1)&&(Gv (e.enc a.2.2)&&true)))=true
  rw[Ks c a.1,Ks d a.2.1,Ks e a.2.2] <;> rfl
 | .option c,none=>rfl
 | .option c,some x=>Ks c x
theorem nq:∀(cs:List Codec) (a:Codec.denoteAll cs),Hn (Codec.encAll cs a)=true
 | [],_=>rfl
 | c::cs,a=>by
  show (Gv (c.enc a.1)&&Hn (Codec.encAll cs a.2))=true
  rw[Ks c a.1,nq cs a.2] <;> rfl
theorem c4:∀{xs:List Dz} {d:Dz},d∈xs->d.weight<=WData.weightAll xs
 | [],d,h=>absurd h (by simp)
 | x::r,d,h=>by
  show d.weight<=x.weight+1+WData.weightAll r
  rcases BK.mp h with e | m
  . rw[e]
    lia
  . have z:=c4 m
    lia
def toV:AF->V
 | .none=>.non
 | .bool b=>.bl b
 | .int i _=>.int i
 | .str x _=>.str x
 | .bytes b _=>.Fd b
 | .ref a=>.ref a
 | _=>.non
def G9 (A:List AA):AF->Prop
 | .none=>True
 | .bool _=>True
 | .int _ _=>True
 | .str _ _=>True
 | .bytes _ _=>True
 | .ref a=>a∈A
 | _=>False
theorem G9.mono {A B:List AA} (h:∀a∈A,a∈B):∀{u:AF},G9 A u->G9 B u:=fun {u} x=>by
 cases u with
 | ref a=>exact h a x
 | none=>trivial
 | bool b=>trivial
 | int i t=>trivial
 | str s t=>trivial
 | bytes b t=>trivial
 | _=>exact False.elim x
theorem ACg {A:List AA} {u:AF} (x:G9 A u):RelV (toV u) u:=by
 cases u with
 | ref a=>rfl
 | none=>rfl
 | bool b=>rfl
 | int i t=>exact⟨t,rfl⟩
 | str s t=>exact⟨t,rfl⟩
 | bytes b t=>exact⟨t,rfl⟩
 | _=>exact False.elim x
theorem OU {A:List AA}:∀{vs:List AF},(∀u∈vs,G9 A u)->Vals (vs.map toV) vs
 | [],_=>.nil
 | u::r,h=>.cons (ACg (h u (Bl ..))) (OU fun x hx=>h x (B2 _ hx))
def HY (h:Ae) (A:List AA) (a:AA):Prop:=∃vs:List AF,vs.length<=AZ/\(∀u∈vs,G9 A u)/\
 (h.get? a=some { cls:=.type "list",data:=.seq vs.toArray }\/h.get? a=some { cls:=.type "tuple",data:=.seq vs.toArray })
theorem HY.mono {h:Ae} {A B:List AA} {a:AA} (k:∀a∈A,a∈B) (x:HY h A a):HY h B a:=by
 obtain⟨vs,h1,h2,h3⟩:=x
 exact⟨vs,h1,fun u hu=>(h2 u hu).mono k,h3⟩
theorem Ws {P:Params} {h:Ae}:∀{vs:List AF} {ds:List Dz},WellAll P h vs ds->vs.length=ds.length
 | _,_,.nil=>rfl
 | _,_,.cons _ b=>by
  show _+1=_+1
  rw[Ws b]
theorem p7 {P:Params} {h:Ae} {v:AF} {ds:List Dz} (x:Well P h v (.list ds)):∃(a:AA) (vs:List AF),v= .ref a/\h.get? a=some { cls:=.type "list",data:=.seq vs.toArray }/\WellAll P h vs ds:=by
 cases x with
 | list ho Cm=>exact⟨_,_,rfl,ho,Cm⟩
theorem p8 {P:Params} {h:Ae} {v:AF} {ds:List Dz} (x:Well P h v (.tuple ds)):∃(a:AA) (vs:List AF),v= .ref a/\h.get? a=some { cls:=.type "tuple",data:=.seq vs.toArray }/\WellAll P h vs ds:=by
 cases x with
 | tuple ho Cm=>exact⟨_,_,rfl,ho,Cm⟩
theorem p6 {P:Params} {h:Ae} {us:List AF} {d:Dz} {ds:List Dz} (x:WellAll P h us (d::ds)):∃(v:AF) (vs:List AF),us=v::vs/\Well P h v d/\WellAll P h vs ds:=by
 cases x with
 | cons a b=>exact⟨_,_,rfl,a,b⟩
theorem line_of {n:Nat} (h:n<=1048576):n<=AZ:=BP h (by decide)
section
variable {P:Params} {h:Ae}
mutual
theorem ql:∀(d:Dz) (v:AF),Well P h v d->Gv d=true->d.weight<=1048576->∃A:List AA,G9 A v/\∀a∈A,HY h A a
 | .none,_,x,_,_=>by
  cases x
  exact⟨[],trivial,fun a m=>absurd m (by simp)⟩
 | .bool b,_,x,_,_=>by
  cases x
  exact⟨[],trivial,fun a m=>absurd m (by simp)⟩
 | .int i,_,x,_,_=>by
  cases x
  exact⟨[],trivial,fun a m=>absurd m (by simp)⟩
 | .str s,_,x,_,_=>by
  cases x
  exact⟨[],trivial,fun a m=>absurd m (by simp)⟩
 | .bytes b,_,x,_,_=>by
  cases x
  exact⟨[],trivial,fun a m=>absurd m (by simp)⟩
 | .list ds,_,x,p,z=>by
  obtain⟨a,vs,rfl,ho,Cm⟩:=p7 x
  have z2:WData.weightAll ds<=1048576:=z
  obtain⟨A,h1,h2⟩:=S5 ds _ Cm p fun d hd=>BP (c4 hd) z2
  have k:∀b∈A,b∈a::A:=fun b hb=>B2 _ hb
  refine⟨a::A,Bl ..,fun b hb=>?_⟩
  rcases BK.mp hb with e | m
  . rw[e]
    exact⟨vs,line_of (by rw[Ws Cm];exact BP (PySem.W.length_le_weightAllW ds) z2),fun u hu=>(h1 u hu).mono k,.inl ho⟩
  . exact (h2 b m).mono k
 | .tuple ds,_,x,p,z=>by
  obtain⟨a,vs,rfl,ho,Cm⟩:=p8 x
  have z2:WData.weightAll ds<=1048576:=z
  obtain⟨A,h1,h2⟩:=S5 ds _ Cm p fun d hd=>BP (c4 hd) z2
  have k:∀b∈A,b∈a::A:=fun b hb=>B2 _ hb
  refine⟨a::A,Bl ..,fun b hb=>?_⟩
  rcases BK.mp hb with e | m
  . rw[e]
    exact⟨vs,line_of (by rw[Ws Cm];exact BP (PySem.W.length_le_weightAllW ds) z2),fun u hu=>(h1 u hu).mono k,.inr ho⟩
  . exact (h2 b m).mono k
 | .float _,_,_,p,_=>Fl (show false=true from p)
 | .dict _,_,_,p,_=>Fl (show false=true from p)
 | .bytearray _,_,_,p,_=>Fl (show false=true from p)
 | .set _,_,_,p,_=>Fl (show false=true from p)
 | .frozenset _,_,_,p,_=>Fl (show false=true from p)
 | .obj _ _,_,_,p,_=>Fl (show false=true from p)
theorem S5:∀(ds:List Dz) (vs:List AF),WellAll P h vs ds->Hn ds=true->(∀d∈ds,d.weight<=1048576)->∃A:List AA,(∀u∈vs,G9 A u)/\∀a∈A,HY h A a
 | [],_,x,_,_=>by
  cases x
  exact⟨[],fun u m=>absurd m (by simp),fun a m=>absurd m (by simp)⟩
 | d::ds,_,x,p,z=>by
  obtain⟨v,vs,rfl,x1,x2⟩:=p6 x
  have q:Gv d=true/\Hn ds=true:=Bool.and_eq_true_iff.mp p
  obtain⟨A,a1,a2⟩:=ql d v x1 q.1 (z d (Bl ..))
  obtain⟨B,b1,b2⟩:=S5 ds vs x2 q.2 fun e he=>z e (B2 _ he)
  have kA:∀b∈A,b∈A++B:=fun b hb=>D8.mpr (.inl hb)
  have kB:∀b∈B,b∈A++B:=fun b hb=>D8.mpr (.inr hb)
  refine⟨A++B,fun u hu=>?_,fun b hb=>?_⟩
  . rcases BK.mp hu with e | m
    . rw[e]
      exact a1.mono kA
    . exact (b1 u m).mono kB
  . rcases D8.mp hb with m | m
    . exact (a2 b m).mono kA
    . exact (b2 b m).mono kB
end
end
def UI (o:Aq):Option HO:=match o.data with
 | .seq vs _=>if (o.cls==F4 "list")=true then some (.CG o (.lst (vs.toList.map toV))) else some (.CG o (.tup (vs.toList.map toV)))
 | _=>none
def E5 (K:AW) (h:Ae) (A:List AA):Hp:=fun b=>if b∈A then (if (K.lookup b).isNone=true then (h.get? b).bind UI else none) else none
def O0 (H:Hp):Prop:=∀b,H b=none\/ ∃o u,H b=some (.CG o u)
theorem kP (vs:List AF):UI { cls:=.type "list",data:=.seq vs.toArray }=some (.CG { cls:=.type "list",data:=.seq vs.toArray } (.lst (vs.map toV))):=by
 show (if (F4 "list"==F4 "list")=true then some (HO.CG { cls:=.type "list",data:=.seq vs.toArray } (.lst (vs.toArray.toList.map toV))) else some (HO.CG { cls:=.type "list",data:=.seq vs.toArray } (.tup (vs.toArray.toList.map toV))))=_
 rw[if_pos (beq_self_eq_true _)]
theorem kQ (vs:List AF):UI { cls:=.type "tuple",data:=.seq vs.toArray }=some (.CG { cls:=.type "tuple",data:=.seq vs.toArray } (.tup (vs.map toV))):=by
 show (if (F4 "tuple"==F4 "list")=true then some (HO.CG { cls:=.type "tuple",data:=.seq vs.toArray } (.lst (vs.toArray.toList.map toV))) else some (HO.CG { cls:=.type "tuple",data:=.seq vs.toArray } (.tup (vs.toArray.toList.map toV))))=_
 rw[if_neg (by decide)]
section
variable {P:Av} {w:Am} {K:AW} {h:Ae} {A:List AA}
theorem S6 {b:AA} {o:Aq} (hb:b∈A) (hk:K.lookup b=none) (e:h.get? b=some o):E5 K h A b=UI o:=by
 unfold E5
 rw[if_pos hb,hk,if_pos (show (none:Option Aq).isNone=true from rfl),e] <;> rfl
theorem AAS {b:AA} {u:HO} (q:E5 K h A b=some u):b∈A/\K.lookup b=none:=by
 unfold E5 at q
 by_cases hb:b∈A
 . rw[if_pos hb] at q
   cases hk:K.lookup b with
   | none=>exact⟨hb,rfl⟩
   | some o=>
    rw[hk,if_neg (by simp)] at q
    cases q
 . rw[if_neg hb] at q
   cases q
theorem S7 (ar:∀a∈A,HY h A a) {b:AA} {u:HO} (q:E5 K h A b=some u):K.lookup b=none/\∃vs:List AF,vs.length<=AZ/\(∀u∈vs,G9 A u)/\
 ((h.get? b=some { cls:=.type "list",data:=.seq vs.toArray }/\u= .CG { cls:=.type "list",data:=.seq vs.toArray } (.lst (vs.map toV)))\/
  (h.get? b=some { cls:=.type "tuple",data:=.seq vs.toArray }/\u= .CG { cls:=.type "tuple",data:=.seq vs.toArray } (.tup (vs.map toV)))):=by
 obtain⟨hb,hk⟩:=AAS q
 obtain⟨vs,h1,h2,h3⟩:=ar b hb
 refine⟨hk,vs,h1,h2,?_⟩
 rcases h3 with e | e
 . rw[S6 hb hk e,kP] at q
   exact .inl ⟨e,(CL q).symm⟩
 . rw[S6 hb hk e,kQ] at q
   exact .inr ⟨e,(CL q).symm⟩
theorem qo (ar:∀a∈A,HY h A a):O0 (E5 K h A):=fun b=>by
 cases q:E5 K h A b with
 | none=>exact .inl rfl
 | some u=>
  obtain⟨_,vs,_,_,⟨_,e⟩ | ⟨_,e⟩⟩:=S7 ar q
  . exact .inr ⟨_,_,by rw[e]⟩
  . exact .inr ⟨_,_,by rw[e]⟩
theorem qm (ar:∀a∈A,HY h A a):C0 P w (E5 K h A) h:=fun b u q=>by
 obtain⟨_,vs,h1,h2,⟨e,rfl⟩ | ⟨e,rfl⟩⟩:=S7 ar q
 . exact⟨e,by rw[AR];exact h1,vs,_,OU h2,e⟩
 . exact⟨e,by rw[AR];exact h1,vs,OU h2,_,e,rfl,_,rfl⟩
theorem V6 {c c':AF} {vs us:List AF} (e:(some { cls:=c,data:=.seq vs.toArray }:Option Aq)=some { cls:=c',data:=.seq us.toArray }):c=c'/\vs=us:=by
 have e1:=CL e
 have e2:c=c':=congrArg Obj.cls e1
 have e3:SX vs.toArray=SX us.toArray:=congrArg Obj.data e1
 injection e3 with e4
 refine⟨e2,?_⟩
 have e5:=congrArg dO e4
 simpa using e5
theorem qp (KX:K.In h) (ar:∀a∈A,HY h A a) {a:AA} {vs:List AF} (ha:a∈A) (e:h.get? a=some { cls:=.type "list",data:=.seq vs.toArray }):(∀u∈vs,G9 A u)/\AQ K (E5 K h A) a (vs.map toV):=by
 obtain⟨us,h1,h2,h3⟩:=ar a ha
 have hu:us=vs:=by
  rcases h3 with q | q
  . rw[e] at q
    exact (V6 q).2.symm
  . rw[e] at q
    exact absurd (F4.inj (V6 q).1) (by decide)
 subst hu
 refine⟨h2,?_⟩
 cases hk:K.lookup a with
 | none=>exact .inl (.inr ⟨_,by rw[S6 ha hk e,kP]⟩)
 | some o=>
  have e2:=KX a o hk
  rw[e] at e2
  obtain rfl:=CL e2
  exact .inr ⟨_,us.toArray,_,hk,rfl,rfl,rfl,by rw[Cp];exact h1,by simpa using OU h2⟩
theorem qt (KX:K.In h) (ar:∀a∈A,HY h A a) {a:AA} {vs:List AF} (ha:a∈A) (e:h.get? a=some { cls:=.type "tuple",data:=.seq vs.toArray }):(∀u∈vs,G9 A u)/\Ap K (E5 K h A) a (vs.map toV):=by
 obtain⟨us,h1,h2,h3⟩:=ar a ha
 have hu:us=vs:=by
  rcases h3 with q | q
  . rw[e] at q
    exact absurd (F4.inj (V6 q).1) (by decide)
  . rw[e] at q
    exact (V6 q).2.symm
 subst hu
 refine⟨h2,?_⟩
 cases hk:K.lookup a with
 | none=>exact .inl (.inr ⟨_,by rw[S6 ha hk e,kQ]⟩)
 | some o=>
  have e2:=KX a o hk
  rw[e] at e2
  obtain rfl:=CL e2
  exact .inr ⟨_,us.toArray,_,hk,rfl,rfl,by rw[Cp];exact h1,by simpa using OU h2⟩
mutual
theorem tm {Pm:Params} (KX:K.In h) (ar:∀a∈A,HY h A a):∀(d:Dz) (v:AF),Well Pm h v d->Gv d=true->G9 A v->Dw K (E5 K h A) (toV v) d
 | .none,_,x,_,_=>by
  cases x
  exact .non
 | .bool b,_,x,_,_=>by
  cases x
  exact .bl b
 | .int i,_,x,_,_=>by
  cases x
  exact .int i
 | .str s,_,x,_,_=>by
  cases x
  exact .str s
 | .bytes b,_,x,_,_=>by
  cases x
  have z:=Dw.Fd (K:=K) (H:=E5 K h A) b.toArray
  exact z
 | .list ds,_,x,p,hu=>by
  obtain⟨a,vs,rfl,ho,Cm⟩:=p7 x
  obtain⟨h2,hs⟩:=qp KX ar hu ho
  exact .lst hs (Tb KX ar ds _ Cm p h2)
 | .tuple ds,_,x,p,hu=>by
  obtain⟨a,vs,rfl,ho,Cm⟩:=p8 x
  obtain⟨h2,hs⟩:=qt KX ar hu ho
  exact .tup hs (Tb KX ar ds _ Cm p h2)
 | .float _,_,_,p,_=>Fl (show false=true from p)
 | .dict _,_,_,p,_=>Fl (show false=true from p)
 | .bytearray _,_,_,p,_=>Fl (show false=true from p)
 | .set _,_,_,p,_=>Fl (show false=true from p)
 | .frozenset _,_,_,p,_=>Fl (show false=true from p)
 | .obj _ _,_,_,p,_=>Fl (show false=true from p)
theorem Tb {Pm:Params} (KX:K.In h) (ar:∀a∈A,HY h A a):∀(ds:List Dz) (vs:List AF),WellAll Pm h vs ds->Hn ds=true->(∀u∈vs,G9 A u)->HZ K (E5 K h A) (vs.map toV) ds
 | [],_,x,_,_=>by
  cases x
  exact .nil
 | d::ds,_,x,p,hu=>by
  obtain⟨v,vs,rfl,x1,x2⟩:=p6 x
  have q:Gv d=true/\Hn ds=true:=Bool.and_eq_true_iff.mp p
  exact .cons (tm KX ar d v x1 q.1 (hu _ (Bl ..))) (Tb KX ar ds vs x2 q.2 fun u m=>hu u (B2 _ m))
end
end
theorem ADl {P:Av} {w:Am} {K:AW} {mg mb:AG->Option AF} {CX:FT} {k:Nat} {fa:AA} {fd:A2} {ps:List AG} {sp:Sp} {s₁:AI} {vals:List AF} {ds:List Dz} {R:PySem.W.WRecords} {cl:AG->Option AA} {d0:Dz}
 (KX:K.In s₁.heap) (hns:s₁.heap.Ns Hm mg) (hb:s₁.heap.Ns builtinsNs mb) (hbb:∀x:AG,x≠"__name__"->mb x=bootBuiltins x) (hlim:s₁.heap.NoLimit) (hg:s₁.gens= #[])
 (hwl:WellAll w.params s₁.heap vals ds) (Cr:Hn ds=true) (yP:∀d∈ds,d.weight<=1048576) (hr:BW k callerA)
 (F:∀base:Ae,K.In base->base.Ns Hm mg->Aa P w K mg base CX k fa fd ps sp) (hbind:∀(s:AI) (us:List AF),us.length=ps.length->BindsTo s fd ⟨us,[]⟩ (ps.zip us)) (BV:ds.length=ps.length)
 (hsp:∀(H:Hp) (xs:List V),O0 H->HZ K H xs ds->sp xs H (fun v H'=>Dw K H' v d0) fun _ _ _=>False)
 (Ql:∀H e s',CX [] H s₁ (fun _ _ _=>False) e s'->False):
 codeAny (AY P w) callerA (.call (.ref fa) ⟨vals,[]⟩) (fun r s'=>∃u as,r= .ok (.ret u)/\ReadsW R cl s'.heap u d0 as/\OldK s₁.heap s'.heap/\s'.os=s₁.os/\AllBare s'.gens) s₁:=by
 obtain⟨A,ho,ar⟩:=S5 ds vals hwl Cr yP
 have hO:O0 (E5 K s₁.heap A):=qo ar
 have hok:C0 P w (E5 K s₁.heap A) s₁.heap:=qm ar
 have hS:=Tb KX ar ds vals hwl Cr ho
 have hV:=OU ho
 have hK:∀b u,E5 K s₁.heap A b=some u->K.lookup b=none:=fun b u q=>(S7 ar q).1
 have Nq:∀{b:AA} {o:Aq} {es:Array Gf} {ep:Nat},s₁.heap.get? b=some o->o.data= .dict es ep->E5 K s₁.heap A b=none:=fun {b o es ep} e d=>by
  cases q:E5 K s₁.heap A b with
  | none=>rfl
  | some u=>
   obtain⟨_,vs,_,_,⟨e2,_⟩ | ⟨e2,_⟩⟩:=S7 ar q
   . rw[e2] at e
     cases e
     have d':SX vs.toArray _=Data.dict es ep:=d
     cases d'
   . rw[e2] at e
     cases e
     have d':SX vs.toArray _=Data.dict es ep:=d
     cases d'
 generalize E5 K s₁.heap A=H at hO hok hS hK Nq
 have fw:∀{b:AA} {o:Aq},s₁.heap.get? b=some o->H b=none->(Jl s₁.heap H).get? b=some o:=fun e n=>xQ e n
 have Uj:∀{b:AA} {m:AG->Option AF},s₁.heap.Ns b m->(Jl s₁.heap H).Ns b m:=fun {b m} ⟨o,es,ep,e,d,r⟩=>⟨o,es,ep,fw e (Nq e d),d,r⟩
 have nK:∀b o,K.lookup b=some o->H b=none:=fun b o e=>by
  cases q:H b with
  | none=>rfl
  | some u=>
   rw[hK b u q] at e
   cases e
 have jh:K.In (Jl s₁.heap H):=fun b o e=>fw (KX b o e) (nK b o e)
 have hM:Mod K mg (Jl s₁.heap H):=⟨jh,Uj hns,⟨mb,Uj hb,hbb⟩,let ⟨mc,h1,h2⟩:=hlim;⟨mc,Uj h1,h2⟩⟩
 have e0:LD P w K mg (Jl s₁.heap H) callerA [] s₁ H:=⟨rfl,hM,fun b o e=>AAV e,JZ (xR _ _),trivial,fun b hb=>absurd (show b∈([]:List AA) from hb) (by simp),hok,.of_eq hg⟩
 have hl:vals.length=ps.length:=by rw[Ws hwl];exact BV
 refine KZ ((F _ jh (Uj hns)).run callerA [] s₁ H ⟨vals,[]⟩ vals (vals.map toV) _ _ hr e0 (hbind s₁ vals hl) hV (hsp H _ hO hS)) fun r s' x=>?_
 cases r with
 | error e=>exact (Ql H e s' x).elim
 | ok fl=>
  cases fl with
  | next=>exact False.elim x
  | brk=>exact False.elim x
  | cont=>exact False.elim x
  | ret u=>
   obtain⟨v,H',os,bare,un,hok',r',q⟩:=x
   have kept:∀b o,s₁.heap.get? b=some o->s'.heap.get? b=some o:=fun b o e=>by
    cases q2:H b with
    | none=>exact un.keep b o e q2 (by intro z;exact absurd (show b∈([]:List AA) from z) (by simp)) (by simp)
    | some u2=>
     rcases hO b with z | ⟨ob,u3,z⟩
     . rw[q2] at z
       cases z
     . have z2:=un.Hh b ob _ z
       obtain⟨e1,_⟩:=hok b _ z
       obtain⟨e2,_⟩:=hok' b _ z2
       rw[e] at e1
       cases e1
       exact e2
   have qW:K.In s'.heap:=fun b o e=>kept b o (KX b o e)
   obtain⟨as,hrd⟩:=Dw.reads (R:=R) (cl:=cl) hok' qW d0 v u q r'
   exact⟨u,as,rfl,hrd,OldK.of_keep kept,os,bare⟩
theorem zJ {ds:List Dz} (h:WData.layableAll ds=true):∀d∈ds,d.weight<=1048576:=fun d hd=>
 (PySem.W.layableW_iff.mp (MY.mp h d hd)).2.2
theorem iu:∀(cs:List Codec) (a:Codec.denoteAll cs),(Codec.encAll cs a).length=cs.length
 | [],_=>rfl
 | c::cs,a=>by
  show (Codec.encAll cs a.2).length+1=cs.length+1
  rw[iu cs a.2]
theorem AEn {r:OpenSpec} {k:Nat} {q:Av} {loose:List AG} {XP:(AG->Option AF)->Ae->Prop} {YP:Am->Ae->Prop} {d:DefRec} {K:Params->AW} {CX:Am->FT} {ps:List AG} {sp:Am->Sp}
 (ZX:r.wellSaid=true) (hdf:d.params.defaults=[]) (BV:r.args.length=ps.length) (hr:BW k callerA)
 (hY:∀(w:Am) (h:Ae),YP w h->(K w.params).In h)
 (F:∀(w:Am) (mg:AG->Option AF) (fa:AA) (h:Ae),YP w h->(K w.params).In h->h.Ns Hm mg->mg d.name=some (.ref fa)->
  ∃fd:A2,(∀(s:AI) (us:List AF),us.length=ps.length->BindsTo s fd ⟨us,[]⟩ (ps.zip us))/\
   ∀base:Ae,(K w.params).In base->base.Ns Hm mg->Aa r.prog w (K w.params) mg base (CX w) k fa fd ps (sp w))
 (hsp:∀(w:Am) (H:Hp) (xs:List V) (a:Codec.denoteAll r.args),O0 H->Codec.withinAll r.args a=true->Codec.app r.args r.asked a=true->HZ (K w.params) H xs (Codec.encAll r.args a)->
  sp w xs H (fun v H'=>Dw (K w.params) H' v (r.ret.enc (Codec.app r.args r.f a))) fun _ _ _=>False)
 (Ql:∀(w:Am) (H:Hp) (s:AI) (e:AF) (s':AI),CX w [] H s (fun _ _ _=>False) e s'->False):
 PySem.W.WalkOS q loose XP YP r d [] (fun f vs=>PySem.call f vs):=by
 intro w s_0 s₁ mg mb G Y fa o pm cd doc dV kV ho hd hcd hD hmg hg args vals as hpre hlay hrd hwl hlo
 obtain⟨a,e1,e2⟩:=PySem.W.os_pre_some hpre
 obtain⟨e3,hwi⟩:=Codec.encAll_of_decAll r.args args a e1
 subst e3
 have KX:=hY w _ Y
 obtain⟨fd,hb,hF⟩:=F w mg fa _ Y KX G.T.g hmg
 refine PySem.W.enter_call (KZ (ADl (R:=[]) (cl:=classAt s_0.heap) (d0:=r.ret.enc (Codec.app r.args r.f a)) KX G.T.g G.T.b G.T.builtins G.T.nolimit hg hwl (nq _ _) (zJ hlay) hr hF hb (by rw[iu];exact BV)
  (fun H xs hO hS=>hsp w H xs a hO hwi e2 hS) fun H e s'=>Ql w H s₁ e s') fun r' s' hq=>?_)
 obtain⟨u,as',rfl,h1,h2,h3,h4⟩:=hq
 exact⟨.inl ⟨u,_,as',rfl,fun _=>rfl,h1,(OpenSpec.post_iff ZX hwi _ _).mpr rfl,fun z=>Fl (show false=true from z)⟩,h2,h3,h4⟩
theorem AEo {r:OpenSpec} {k:Nat} {q:Av} {loose:List AG} {XP:(AG->Option AF)->Ae->Prop} {YP:Am->Ae->Prop} {d:DefRec} {K:Params->AW} {CX:FT} {ps:List AG} {sp:AW->Sp}
 (ZX:r.wellSaid=true) (hdf:d.params.defaults=[]) (BV:r.args.length=ps.length) (hr:BW k callerA)
 (hY:∀(w:Am) (h:Ae),YP w h->(K w.params).In h)
 (F:∀(w:Am) (mg:AG->Option AF) (fa:AA) (h:Ae),YP w h->(K w.params).In h->h.Ns Hm mg->mg d.name=some (.ref fa)->
  ∃fd:A2,(∀(s:AI) (us:List AF),us.length=ps.length->BindsTo s fd ⟨us,[]⟩ (ps.zip us))/\
   ∀base:Ae,(K w.params).In base->base.Ns Hm mg->Aa r.prog w (K w.params) mg base CX k fa fd ps (sp (K w.params)))
 (hsp:∀(K:AW) (H:Hp) (xs:List V) (a:Codec.denoteAll r.args),O0 H->Codec.withinAll r.args a=true->Codec.app r.args r.asked a=true->HZ K H xs (Codec.encAll r.args a)->
  sp K xs H (fun v H'=>Dw K H' v (r.ret.enc (Codec.app r.args r.f a))) fun _ _ _=>False)
 (Ql:∀(H:Hp) (s:AI) (e:AF) (s':AI),CX [] H s (fun _ _ _=>False) e s'->False):
 PySem.W.WalkOS q loose XP YP r d [] (fun f vs=>PySem.call f vs):=
 AEn (K:=K) (CX:=fun _=>CX) (sp:=fun w=>sp (K w.params)) ZX hdf BV hr hY F (fun w H xs a h1 h2 h3 h4=>hsp (K w.params) H xs a h1 h2 h3 h4) fun _ H s e s'=>Ql H s e s'
end L2
end
namespace HT
open PySem PySem.Spec PyProof.Rows
theorem ACc (A:Bf) (s:AI) (a:Int) (t:E4) (c:Int) (u:E4) (prog:Av) (w:Am) (E:AF->AI->Prop) (Q:AF->AI->Prop) (h:Q (.bool (decide (c < a))) s):
 AU (AY prog w) A (richCompare .Gt (.int a t) (.int c u)) Q E s:=
 (PyProof.Rows.gt_int h:AU (AY prog w) A (D0 .Gt (.int a t) (.int c u)) Q E s)
section
open PySem.SeqAt
open PySem.AutoSeq1 (wpAny_loadPart')
open PySem.MeetsSeq PySem.MeetsSeq2 PySem.MeetsSeq3
theorem AET (l b:AA) (items items2:Array AF) (n n2:Nat) (dd dd2:Option AA) (sl sl2:Array (Option AF)) (ns ms:List Int) (hi:Du items.toList ns) (hj:Du items2.toList ms):
 Meets (Ed.«tuple.__gt__» ⟨[.ref l,.ref b],[]⟩)
  (fun _ R s=>s.heap.get? l=some { cls:=.type "tuple",dict:=dd,data:=.seq items n,slots:=sl }/\s.heap.get? b=some { cls:=.type "tuple",dict:=dd2,data:=.seq items2 n2,slots:=sl2 }/\
   R (.ok (.ret (.bool (lexLt ms ns)))) s):=
 .of_wp fun prog w A R s h=>by
  obtain⟨hp,g,d,tk,os⟩:=s;obtain⟨hl,hb,h⟩:=h
  have f2:=AutoSeq1.sub_tuple_tuple
  have z1:items.size=ns.length:=by rw[<-hi.length];simp
  have z2:items2.size=ms.length:=by rw[<-hj.length];simp
  wp_walk using wpAny_loadPart' hl,wpAny_loadPart' hb,wpAny_forIn_list _ (fun rest b s'=>b.1=none/\s'=⟨hp,g,d,tk,os⟩/\∃(vs ws:List AF) (ns' Ea:List Int),rest=vs.zip ws/\
   Du vs ns'/\Du ws Ea/\ns'.length+items2.size=Ea.length+items.size/\R (.ok (.ret (.bool (lexLt Ea ns')))) ⟨hp,g,d,tk,os⟩) _
  case turn=>
   rintro⟨y,x⟩ rest b s' ⟨hb',rfl,vs,ws,ns',Ea,hz,ZW,hwi,BV,hR⟩
   cases ZW with
   | nil=>rw[eL] at hz;cases hz
   | cons a t yH=>
    cases hwi with
    | nil=>rw[eM] at hz;cases hz
    | cons c u yL=>
     rw[XW] at hz
     injection hz with hyx hrest
     injection hyx with hy hx
     subst hy hx
     rw[UY] at hR
     simp only[BO] at BV
     obtain⟨e,he,hiff⟩:=uW A.in1 ⟨hp,g,d,tk,os⟩ a t c u
     refine AJ (he prog w _ _ ?_)
     cases e with
     | true=>
      rw[if_pos (hiff.mp rfl).symm] at hR
      wp_walk
      exact⟨rfl,rfl,_,_,_,_,hrest,yH,yL,by lia,hR⟩
     | false=>
      rw[if_neg (fun q=>absurd (hiff.mpr q.symm) Bw)] at hR
      have UL:=ACc A.in1 ⟨hp,g,d,tk,os⟩ a t c u prog w
      wp_walk using UL
      exact⟨_,rfl,by simpa using hR⟩
  case fin=>
   rintro⟨b1,b2⟩ s' ⟨hb',rfl,vs,ws,ns',Ea,hz,ZW,hwi,BV,hR⟩
   simp only at hb'
   subst hb'
   have hv:lexLt Ea ns'=decide (items2.size < items.size):=by
    cases ZW with
    | nil=>
     cases hwi with
     | nil=>
      simp only[D7] at BV
      rw[lU]
      exact (decide_eq_false (by lia)).symm
     | cons c u hw=>
      simp only[D7,BO] at BV
      rw[zO]
      exact (decide_eq_false (by lia)).symm
    | cons a t hv=>
     cases hwi with
     | nil=>
      simp only[D7,BO] at BV
      rw[zP]
      exact (decide_eq_true (by lia)).symm
     | cons c u hw=>
      rw[XW] at hz
      cases hz
   rw[hv] at hR
   wp_walk
   exact⟨_,rfl,by simpa [Builtin.Tuple.tupleCompareSizes] using hR⟩
  case h=>
   exact⟨rfl,rfl,items.toList,items2.toList,ns,ms,rfl,hi,hj,by lia,h⟩
end
section
variable {prog:Av} {w:Am} {A:Bf} {E:AF->AI->Prop} {s:AI}
theorem wZ {l b:AA} {items items2:Array AF} {ns ms:List Int} {Q:AF->AI->Prop} (hl:IsTup s.heap l items) (hb:IsTup s.heap b items2) (hi:Du items.toList ns) (hj:Du items2.toList ms)
 (hu:A.units < cLine) (h:Q (.bool (lexLt ms ns)) s):AU (AY prog w) A (D0 .Gt (.ref l) (.ref b)) Q E s:=by
 obtain⟨⟨cls,dd,data,sl⟩,ho,hc,n,hd⟩:=id hl
 obtain⟨⟨cls2,dd2,data2,sl2⟩,ho2,hc2,n2,hd2⟩:=id hb
 simp only at hc hd hc2 hd2
 subst hc hd hc2 hd2
 exact richCompare_meets_room (op:=.Gt) ⟨_,ho,rfl⟩ ⟨_,ho2,rfl⟩ PySem.F.slot_tuple_gt PySem.F.entry_tuple_gt (PySem.F.args_tuple_gt_2 _ _) (AET l b items items2 n n2 dd dd2 sl sl2 ns ms hi hj)
  ⟨ho,ho2,show Mp (lexLt ms ns)≠Value.notImplemented/\Q (.bool (lexLt ms ns)) s from ⟨(fun x=>nomatch x),h⟩⟩ hu
end
end HT
namespace L2
open PySem PySem.Spec PyProof.Rows
section
variable {X:Cx}
def ACW (K:AW):R2:=fun x y H Q=>∃a b ns ms,x= .ref a/\y= .ref b/\Ap K H a (ns.map V.int)/\Ap K H b (ms.map V.int)/\Q (.bl (HT.lexLt ms ns)) H
theorem ABj (hu:X.A.units < cLine):C7 X (D0 .Gt) (ACW X.K):=by
 intro pins s σ H x y v u Q I rx ry h
 obtain⟨a,b,ns,ms,rfl,rfl,ha,hb,q⟩:=h
 cases rx
 cases ry
 obtain⟨AB,r1,p1,_⟩:=I.tuple ha
 obtain⟨DT,r2,p2,_⟩:=I.tuple hb
 have i1:Du AB.toArray.toList ns:=intsAre_of r1
 have i2:Du DT.toArray.toList ms:=intsAre_of r2
 exact HT.wZ p1 p2 i1 i2 hu ⟨.bl (HT.lexLt ms ns),H,I,rfl,q⟩
end
def tI (ns:List Int):PyData:=.tuple (ns.map .int)
theorem i5:∀ns ms:List Int,PyData.eqvAll (ns.map .int) (ms.map .int)=decide (ns=ms)
 | [],[]=>by simp[PyData.eqvAll]
 | [],m::ms=>by simp[PyData.eqvAll]
 | n::ns,[]=>by simp[PyData.eqvAll]
 | n::ns,m::ms=>by
  rw[CP,CP,PyData.eqvAll,i5 ns ms,PyData.eqv]
  rw[Gz]
  simp
theorem i6 (ns ms:List Int):PyData.eqv (tI ns) (tI ms)=decide (ns=ms):=by
 unfold tI
 rw[PyData.eqv]
 exact i5 ns ms
theorem canLayAll_ints:∀ns:List Int,PyData.canLayAll0 (ns.map .int)=true
 | []=>rfl
 | n::ns=>by
  rw[CP,PyData.canLayAll0,canLayAll_ints ns]
  rfl
theorem X4 (ns:List Int):(tI ns).canLay0=true:=by
 unfold tI
 rw[PyData.canLay0]
 exact canLayAll_ints ns
theorem gu:∀Fg:List (List Int),PyData.canLayAll0 (Fg.map tI)=true
 | []=>rfl
 | m::ms=>by
  rw[CP,PyData.canLayAll0,gu ms,X4]
  rfl
theorem depthAll_ints:∀ns:List Int,PyData.depthAll (ns.map .int)=0
 | []=>rfl
 | n::ns=>by
  rw[CP,PyData.depthAll,depthAll_ints ns]
  rfl
theorem iU (ns:List Int):(tI ns).depth=1:=by
 unfold tI
 rw[PyData.depth,depthAll_ints]
theorem ow (ns:List Int):SeqAt.shaped (tI ns)=true:=by
 unfold SeqAt.shaped
 rw[X4,iU]
 rfl
theorem ic {K:AW} {H:Hp}:∀ns:List Int,J7 K H (ns.map V.int) (ns.map .int)
 | []=>.nil
 | n::r=>.cons (.int n) (ic r)
theorem Ta {K:AW} {H:Hp} {a:AA} {ns:List Int} (h:Ap K H a (ns.map V.int)):Dp K H (.ref a) (tI ns):=.tup h (ic ns)
def Xq (K:AW) (H:Hp) (as:List AA) (Fg:List (List Int)):Prop:=Ar (fun a ms=>Ap K H a (ms.map V.int)) as Fg
theorem ie {K:AW} {H:Hp}:∀{as:List AA} {Fg:List (List Int)},Xq K H as Fg->J7 K H (as.map V.ref) (Fg.map tI)
 | _,_,.nil=>.nil
 | _,_,.cons h t=>.cons (Ta h) (ie t)
section
variable {X:Cx}
def ACT (K:AW) (neg:Bool):R2:=fun x y H Q=>∃(a b:AA) (ns ms:List Int),x= .ref a/\y= .ref b/\Ap K H a (ns.map V.int)/\Ap K H b (ms.map V.int)/\Q (.bl (if neg then !decide (ns=ms) else decide (ns=ms))) H
theorem ABm (hu:X.A.units+64 < cLine):C7 X (D0 .NotEq) (ACT X.K true):=by
 intro pins s σ H x y v u Q I rx ry h
 obtain⟨a,b,ns,ms,rfl,rfl,ha,hb,q⟩:=h
 exact ABl hu pins s σ H _ _ v u Q I rx ry ⟨tI ns,tI ms,Ta ha,Ta hb,ow _,ow _,by rw[i6];exact q⟩
def ACX (K:AW) (neg:Bool):R2:=fun x y H Q=>∃a p as ns Fg,x= .ref a/\y= .ref p/\Ap K H a (ns.map V.int)/\AQ K H p (as.map V.ref)/\Xq K H as Fg/\
 Q (.bl (if neg then !Fg.any (fun ms=>decide (ms=ns)) else Fg.any (fun ms=>decide (ms=ns)))) H
theorem fq (ns:List Int):∀Fg:List (List Int),(Fg.map tI).any (fun y=>PyData.eqv y (tI ns))=Fg.any fun ms=>decide (ms=ns)
 | []=>rfl
 | m::r=>by rw[CP,KH,KH,i6,fq ns r]
theorem ABk (hu:X.A.units+64 < cLine):C7 X (D0 .In) (ACX X.K false):=by
 intro pins s σ H x y v u Q I rx ry h
 obtain⟨a,p,as,ns,Fg,rfl,rfl,ha,hp,ht,q⟩:=h
 obtain⟨b1,r1⟩:=Dp.reads I (tI ns) _ v (Ta ha) rx
 obtain⟨b2,r2⟩:=Dp.reads I (.list (Fg.map tI)) _ u (.lst hp (ie ht)) ry
 refine SeqAt.in_list_reads r2 r1 (gu Fg) (X4 ns) ?_ ⟨.bl _,H,I,rfl,?_⟩
 . rw[iU]
   have:=eP (PyData.depthAll (Fg.map tI)) 1
   lia
 . rw[fq]
   exact q
end
end L2
set_option maxHeartbeats 2000000
namespace L2
open PySem PySem.Spec PyProof.Rows
section
variable {X:Cx} {pins:List (AA×Aq)} {σ:St} {H:Hp} {s:AI}
abbrev Cx.at_ (X:Cx) (A:Bf) (E:AF->AI->Prop):Cx:={ X with A:=A,xe:=E }
theorem Inv.at_ {A:Bf} {E:AF->AI->Prop} (I:Inv X pins σ H s) (h1:A.handled=X.A.handled) (h2:A.frames=X.A.frames):Inv (X.at_ A E) pins σ H s:=
 ⟨⟨I.ok.mod,I.ok.kind,I.ok.glob,I.ok.blt,I.ok.above,I.ok.inj,I.ok.has,I.ok.cab,fun z=>h1.trans (I.ok.hd z),h2.trans I.ok.frames,I.ok.OO,I.ok.M8,I.ok.bs,I.ok.Hg,I.ok.L5,I.ok.Lf,I.ok.Gr,I.ok.Ji⟩,I.os,I.bare,I.base,I.loc,I.cell,I.free,I.Fw,I.pin,I.hok,I.len⟩
theorem Inv.AAT {A:Bf} {E:AF->AI->Prop} (I:Inv (X.at_ A E) pins σ H s) (h1:A.handled=X.A.handled) (h2:A.frames=X.A.frames):Inv X pins σ H s:=
 ⟨⟨I.ok.mod,I.ok.kind,I.ok.glob,I.ok.blt,I.ok.above,I.ok.inj,I.ok.has,I.ok.cab,fun z=>h1.symm.trans (I.ok.hd z),h2.symm.trans I.ok.frames,I.ok.OO,I.ok.M8,I.ok.bs,I.ok.Hg,I.ok.L5,I.ok.Lf,I.ok.Gr,I.ok.Ji⟩,I.os,I.bare,I.base,I.loc,I.cell,I.free,I.Fw,I.pin,I.hok,I.len⟩
theorem Inv.track {a:AA} {o:HO} (I:Inv X pins σ H s) (hf:DL X pins H a) (h0:X.s_0.heap.objs.size<=a) (new:DB X.prog X.w (upd H a o) s.heap a o):Inv X pins σ (upd H a o) s:=by
 obtain⟨f0,f1,f2,f3,f4,f5⟩:=hf
 have ne0:∀b ob,X.s_0.heap.get? b=some ob->b≠a:=fun b ob e z=>by
  rw[z] at e
  exact absurd (E3 (Bs e) h0) (Hc _)
 refine⟨I.ok,I.os,I.bare,⟨I.base.keep,I.base.slot,fun b ob e n hx=>?_,I.base.there,fun b xs e=>?_,fun b ob x e=>?_,fun b ps e=>?_⟩,I.loc,I.cell,?_,fun x c e=>?_,fun p hp=>?_,fun b ob e=>?_,I.len⟩
 . rw[AV (ne0 b ob e)];exact I.base.free b ob e n hx
 . have q:=I.base.tups b xs e
   rw[AV (BF q f0)];exact q
 . have q:=I.base.Hh b ob x e
   rw[AV (BF q f0)];exact q
 . obtain⟨m,q⟩:=I.base.JQ b ps e
   exact⟨m,by rw[AV (BF q f0)];exact q⟩
 . rw[AV (Ne.symm f1)];exact I.free
 . rw[AV (f4 x c e)];exact I.Fw x c e
 . obtain⟨e,n,r⟩:=I.pin p hp
   exact⟨e,by rw[AV (f5 p hp)];exact n,r⟩
 . by_cases hb:b=a
   . subst hb
     rw[AO] at e
     cases e
     exact new
   . rw[AV hb] at e
     exact (I.hok b ob e).stay (fun _ _ _ q=>q) (fun c q=>by rw[AV (BF q f0)];exact q) fun c xs q=>by rw[AV (BF q f0)];exact q
theorem DL.at_ {H':Hp} {b:AA} (h:DL X pins H b) (n:H' b=none):DL X pins H' b:=⟨n,h.2⟩
end
theorem Paired.perm {α β:Type} {R:α->β->Prop} {m m':List β} (p:List.Perm m' m):∀{l:List α},Ar R l m->∃l',List.Perm l' l/\Ar R l' m':=by
 induction p with
 | nil=>exact fun h=>⟨_,LK _,h⟩
 | cons x p ih=>
  intro l h
  cases h with
  | cons r t=>
   obtain⟨l',p',t'⟩:=ih t
   exact⟨_,p'.cons _,.cons r t'⟩
 | swap x y l=>
  intro l0 h
  cases h with
  | cons r t=>
   cases t with
   | cons r' t'=>exact⟨_,dw _ _ _,.cons r' (.cons r t')⟩
 | trans p1 p2 ih1 ih2=>
  intro l h
  obtain⟨l1,q1,h1⟩:=ih2 h
  obtain⟨l2,q2,h2⟩:=ih1 h1
  exact⟨l2,q2.trans q1,h2⟩
theorem Paired.zip2 {α β γ δ:Type} {R:α->β->Prop} {S:γ->δ->Prop}:∀{a:List α} {b:List β} {c:List γ} {d:List δ},Ar R a b->Ar S c d->Ar (fun (p:α×γ) (q:β×δ)=>R p.1 q.1/\S p.2 q.2) (a.zip c) (b.zip d)
 | _,_,_,_,.nil,_=>by
  rw[eL,eL]
  exact .nil
 | _,_,_,_,.cons _ _,.nil=>by
  rw[eM,eM]
  exact .nil
 | _,_,_,_,.cons r t,.cons s u=>by
  rw[XW,XW]
  exact .cons ⟨r,s⟩ (Paired.zip2 t u)
theorem Paired.get? {α β:Type} {R:α->β->Prop}:∀{l:List α} {m:List β} {i:Nat} {y:β},Ar R l m->m[i]? =some y->∃x,l[i]? =some x/\R x y
 | _,_,_,_,.nil,e=>by simp at e
 | _,_,0,_,.cons r _,e=>by simp at e;subst e;exact⟨_,rfl,r⟩
 | _,_,i+1,y,.cons _ t,e=>by
  obtain⟨x,h1,h2⟩:=Paired.get? (i:=i) (y:=y) t (by simpa using e)
  exact⟨x,by simpa using h1,h2⟩
theorem Paired.len {α β:Type} {R:α->β->Prop}:∀{l:List α} {m:List β},Ar R l m->l.length=m.length
 | _,_,.nil=>rfl
 | _,_,.cons _ t=>by rw[BO,BO,Paired.len t]
def Fy:Nat->Bool:=fun _=>false
theorem pX:∀{vs:List AF} {ns:List Int} (i:Nat),Du vs ns->tupItems Fy i vs=some (ns.map Di)
 | _,_,_,.nil=>rfl
 | _,_,i,.cons n t h=>by
  show (if Fy i=true then none else (tupItems Fy (i+1) _).map (Di n:: ·))=_
  rw[if_neg (by unfold Fy;exact Bw),pX (i+1) h]
  rfl
theorem lW:∀ns ms:List Int,PyProof.Rows.lexLt itemOrd (ns.map Di) (ms.map Di)=HT.lexLt ns ms
 | [],[]=>rfl
 | [],_::_=>rfl
 | _::_,[]=>rfl
 | n::ns,m::ms=>by
  rw[CP,CP,HT.UY]
  by_cases e:n=m
  . subst e
    rw[if_pos rfl,lex_self,lW ns ms]
  . rw[if_neg e,lex_diff (fun z=>e (Xp z))]
    rfl
def Hw (h:Ae) (ns:List Int) (u:AF):Prop:=∃a AB,u= .ref a/\IsTup h a AB/\Du AB.toList ns
theorem Hw.key {h:Ae} {ns:List Int} {u:AF} (t:Hw h ns u):G.tupKeyC h Fy u=some (ns.map Di):=by
 obtain⟨a,AB,rfl,⟨o,ho,hc,n,hd⟩,hi⟩:=t
 have e1:G.isTupObj h (.ref a)=true:=by
  unfold G.isTupObj
  simp only[ho,hc]
  rfl
 unfold G.tupKeyC
 rw[if_pos e1]
 unfold tupKey
 simp only[ho,hd]
 exact pX 0 hi
theorem Hw.AER {h:Ae} {n:Int} {ns:List Int} {u:AF} (t:Hw h (n::ns) u):∃f,TupOf h Fy u f:=by
 obtain⟨a,AB,rfl,⟨o,ho,hc,k,hd⟩,hi⟩:=t
 cases hq:AB.toList with
 | nil=>rw[hq] at hi;cases hi
 | cons v r=>
  rw[hq] at hi
  cases hi with
  | cons n t hi'=>
   refine⟨.int n t,a,o,AB,k,rfl,ho,hc,hd,?_,fun _=>⟨n,t,rfl⟩,fun z=>absurd z Bw⟩
   rw[<-J5,hq]
   rfl
theorem pY {h:Ae}:∀{us:List AF} {nss:List (List Int)},Ar (Hw h) nss us->(∀ns∈nss,ns≠[])->∃fs,TupsOf h Fy us fs
 | _,_,.nil,_=>⟨[],.nil⟩
 | _,_,.cons r t,BX=>by
  obtain⟨fs,hf⟩:=pY t fun ns hn=>BX ns (B2 _ hn)
  rename_i ns _ u _
  cases ns with
  | nil=>exact absurd rfl (BX [] (Bl))
  | cons n r'=>
   obtain⟨f,hf'⟩:=r.AER
   exact⟨f::fs,.cons hf' hf⟩
end L2
set_option maxHeartbeats 4000000
namespace L2
open PySem PySem.Spec PyProof.Rows
section
variable {X:Cx} {pins pl:List (AA×Aq)} {σ:St} {H:Hp} {s:AI}
def Ol (sp:Sp) (H:Hp) (x:V) (ns:List Int):Prop:=
 ∀(H1:Hp) (Q:VK),Same H H1->(∀H2 p,Same H1 H2->H2 p=some (.tup (ns.map V.int))->Q (.ref p) H2)->sp [x] H1 Q E0
theorem Inv.oJ {b:AA} {o o':Aq} {h':Ae} (I:Inv X (pl++[(b,o)]) σ H s) (hf:DL X pl H b) (sb:Fn b s.heap h') (hg:h'.get? b=some o') (hd:∀v,o'.data≠ .cell v) (t':Nat):
 Inv X (pl++[(b,o')]) σ H { s with heap:=h',toks:=t' }:=by
 have I0:Inv X pl σ H s:=I.MP
 have I1:Inv X pl σ H { s with heap:=h',toks:=t' }:=I0.turned (fun c oc hc e=>(sb.2 c hc).trans e) hf.1 hf.2.1 hf.2.2.2.1 hf.2.2.2.2.1 hf.2.2.2.2.2
 refine I1.Ux fun p hp=>?_
 rcases D8.mp hp with z | z
 . exact I1.pin p (DM _ z)
 . have e:p=(b,o'):=by simpa using z
   subst e
   exact⟨hg,hf.1,hf.2.1,hf.2.2.1,hd⟩
theorem DL.more {b c:AA} {o:Aq} (hf:DL X pins H b) (ne:c≠b):DL X (pins++[(c,o)]) H b:=
 ⟨hf.1,hf.2.1,hf.2.2.1,hf.2.2.2.1,hf.2.2.2.2.1,fun p hp=>by
  rcases D8.mp hp with z | z
  . exact hf.2.2.2.2.2 p (Ht _ z)
  . rcases D8.mp z with z | z
    . exact hf.2.2.2.2.2 p (DM _ z)
    . have e:p=(c,o):=by simpa using z
      subst e
      exact ne⟩
theorem Inv.nh {b:AA} {o:Aq} (I:Inv X pins σ H s) (hf:DL X pins H b) (hg:s.heap.get? b=some o) (hd:∀v,o.data≠ .cell v):Inv X (pins++[(b,o)]) σ H s:=by
 refine I.Ux fun p hp=>?_
 rcases D8.mp hp with z | z
 . exact I.pin p (DM _ z)
 . have e:p=(b,o):=by simpa using z
   subst e
   exact⟨hg,hf.1,hf.2.1,hf.2.2.1,hd⟩
theorem Inv.AES {p:AA} {ns:List Int} (I:Inv X pins σ H s) (h:H p=some (.tup (ns.map V.int))):Hw s.heap ns (.ref p):=by
 obtain⟨AB,r,t,_⟩:=I.tuple (Ap.of (K:=X.K) h)
 exact⟨p,AB.toArray,rfl,t,intsAre_of r⟩
theorem V5 {n:String} {xs:Array AF} {k:Nat} (v:Option AF):(Bu n xs k).data≠ .cell v:=fun z=>by
 have z':SX xs k=Data.cell v:=z
 cases z'
theorem ADc {h:Ae} {nss:List (List Int)} {xs:List V} {keys:Array AF} {vs:List AF} {out:Array Keyed} (hk:Ar (Hw h) nss keys.toList) (hv:Vals xs vs)
 (hp:out.Perm (keys.zip vs.toArray)) (hs:SortedToK (G.tupKindC h Fy) out (keys.zip vs.toArray).size):
 ∃ps:List (List Int×V),ps.Perm (nss.zip xs)/\ps.Pairwise (fun p q=>HT.lexLt q.1 p.1=false)/\Vals (ps.map (·.2)) (out.map (·.2)).toList:=by
 have hl:out.toList.Perm (keys.toList.zip vs):=by rw[<-ksk_zip];exact Array.perm_iff_toList_perm.mp hp
 obtain⟨ps,h1,h2⟩:=Paired.perm hl (Paired.zip2 hk hv)
 refine⟨ps,h1,?_,?_⟩
 . rw[List.pairwise_iff_getElem]
   intro i j hi hj hij
   have BV:=Paired.len h2
   have hsz:out.size=(keys.zip vs.toArray).size:=hp.size_eq
   have hi':i < out.size:=by rw[<-E1];lia
   have hj':j < out.size:=by rw[<-E1];lia
   have e1:out.toList[i]? =some (out.toList[i]'(by rw[E1];exact hi')):=DU _
   have e2:out.toList[j]? =some (out.toList[j]'(by rw[E1];exact hj')):=DU _
   obtain⟨a,ha,ra⟩:=Paired.get? h2 e1
   obtain⟨b,hb,rb⟩:=Paired.get? h2 e2
   have ea:ps[i]=a:=CL ((DU hi).symm.trans ha)
   have eb:ps[j]=b:=CL ((DU hj).symm.trans hb)
   have q:=hs i j (Ic hij) (by rw[<-hsz];exact hj')
   have ka:KK (G.tupKindC h Fy) out i=a.1.map Di:=by
    unfold KK
    rw[<-J5,e1]
    show (G.tupKeyC h Fy _).getD _=_
    rw[ra.1.key]
    rfl
   have kb:KK (G.tupKindC h Fy) out j=b.1.map Di:=by
    unfold KK
    rw[<-J5,e2]
    show (G.tupKeyC h Fy _).getD _=_
    rw[rb.1.key]
    rfl
   rw[ka,kb] at q
   have q':PyProof.Rows.lexLt itemOrd (b.1.map Di) (a.1.map Di)=false:=q
   rw[lW] at q'
   rw[ea,eb]
   exact q'
 . rw[Array.toList_map]
   have go:∀{l:List (List Int×V)} {m:List Keyed},Ar (fun (p:List Int×V) (q:AF×AF)=>Hw h p.1 q.1/\RelV p.2 q.2) l m->Vals (l.map (·.2)) (m.map (·.2)):=by
    intro l m hh
    induction hh with
    | nil=>exact .nil
    | cons r t ih=>exact .cons r.2 ih
   exact go h2
theorem ADe {D kS:AA} {e1:Nat} {keys:Array AF} {e:Nat} {st:SortSt} {P:fM->AI->Prop} {E:AF->AI->Prop} {A:Bf}
 (I:Inv X ((pins++[(D,Bu "list" #[] e1)])++[(kS,Bu "list" keys e)]) σ H s) (Iz:DL X pins H D) (hfk:DL X pins H kS) (BX:D≠kS) (h0:X.s_0.heap.objs.size<=D) (hz:keys.size<=AZ)
 (hfl:failedOf st=none) {ys:List V} (hy:Vals ys ((arrOf st).map (·.2)).toList) (hl:ys.length<=AZ)
 (h:∀h' tk,Inv X pins σ (upd H D (.lst ys)) { s with heap:=h',toks:=tk }->P (.done (.ret .none)) { s with heap:=h',toks:=tk }):
 AU (AY X.prog X.w) A (ksk_tail D false e1 (.ref kS) st) P E s:=by
 have nk:=(I.pin (kS,Bu "list" keys e) (DM _ (DM _ (.head _)))).1
 have nd:=(I.pin (D,Bu "list" #[] e1) (DM _ (Ht _ (DM _ (.head _))))).1
 have s1:=G6 s.heap kS (DP fun _=>(#[]:Array AF))
 obtain⟨ck,hck⟩:∃ck,(s.heap.update kS (DP fun _=>(#[]:Array AF))).get? kS=some (Bu "list" #[] ck):=⟨_,Yt nk fun _=> #[]⟩
 have Nn:(s.heap.update kS (DP fun _=>(#[]:Array AF))).get? D=some (Bu "list" #[] e1):=(s1.2 D BX).trans nd
 have I1:=I.oJ (hfk.more BX) s1 hck (fun v=>V5 v) s.toks
 have I2:=I1.MP.MP
 have hout:((arrOf st).map (·.2)).size<=AZ:=by rw[<-E1,<-hy.length];exact hl
 have s2:=G6 (s.heap.update kS (DP fun _=>(#[]:Array AF))) D (DP fun _=>(arrOf st).map (·.2))
 obtain⟨c2,hc2⟩:∃c2,((s.heap.update kS (DP fun _=>(#[]:Array AF))).update D (DP fun _=>(arrOf st).map (·.2))).get? D=some (Bu "list" ((arrOf st).map (·.2)) c2):=⟨_,Yt Nn fun _=>(arrOf st).map (·.2)⟩
 unfold ksk_tail
 try dsimp only
 refine AJ (Ua nk rfl ?_ (BP hz (Aj _)) (Ci _))
 refine AJ (SK ?_)
 refine AJ (seqEpoch_at Nn rfl ?_)
 simp only[Cg,if_false]
 refine AJ (Ua Nn rfl ?_ (Ci _) (BP hout (Gi _)))
 rw[hfl]
 simp only[bne_self_eq_false,Cg,if_false]
 refine Ai (h _ s.toks ?_)
 have I3:Inv X pins σ H { s with heap:=(s.heap.update kS (DP fun _=>(#[]:Array AF))).update D (DP fun _=>(arrOf st).map (·.2)),toks:=s.toks }:=
  I2.turned (t':=s.toks) (fun b o hb e=>(s2.2 b hb).trans e) Iz.1 Iz.2.1 Iz.2.2.2.1 Iz.2.2.2.2.1 Iz.2.2.2.2.2
 refine I3.track Iz h0 ⟨hl,((arrOf st).map (·.2)).toList,c2,hy,?_⟩
 rw[dN]
 exact hc2
theorem zA {h:Ae} {nss:List (List Int)} {keys:Array AF} {vs:List AF} (hk:Ar (Hw h) nss keys.toList):KeysOf (G.tupKindC h Fy) (keys.zip vs.toArray):=by
 intro p hp
 rw[ksk_zip] at hp
 have hm:p.1∈keys.toList:=(XS (a:=p.1) (b:=p.2) hp).1
 obtain⟨i,hi⟩:=Mb hm
 obtain⟨ns,_,r⟩:=Paired.get? hk hi
 exact⟨_,r.key⟩
theorem ADb {D kS:AA} {e1:Nat} {keys:Array AF} {e:Nat} {vs:List AF} {xs:List V} {nss:List (List Int)} {P:fM->AI->Prop} {E:AF->AI->Prop} {A:Bf}
 (I:Inv X ((pins++[(D,Bu "list" #[] e1)])++[(kS,Bu "list" keys e)]) σ H s) (Iz:DL X pins H D) (hfk:DL X pins H kS) (BX:D≠kS) (h0:X.s_0.heap.objs.size<=D)
 (hv:Vals xs vs) (hk:Ar (Hw s.heap) nss keys.toList) (hn:nss.length=xs.length) (hnn:∀ns∈nss,ns≠[]) (hl:xs.length<=AZ)
 (h:∀(ps:List (List Int×V)) h' tk,ps.Perm (nss.zip xs)->ps.Pairwise (fun p q=>HT.lexLt q.1 p.1=false)->Inv X pins σ (upd H D (.lst (ps.map (·.2)))) { s with heap:=h',toks:=tk }->P (.done (.ret .none)) { s with heap:=h',toks:=tk }):
 AU (AY X.prog X.w) A (ksk_end D false vs.toArray e1 (.ref kS) keys) P E s:=by
 have hvl:=hv.length
 have hsz:keys.size=vs.length:=by rw[<-E1,<-Paired.len hk];lia
 have hzs:(keys.zip vs.toArray).size=vs.length:=by rw[Array.size_zip,hsz,Cp,eQ]
 have fin:∀(st:SortSt),(arrOf st).Perm (keys.zip vs.toArray)->SortedToK (G.tupKindC s.heap Fy) (arrOf st) (keys.zip vs.toArray).size->failedOf st=none->AU (AY X.prog X.w) A (ksk_tail D false e1 (.ref kS) st) P E s:=by
  intro st hp hs hf
  obtain⟨ps,p1,p2,p3⟩:=ADc hk hv hp hs
  have Cr:ps.length=xs.length:=by rw[p1.length_eq,LM];lia
  exact ADe I Iz hfk BX h0 (by rw[hsz,<-hvl];exact hl) hf p3 (by rw[AR,Cr];exact hl) fun h' tk I'=>h ps h' tk p1 p2 I'
 unfold ksk_end
 try dsimp only
 simp only[Cg,if_false]
 by_cases h2:vs.toArray.size < 2
 . rw[if_pos h2,if_pos h2]
   refine AJ (Ai ?_)
   rw[StateT.run_pure]
   refine AJ (Ai ?_)
   try dsimp only
   refine fin (SortSt.mk' general' (keys.zip vs.toArray) #[] 7 none) (Array.Perm.refl _) ?_ rfl
   intro i j hij hj
   rw[hzs] at hj
   rw[Cp] at h2
   have:i=j:=by lia
   subst this
   exact KeyOrd.kle_refl _
 . rw[if_neg h2,if_neg h2]
   rw[Cp] at h2
   obtain⟨fs,hfs⟩:=pY hk hnn
   have hfl:0 < fs.length:=by
    rw[G.TupsOf.length hfs,E1,hsz]
    lia
   have hkk:AU (AY X.prog X.w) A (keyKind' keys.toList.toArray) (fun κ s'=>κ=tuples' true/\s'=s) E s:=tup_kind hfl hfs ⟨rfl,rfl⟩
   rw[dN] at hkk
   refine AJ (FR hkk (fun κ s' hq=>?_) fun _ _ x=>x)
   obtain⟨rfl,rfl⟩:=hq
   refine AJ (FR (G.wpS_sortRunsSt (κ:=G.tupKindC s'.heap Fy) (kd:=tuples' true) (a₀:=keys.zip vs.toArray) (st:=SortSt.mk' (tuples' true) (keys.zip vs.toArray) #[] 7 none)
    (Q:=fun _ st'=>(arrOf st').Perm (keys.zip vs.toArray)/\failedOf st'=none/\SortedToK (G.tupKindC s'.heap Fy) (arrOf st') (keys.zip vs.toArray).size)
    (G.tupC_ltAt true (G.KeepsTups.refl _)) (zA hk) ⟨Array.Perm.refl _,rfl,rfl⟩ rfl (Stable.refl _) (by rw[hzs];lia) fun st' a1 a2 a3 _=>⟨a1,a2,a3⟩) ?_ fun _ _ e=>e)
   rintro⟨⟨⟩,st'⟩ s'' ⟨rfl,hp,hf,hs⟩
   try dsimp only
   exact fin st' hp hs hf
theorem ADd {CX:FT} {k:Nat} {f:AA} {fd:A2} {par:AG} {sp:Sp} {D kS:AA} {e1:Nat} {vs:List AF} {xs:List V} {nss:List (List Int)} {P:fM->AI->Prop} {E:AF->AI->Prop}
 (F:Aa X.prog X.w X.K X.mg X.base Ag k f fd [par] sp) (hr:BW k X.A) (hb:Binds X.K fd [par] []) (UQ:X.xe=fun _ _=>False)
 (I:Inv X ((pins++[(D,Bu "list" #[] e1)])++[(kS,Bu "list" #[] 0)]) σ H s) (Iz:DL X pins H D) (hfk:DL X pins H kS) (BX:D≠kS) (h0:X.s_0.heap.objs.size<=D)
 (hv:Vals xs vs) (hk:Ar (fun ns x=>Ol sp H x ns) nss xs) (hnn:∀ns∈nss,ns≠[]) (hl:xs.length<=AZ)
 (h:∀(ps:List (List Int×V)) (H':Hp) s',Same H H'->ps.Perm (nss.zip xs)->ps.Pairwise (fun p q=>HT.lexLt q.1 p.1=false)->H' D=none->Inv X pins σ (upd H' D (.lst (ps.map (·.2)))) s'->P (.done (.ret .none)) s'):
 AU (AY X.prog X.w) X.A (ksk_rest D (.ref f) false vs.toArray e1 (.ref kS)) P E s:=by
 have hn:=Paired.len hk
 have hvl:=hv.length
 unfold ksk_rest
 refine AJ (Wv ?_)
 rw[List.forIn_toArray]
 refine AJ (ksk_fold (fun i s'=>∃(H':Hp) (kA:Array AF) (e:Nat) (as:List AA),Inv X ((pins++[(D,Bu "list" #[] e1)])++[(kS,Bu "list" kA e)]) σ H' s'/\Same H H'/\kA.toList=as.map Cv/\
  Ar (fun (ns:List Int) (p:AA)=>H' p=some (.tup (ns.map V.int))) (nss.take i) as) vs 0 s
  ⟨H,#[],0,[],I,Same.refl H,rfl,by rw[Ou];exact .nil⟩ ?step ?done)
 case step=>
  rintro j u s' hu ⟨H',kA,e,as,I',sm,UE,EW⟩
  simp only[LR] at EW ⊢
  obtain⟨x,hx,rx⟩:=Paired.get? hv hu
  obtain⟨ns,hns,kf⟩:=Paired.get? hk hx
  have pD:∀{Hs:Hp},(∃o,Hs D=some o)->Hs D≠none:=fun ⟨o,e⟩ z=>by rw[e] at z;cases z
  have run:=RY (X:=X) (E:=E0) (us:=[u]) (vs:=[x]) (D1:=[]) (ds:=[]) F hr hb .nil CV I' (.cons rx .nil)
   (Q:=fun v Hs=>∃p,v= .ref p/\Same H' Hs/\Hs p=some (.tup (ns.map V.int))) (kf H' _ sm fun H2 p s2 hp=>⟨p,rfl,s2,hp⟩)
  refine AJ (K6 (FR run (fun v s'' he=>?_) fun _ _ hF=>?_))
  . obtain⟨v',Hs,W9,rv,p,rfl,oy,hp⟩:=he
    cases rv
    try dsimp only
    have nk:=(W9.pin (kS,Bu "list" kA e) (DM _ (DM _ (.head _)))).1
    have xM:Hs kS=none:=(W9.pin (kS,Bu "list" kA e) (DM _ (DM _ (.head _)))).2.1
    have s1:=G6 s''.heap kS (DP (·.push (Cv p)))
    obtain⟨c2,hc2⟩:∃c2,(s''.heap.update kS (DP (·.push (Cv p)))).get? kS=some (Bu "list" (kA.push (.ref p)) c2):=⟨_,Yt nk (·.push (Cv p))⟩
    have hj:j < vs.length:=(Fo.mp hu).1
    have hkl:kA.size<=vs.length:=by
     rw[<-E1,UE,AR,<-Paired.len EW,Ct]
     lia
    have Nb:vs.length<=AZ:=by lia
    refine AJ (Ua nk rfl ?_ (BP hkl (BP Nb (Aj _))) (BP (JZ (Array.size_push ..)) (by lia)))
    refine Ai ⟨rfl,Hs,kA.push (.ref p),c2,as++[p],W9.oJ ((hfk.at_ xM).more BX) s1 hc2 (fun v=>V5 v) s''.toks,sm.trans oy,?_,?_⟩
    . rw[dP,UE,Ba]
      rfl
    . have ek:nss.take (j+1)=nss.take j++[ns]:=by rw[XU,hns];rfl
      rw[ek]
      have up:Ar (fun (ns:List Int) (p:AA)=>Hs p=some (.tup (ns.map V.int))) (nss.take j) as:=Paired.Be EW fun a b q=>oy _ _ q
      have app:∀{l1:List (List Int)} {m1:List AA},Ar (fun (ns:List Int) (p:AA)=>Hs p=some (.tup (ns.map V.int))) l1 m1->Ar (fun (ns:List Int) (p:AA)=>Hs p=some (.tup (ns.map V.int))) (l1++[ns]) (m1++[p]):=by
       intro l1 m1 hh
       induction hh with
       | nil=>exact .cons hp .nil
       | cons r t ih=>exact .cons r ih
      exact app up
  . rw[UQ] at hF
    exact hF.elim
 case done=>
  rintro s' ⟨H',kA,e,as,I',sm,UE,EW⟩
  have e3:nss.take (0+vs.length)=nss:=DN (by lia)
  rw[e3] at EW
  have nk:=(I'.pin (kS,Bu "list" kA e) (DM _ (DM _ (.head _)))).1
  have nD:H' D=none:=(I'.pin (D,Bu "list" #[] e1) (DM _ (Ht _ (DM _ (.head _))))).2.1
  have nK:H' kS=none:=(I'.pin (kS,Bu "list" kA e) (DM _ (DM _ (.head _)))).2.1
  try dsimp only
  refine AJ (Zr nk rfl ?_)
  refine ADb I' (Iz.at_ nD) (hfk.at_ nK) BX h0 hv ?_ hn hnn hl fun ps h' tk p1 p2 I3=>h ps H' _ sm p1 p2 nD I3
  rw[UE]
  have go:∀{l:List (List Int)} {m:List AA},Ar (fun (ns:List Int) (p:AA)=>H' p=some (.tup (ns.map V.int))) l m->Ar (Hw s'.heap) l (m.map Cv):=by
   intro l m hh
   induction hh with
   | nil=>exact .nil
   | cons r t ih=>exact .cons (I'.AES r) ih
  exact go EW
theorem ADa {k:Nat} {f a:AA} {fd:A2} {par:AG} {sp:Sp} {xs:List V} {nss:List (List Int)} {Q:VK}
 (F:Aa X.prog X.w X.K X.mg X.base Ag k f fd [par] sp) (hr:BW (k+2) X.A) (hb:Binds X.K fd [par] [])
 (I:Inv X pins σ H s) (hs:AQ X.K H a xs) (hk:Ar (fun ns x=>Ol sp H x ns) nss xs) (hnn:∀ns∈nss,ns≠[])
 (h:∀(ps:List (List Int×V)) (H':Hp) (D:AA),Same H H'->ps.Perm (nss.zip xs)->ps.Pairwise (fun p q=>HT.lexLt q.1 p.1=false)->H' D=none->Q (.ref D) (upd H' D (.lst (ps.map (·.2))))):
 AU (AY X.prog X.w) X.A (call (.builtin "sorted") [.ref a] [(Eh "key",.ref f)]) (EP X pins σ Q) X.xe s:=by
 obtain⟨vs,rv,Cr,hz⟩:=I.list hs
 have hl:s.heap.IsList a vs.toArray:=Cr.isList
 have hvl:=rv.length
 have Nb:vs.length<=AZ:=by lia
 refine call_function_entry_kw kind_sorted plain_sorted entry_sorted (ksk_s1 _ _) ?_
 unfold Ed.«sorted»
 refine AJ (m:=checkCount "sorted" 1 1 _) (Ai ?_)
 refine AJ (collect_list hl ?_ Nb)
 refine AJ (qH ?_ Nb)
 have hsz:((s.heap.push (Bu "list" #[] 0)).update s.heap.objs.size (DP (· ++vs.toArray))).objs.size=s.heap.objs.size+1:=by
  rw[Heap.size_update,ML]
 have hoL:(((s.heap.push (Bu "list" #[] 0)).update s.heap.objs.size (DP (· ++vs.toArray))).push (Bu "list" vs.toArray 0)).get? (s.heap.objs.size+1)=some (Bu "list" vs.toArray 0):=by
  rw[<-hsz];exact Ck _ rfl
 have keep:∀b o,s.heap.get? b=some o->(((s.heap.push (Bu "list" #[] 0)).update s.heap.objs.size (DP (· ++vs.toArray))).push (Bu "list" vs.toArray 0)).get? b=some o:=fun b o q=>by
  have A1:b < s.heap.objs.size:=Bs q
  rw[Heap.get?_push_ne _ _ _ (by rw[hsz];exact C4 (G8 A1)),Heap.get?_update_ne _ _ _ _ (C4 A1),Heap.get?_push_ne _ _ _ (C4 A1)]
  exact q
 show AU _ _ _ _ _ { s with heap:=((s.heap.push (Bu "list" #[] 0)).update s.heap.objs.size (DP (· ++vs.toArray))).push (Bu "list" vs.toArray 0) }
 rw[hsz]
 generalize j6:((s.heap.push (Bu "list" #[] 0)).update s.heap.objs.size (DP (· ++vs.toArray))).push (Bu "list" vs.toArray 0)=h2 at hoL keep ⊢
 have hsz2:h2.objs.size=s.heap.objs.size+2:=by rw[<-j6,ML,hsz]
 refine AJ (HV (wpAny_call_entry_kw slot_list_sort ⟨_,hoL,rfl⟩ entry_list_sort ?body (ksk_l1 _ _)))
 case body=>
  show AU (AY X.prog X.w) X.A.in1.in1 (Ed.«list.sort» ⟨[.ref (s.heap.objs.size+1)],[(Eh "key",.ref f)]⟩) _ _ _
  rw[ksk_t1]
  have s1:=G6 h2 (s.heap.objs.size+1) (DP fun _=>(#[]:Array AF))
  obtain⟨e1,ho1⟩:∃e1,(h2.update (s.heap.objs.size+1) (DP fun _=>(#[]:Array AF))).get? (s.heap.objs.size+1)=some (Bu "list" #[] e1):=⟨_,Yt hoL fun _=> #[]⟩
  unfold ksk_tree
  refine AJ (Zr hoL rfl ?_)
  refine AJ (Ua hoL rfl ?_ (by rw[Cp];exact Nb) (Ci _))
  refine AJ (seqEpoch_at ho1 rfl ?_)
  refine AJ (qI ?_ (by show vs.length<=_;exact Nb))
  refine AJ (qH ?_ (Ci _))
  refine HV ?_
  have hk3:((h2.update (s.heap.objs.size+1) (DP fun _=>(#[]:Array AF))).push (Bu "tuple" vs.toArray 0)).objs.size=s.heap.objs.size+3:=by rw[ML,Heap.size_update,hsz2]
  have lI:∀b o,s.heap.get? b=some o->(((h2.update (s.heap.objs.size+1) (DP fun _=>(#[]:Array AF))).push (Bu "tuple" vs.toArray 0)).push (Bu "list" #[] 0)).get? b=some o:=fun b o q=>
   Bz _ (Bz _ ((s1.2 b (C4 (G8 (Bs q)))).trans (keep b o q)))
  have gD:(((h2.update (s.heap.objs.size+1) (DP fun _=>(#[]:Array AF))).push (Bu "tuple" vs.toArray 0)).push (Bu "list" #[] 0)).get? (s.heap.objs.size+1)=some (Bu "list" #[] e1):=Bz _ (Bz _ ho1)
  have gK:(((h2.update (s.heap.objs.size+1) (DP fun _=>(#[]:Array AF))).push (Bu "tuple" vs.toArray 0)).push (Bu "list" #[] 0)).get? (s.heap.objs.size+3)=some (Bu "list" #[] 0):=by
   rw[<-hk3];exact Ck _ rfl
  show AU (AY X.prog X.w) X.A.in1.in1 (ksk_rest (s.heap.objs.size+1) (.ref f) false vs.toArray e1 (.ref ((h2.update (s.heap.objs.size+1) (DP fun _=>(#[]:Array AF))).push (Bu "tuple" vs.toArray 0)).objs.size)) _ _ { s with heap:=((h2.update (s.heap.objs.size+1) (DP fun _=>(#[]:Array AF))).push (Bu "tuple" vs.toArray 0)).push (Bu "list" #[] 0) }
  rw[hk3]
  generalize hh3:((h2.update (s.heap.objs.size+1) (DP fun _=>(#[]:Array AF))).push (Bu "tuple" vs.toArray 0)).push (Bu "list" #[] 0)=h3 at lI gD gK ⊢
  have I1:Inv X pins σ H { s with heap:=h3 }:=I.kept (t':=s.toks) lI
  have fD:DL X pins H (s.heap.objs.size+1):=I.Iu (Gi _) (I.hok.fresh (Gi _))
  have fK:DL X pins H (s.heap.objs.size+3):=I.Iu (by lia) (I.hok.fresh (by lia))
  have mM:s.heap.objs.size+1≠s.heap.objs.size+3:=C4 (G8 (Hu _))
  have I2:=I1.nh fD gD (fun v=>V5 v)
  have I3:=I2.nh (fK.more mM) gK (fun v=>V5 v)
  have I4:Inv (X.at_ X.A.in1.in1 fun _ _=>False) ((pins++[(s.heap.objs.size+1,Bu "list" #[] e1)])++[(s.heap.objs.size+3,Bu "list" #[] 0)]) σ H { s with heap:=h3 }:=I3.at_ rfl rfl
  refine ADd (X:=X.at_ X.A.in1.in1 fun _ _=>False) (CX:=Ag) (k:=k) (fd:=fd) (par:=par) (sp:=sp) (xs:=xs) (nss:=nss) F (hr.in1.in1) hb rfl I4 fD fK mM (BP I.sz (Gi _)) rv hk hnn hz
   fun ps H' s' sm p1 p2 nD I5=>⟨_,rfl,Ai ⟨_,rfl,?_⟩⟩
  exact⟨.ref (s.heap.objs.size+1),_,I5.AAT rfl rfl,rfl,h ps H' _ sm p1 p2 nD⟩
def AEK (K:AW) (sp:Sp) (tl:TA):TE:=fun σ H Q=>tl σ H fun vs H1=>∃(a:AA) (xs:List V) (nss:List (List Int)),vs=[.ref a]/\AQ K H1 a xs/\Ar (fun ns x=>Ol sp H1 x ns) nss xs/\(∀ns∈nss,ns≠[])/\
 ∀(ps:List (List Int×V)) (H':Hp) (D:AA),Same H1 H'->ps.Perm (nss.zip xs)->ps.Pairwise (fun p q=>HT.lexLt q.1 p.1=false)->H' D=none->Q (.ref D) (upd H' D (.lst (ps.map (·.2))))
theorem ABw {k:Nat} {f:AA} {fd:A2} {par g:AG} {sp:Sp} {e:Az} {tl:TA} {p p2 kpos pos:Bt}
 (F:Aa X.prog X.w X.K X.mg X.base Ag k f fd [par] sp) (hr:BW (k+2) X.A) (hb:Binds X.K fd [par] []) (hg:Gl X "sorted") (hm:X.mg "sorted"=none) (hgf:Gl X g) (xi:X.mg g=some (.ref f)) (ha:PA X [e] tl)
 (hdb:(g==("__debug__":AG))=false:=by decide) (he:Bo [e] X.env=[(false,eval e X.env)]:=by rfl):PE X (.Call (.Name "sorted" p) [e] [⟨some "key",.Name g p2,kpos⟩] pos) (AEK X.K sp tl):=by
 intro pins s σ H Q I h
 refine K5 (JF I hg hm eh ?_)
 have hkw:(backToKw pos (Gs [⟨some "key",.Name g p2,kpos⟩] X.env)).filterMap (·.1)=[Eh "key"]:=rfl
 refine PyProof.Rows.callWith_kw (Bh (ha pos pins s σ H _ I h) fun us s1 vs H1 I1 r1 q1=>e8 (RD I1 hgf xi (e9 ?_) hdb)) ?_ ?_
 . obtain⟨a,xs,nss,rfl,hs,hk,hnn,q⟩:=q1
   rw[Vals.MC r1,hkw]
   exact ADa F hr hb I1 hs hk hnn q
 . rw[he];rfl
 . rw[he];rfl
end
abbrev LW (xs:Array Nat):Prop:=xs.toList.Pairwise (· < ·)
theorem RX {xs:Array Nat} (h:LW xs) {i j:Nat} {a b:Nat} (hij:i < j) (ha:xs[i]? =some a) (hb:xs[j]? =some b):a < b:=by
 rw[<-J5] at ha hb
 obtain⟨h1,e1⟩:=Fo.mp ha
 obtain⟨h2,e2⟩:=Fo.mp hb
 have q:=List.pairwise_iff_getElem.mp h i j h1 h2 hij
 rw[e1,e2] at q
 exact q
theorem Xw {xs:Array Nat} (h:LW xs) (j:Nat):∀(fuel lo hi:Nat),hi - lo<=fuel->lo<=hi->hi<=xs.size->(∀i a,i < lo->xs[i]? =some a->a < j)->(∀i a,hi<=i->xs[i]? =some a->j<=a)->
 (∀i a,i < SetTable.below.go xs j fuel lo hi->xs[i]? =some a->a < j)/\(∀i a,SetTable.below.go xs j fuel lo hi<=i->xs[i]? =some a->j<=a)/\SetTable.below.go xs j fuel lo hi<=xs.size
 | 0,lo,hi,hf,hl,hh,h1,h2=>by
  have e:lo=hi:=by lia
  subst e
  exact⟨h1,h2,hh⟩
 | fuel+1,lo,hi,hf,hl,hh,h1,h2=>by
  unfold SetTable.below.go
  by_cases A1:lo < hi
  . rw[if_pos A1]
    have hm:(lo+hi) / 2 < xs.size:=by lia
    have em:xs[(lo+hi) / 2]? =some (xs[(lo+hi) / 2]'hm):=IU hm
    have ed:xs.getD ((lo+hi) / 2) j=xs[(lo+hi) / 2]'hm:=by
     rw[dI,em]
     rfl
    dsimp only
    rw[ed]
    by_cases hc:xs[(lo+hi) / 2]'hm < j
    . rw[if_pos hc]
      refine Xw h j fuel _ _ (by lia) (by lia) hh (fun i a hi' ha=>?_) h2
      by_cases he:i=(lo+hi) / 2
      . subst he
        rw[em] at ha
        cases ha
        exact hc
      . exact Xa (RX h (by lia) ha em) hc
    . rw[if_neg hc]
      refine Xw h j fuel _ _ (by lia) (by lia) (by lia) h1 fun i a hi' ha=>?_
      by_cases he:i=(lo+hi) / 2
      . subst he
        rw[em] at ha
        cases ha
        lia
      . have:=RX h (show (lo+hi) / 2 < i by lia) em ha
        lia
  . rw[if_neg A1]
    have e:lo=hi:=by lia
    subst e
    exact⟨h1,h2,hh⟩
theorem gB {xs:Array Nat} (h:LW xs) (j:Nat):(∀i a,i < SetTable.below xs j->xs[i]? =some a->a < j)/\(∀i a,SetTable.below xs j<=i->xs[i]? =some a->j<=a)/\SetTable.below xs j<=xs.size:=by
 unfold SetTable.below
 exact Xw h j xs.size 0 xs.size (by lia) (Ci _) (Aj _) (fun i a hi _=>absurd hi (Oy i)) fun i a hi ha=>by
  have:=(dM.mp ha).1
  lia
theorem fz {xs:Array Nat} (h:LW xs) {j p:Nat} (h1:∀i a,i < p->xs[i]? =some a->a < j) (h2:∀i a,p<=i->xs[i]? =some a->j<=a) (hp:p<=xs.size):SetTable.below xs j=p:=by
 obtain⟨b1,b2,b3⟩:=gB h j
 rcases Nat.lt_trichotomy (SetTable.below xs j) p with q | q | q
 . have hq:SetTable.below xs j < xs.size:=E3 q hp
   have e:=IU hq
   have z1:=h1 _ _ q e
   have z2:=b2 _ _ (Aj _) e
   lia
 . exact q
 . have hq:p < xs.size:=E3 q b3
   have e:=IU hq
   have z1:=h2 _ _ (Aj _) e
   have z2:=b1 _ _ q e
   lia
theorem yg {α:Type} (xs:Array α) (p:Nat) (x:α):(SetTable.insertAt xs p x).toList=xs.toList.take p++x::xs.toList.drop p:=by
 unfold SetTable.insertAt
 simp
 exact DN (by simp)
theorem ACl {xs:Array Nat} (h:LW xs) {j:Nat} (hn:¬xs[SetTable.below xs j]? =some j):LW (SetTable.insertAt xs (SetTable.below xs j) j):=by
 obtain⟨b1,b2,b3⟩:=gB h j
 show (SetTable.insertAt xs (SetTable.below xs j) j).toList.Pairwise (· < ·)
 rw[yg]
 have ahead:∀a∈xs.toList.take (SetTable.below xs j),a < j:=fun a ha=>by
  obtain⟨i,hi⟩:=Mb ha
  rw[List.getElem?_take] at hi
  split at hi
  . rename_i A1
    exact b1 i a A1 (by rw[<-J5];exact hi)
  . cases hi
 have behind:∀a∈xs.toList.drop (SetTable.below xs j),j < a:=fun a ha=>by
  obtain⟨i,hi⟩:=Mb ha
  rw[List.getElem?_drop,J5] at hi
  have hle:=b2 _ a (KP _ i) hi
  rcases Ow j a with q | q
  . exact q
  . have e:a=j:=eO q hle
    subst e
    cases i with
    | zero=>exact absurd hi hn
    | succ i=>
     have A1:SetTable.below xs a < xs.size:=Fp (KP _ (i+1)) (dM.mp hi).1
     have e0:=IU A1
     have z1:=b2 _ _ (Aj _) e0
     have z2:=RX h (show SetTable.below xs a < SetTable.below xs a+(i+1) by lia) e0 hi
     lia
 refine List.pairwise_append.mpr ⟨dv (List.take_sublist _ _) h,Dr.mpr ⟨behind,dv (List.drop_sublist _ _) h⟩,fun a ha b hb=>?_⟩
 rcases BK.mp hb with e | hb
 . rw[e];exact ahead a ha
 . exact Xa (ahead a ha) (behind b hb)
structure TabOk (L:Bool) (t:Hf):Prop where
 led:t.led=L
 il:t.dummies= #[]
 RW:LW t.place
theorem TabOk.fresh (L:Bool):TabOk L (SetTable.fresh 0 0 L):=⟨rfl,rfl,LJ⟩
theorem TabOk.standIn {L:Bool} {t:Hf} (h:TabOk L t) (n:Nat):TabOk L (t.standIn n):=by
 refine⟨h.led,rfl,?_⟩
 show (Array.range n).toList.Pairwise (· < ·)
 rw[Array.toList_range]
 exact List.pairwise_lt_range
theorem has_none (j:Nat):SetTable.has #[] j=false:=by
 unfold SetTable.has
 simp
theorem ny {L:Bool} {t:Hf} (h:TabOk L t) (ha:Nat->Int) (x:Int):∀(fuel:Nat) (p:SetTable.Probe) (j:Nat) (d:Option Nat),p.dummy=none->SetTable.probe.go t ha x fuel p=some (.empty j d)->d=none/\¬t.place[SetTable.below t.place j]? =some j
 | 0,p,j,d,hp,e=>by
  unfold SetTable.probe.go at e
  cases e
 | fuel+1,p,j,d,hp,e=>by
  unfold SetTable.probe.go at e
  have qg:(t.advance p).dummy=none:=by
   unfold SetTable.advance
   split
   . exact hp
   . exact hp
  cases hs:t.slot p.j with
  | empty=>
   rw[hs] at e
   have e':some (SetTable.Met.empty p.j p.dummy)=some (SetTable.Met.empty j d):=e
   injection e' with e'
   injection e' with e1 e2
   subst e1
   refine⟨by rw[<-e2];exact hp,fun q=>?_⟩
   unfold SetTable.slot at hs
   simp only[q] at hs
   simp at hs
  | dummy=>
   unfold SetTable.slot at hs
   rw[h.il] at hs
   simp only[has_none] at hs
   split at hs
   . cases hs
   . simp at hs
  | live i=>
   rw[hs] at e
   dsimp only at e
   split at e
   . cases e
   . exact ny h ha x fuel _ j d qg e
theorem TabOk.layNew {L:Bool} {t:Hf} (h:TabOk L t) (es:Array (Int×AF)) (k:Int) (x:AF):TabOk L (layNew t es k x).2.1:=by
 unfold PySem.layNew
 cases hf:t.freeSlot k with
 | none=>
  exact h.standIn _
 | some sw=>
  obtain⟨slot,was⟩:=sw
  dsimp only
  have put:TabOk L (t.put slot).1:=by
   unfold SetTable.freeSlot at hf
   split at hf
   . rename_i j d EW
     injection hf with hf
     injection hf with e1 e2
     obtain⟨hd,hn⟩:=ny h _ _ _ _ j d rfl EW
     subst hd
     have e1':j=slot:=e1
     subst e1'
     refine⟨h.led,?_,ACl h.RW hn⟩
     show (if SetTable.has t.dummies j then _ else t.dummies)= #[]
     rw[h.il,has_none]
     rfl
   . cases hf
  show TabOk L ((t.put slot).1.orStandIn _)
  unfold SetTable.orStandIn
  split
  . exact put
  . exact put.standIn _
theorem TabOk.relayAll {L:Bool} {t:Hf} (h:TabOk L t) (es:Array (Int×AF)) (n:Nat):TabOk L (relayAll t es n).2.1:=by
 unfold PySem.relayAll
 cases hr:t.relaid (es.map (·.1)) n with
 | none=>exact h.standIn _
 | some to=>
  obtain⟨t',order⟩:=to
  dsimp only
  split
  . unfold SetTable.relaid SetTable.laid at hr
    cases ho:SetTable.layClean (SetTable.sizeAbove n - 1) (es.map (·.1)) with
    | none=>
     rw[ho] at hr
     cases hr
    | some owner=>
     rw[ho] at hr
     have hr':=CL hr
     have e1:=congrArg O2 hr'
     dsimp only at e1
     rw[<-e1]
     refine⟨h.led,rfl,?_⟩
     show ((((Ca (SetTable.sizeAbove n - 1+1)).filterMap fun j=>(owner.getD j none).map (j,·)).map (·.1)).toArray).toList.Pairwise (· < ·)
     rw[List.toList_toArray]
     have go:∀l:List Nat,l.Pairwise (· < ·)->((l.filterMap fun j=>(owner.getD j none).map (j,·)).map (·.1)).Pairwise (· < ·)/\∀x∈(l.filterMap fun j=>(owner.getD j none).map (j,·)).map (·.1),x∈l:=by
      intro l
      induction l with
      | nil=>exact fun _=>⟨LJ,fun x hx=>hx⟩
      | cons a r ih=>
       intro hp
       obtain⟨C5,hp2⟩:=Dr.mp hp
       obtain⟨i1,i2⟩:=ih hp2
       cases hq:owner.getD a none with
       | none=>
        rw[d5 (by rw[hq];rfl)]
        exact⟨i1,fun x hx=>B2 _ (i2 x hx)⟩
       | some v=>
        rw[Ma (b:=(a,v)) (by rw[hq];rfl),CP]
        refine⟨Dr.mpr ⟨fun x hx=>C5 x (i2 x hx),i1⟩,fun x hx=>?_⟩
        rcases BK.mp hx with e | hx
        . rw[e];exact Bl
        . exact B2 _ (i2 x hx)
     exact (go _ List.pairwise_lt_range).1
  . exact h.standIn _
end L2
set_option maxHeartbeats 2000000
namespace L2
open PySem PySem.Spec PyProof.Rows
section
variable {prog:Av} {w:Am} {A:Bf} {E:AF->AI->Prop} {s:AI}
structure FC (prog:Av) (w:Am) (L:Bool) (h:Ae) (a:AA) (ms:List Int):Prop where
 ex:∃o es ep t,h.get? a=some o/\o.ExactSet/\o.data= .set es ep t/\ElemsOf (Gj prog w) es.toList/\Du (es.toList.map (·.2)) ms/\es.size < scanBound/\t.fits es.size=true/\TabOk L t
 nd:ms.Nodup
theorem Zg:∀{vs:List AF} {ns:List Int},Du vs ns->Ar (fun (n:Int) (u:AF)=>∃t,u= .int n t) ns vs
 | _,_,.nil=>.nil
 | _,_,.cons n t h=>.cons ⟨t,rfl⟩ (Zg h)
theorem IntsAre.Z5 {vs us:List AF} {ns:List Int} (p:us.Perm vs) (h:Du vs ns):∃ms,Du us ms/\ms.Perm ns:=by
 have h':=Zg h
 obtain⟨ms,p',q⟩:=Paired.perm p h'
 refine⟨ms,?_,p'⟩
 clear h h' p p'
 induction q with
 | nil=>exact .nil
 | cons r _ ih=>
  obtain⟨t,e⟩:=r
  subst e
  exact .cons _ t ih
theorem ints_snoc {n:Int} {t:E4}:∀{vs:List AF} {ns:List Int},Du vs ns->Du (vs++[.int n t]) (ns++[n])
 | _,_,.nil=>.cons n t .nil
 | _,_,.cons m u h=>.cons m u (ints_snoc h)
theorem lE {es:List (Int×AF)} {ms:List Int} (h:Du (es.map (·.2)) ms) (k:Int):(∃e∈es,(Gj prog w).is k e.2=true)↔k∈ms:=by
 induction es generalizing ms with
 | nil=>
  cases h
  simp
 | cons e r ih=>
  obtain⟨hh,v⟩:=e
  have h':Du (v::r.map (·.2)) ms:=h
  cases h' with
  | cons n t h'=>
   rw[BK,<-ih h']
   constructor
   . rintro⟨e,he,q⟩
     rcases BK.mp he with z | z
     . subst z
       left
       exact (Gj prog w).inj _ k n q (Zf _ _ _ _)
     . exact .inr ⟨e,z,q⟩
   . rintro (z | ⟨e,he,q⟩)
     . subst z
       exact⟨_,Bl,Zf _ _ _ _⟩
     . exact⟨e,B2 _ he,q⟩
theorem ot {h:Ae} {a:AA} {o:Aq} {es:Array (Int×AF)} {ep:Nat} {t:Hf} {L:Bool} {ms:List Int} (ho:h.get? a=some o) (hex:o.ExactSet) (hd:o.data= .set es ep t) {es':Array (Int×AF)} {t':Hf}
 (hel:ElemsOf (Gj prog w) es'.toList) (hi:Du (es'.toList.map (·.2)) ms) (hb:es'.size < scanBound) (hf:t'.fits es'.size=true) (ht:TabOk L t') (hn:ms.Nodup):
 (h.update a (Sn es' t')).get? a=some { o with data:=.set es' (ep+1) t' }/\FC prog w L (h.update a (Sn es' t')) a ms:=by
 have g:(h.update a (Sn es' t')).get? a=some { o with data:=.set es' (ep+1) t' }:=by
  have q:=MV (Sn es' t') ho (by rw[putSet_of es' t' hd];rfl)
  rwa[putSet_of es' t' hd] at q
 exact⟨g,⟨⟨_,es',ep+1,t',g,hex,rfl,hel,hi,hb,hf,ht⟩,hn⟩⟩
theorem ADL {a:AA} {L:Bool} {ms:List Int} {k:Int} {t0:E4} {Q:Bool->AI->Prop} (hS:FC prog w L s.heap a ms) (hroom:ms.length+1 < scanBound)
 (h:∀h' Ea b,Fn a s.heap h'->FC prog w L h' a Ea->(if k∈ms then Ea=ms else Ea.Perm (ms++[k]))->Q b { s with heap:=h' }):
 AU (AY prog w) A (setAddHashed a (.int k t0) ((Gj prog w).hash k)) Q E s:=by
 obtain⟨⟨o,es,ep,t,ho,hex,hd,hel,hi,hb,hf,ht⟩,hn⟩:=hS
 have hkey:(Gj prog w).is k (.int k t0)=true:=Zf _ _ _ _
 have BV:ms.length=es.size:=by rw[<-hi.length,AR,E1]
 unfold setAddHashed setAddHashedIn
 refine HV (AJ (SN ho hd hf ?_))
 dsimp only
 rw[byScan_of (knd:=Gj prog w) (x:=.int k t0) rfl hb hel,if_pos rfl]
 unfold setAddByScan
 refine AJ (AJ (Wv (AJ (wpAny_setScan_of hkey ho hd hf hel ?_))))
 cases hr:List.findIdx? (fun e=>(Gj prog w).is k e.2) es.toList with
 | some j=>
  dsimp only
  obtain⟨hj,hpj,_⟩:=List.findIdx?_eq_some_iff_getElem.mp hr
  have hm:k∈ms:=(lE (prog:=prog) (w:=w) hi k).mp ⟨es.toList[j],List.getElem_mem hj,hpj⟩
  refine Ai (Ai ?_)
  exact h s.heap ms _ (Fn.refl a s.heap) ⟨⟨o,es,ep,t,ho,hex,hd,hel,hi,hb,hf,ht⟩,hn⟩ (by rw[if_pos hm])
 | none=>
  dsimp only
  have hm:¬k∈ms:=fun z=>by
   obtain⟨e,he,q⟩:=(lE (prog:=prog) (w:=w) hi k).mpr z
   have q':=List.findIdx?_eq_none_iff.mp hr e he
   rw[q] at q'
   cases q'
  have gw:∀(b:Bool) {s1:AI} {Q':Unit->AI->Prop},Q' () s1->AU (AY prog w) A (match b with | true=>rule "set.scan.the-table-gave-way" | false=>pure ()) Q' E s1:=fun b s1 Q' hq=>by
   cases b with
   | true=>exact Wv hq
   | false=>exact Ai hq
  have p1:=layNew_perm t es ((Gj prog w).hash k) (.int k t0)
  have f1:=layNew_fits t es ((Gj prog w).hash k) (.int k t0)
  have t1:=ht.layNew es ((Gj prog w).hash k) (.int k t0)
  generalize layNew t es ((Gj prog w).hash k) (.int k t0)=Z at p1 f1 t1 ⊢
  obtain⟨B8,tt1,was,gave⟩:=Z
  dsimp only at p1 f1 t1 ⊢
  rw[dP] at p1
  have el1:ElemsOf (Gj prog w) B8.toList:=(hel.push hkey rfl).perm p1
  have sz1:B8.size=ms.length+1:=by rw[<-E1,p1.length_eq,BZ,E1,BV];rfl
  have hb1:B8.size < scanBound:=by rw[sz1];exact hroom
  obtain⟨Z1,hi1,nr⟩:=IntsAre.Z5 (p1.map (·.2)) (by rw[Ba];exact ints_snoc (n:=k) (t:=t0) hi)
  have Nn:Z1.Nodup:=nr.nodup_iff.mpr (Z2 hn hm)
  have fin:∀h' Ea b,Fn a s.heap h'->FC prog w L h' a Ea->Ea.Perm Z1->Q b { s with heap:=h' }:=fun h' Ea b sb hS' pm=>h h' Ea b sb hS' (by rw[if_neg hm];exact pm.trans nr)
  refine AJ (gw _ ?_)
  have tail:∀t2:Hf,t2.fits B8.size=true->TabOk L t2->AU (AY prog w) A (do
   storeSet a B8 t2
   if (!was&&t2.tooFull)=true then do
       (match (relayAll t2 B8 (SetTable.grown B8.size)).2.2 with | true=>rule "set.scan.the-table-gave-way" | false=>pure ())
       storeSet a (relayAll t2 B8 (SetTable.grown B8.size)).1 (relayAll t2 B8 (SetTable.grown B8.size)).2.1
       pure (some true)
    else pure (some true)) (fun r s'=>AU (AY prog w) A (match r with | some added=>pure added | none=>setAddHashedIn a (.int k t0) ((Gj prog w).hash k) 99999) Q E s') E s:=by
   intro t2 hf2 ht2
   refine AJ (wpAny_storeSet_of ho hd ?_ (Ya hb1))
   obtain⟨g1,S1⟩:=ot (prog:=prog) (w:=w) ho hex hd el1 hi1 hb1 hf2 ht2 Nn
   have Jy:=G6 s.heap a (Sn B8 t2)
   split
   . have p2:=relayAll_perm t2 B8 (SetTable.grown B8.size)
     have f2:=relayAll_fits t2 B8 (SetTable.grown B8.size)
     have t3:=ht2.relayAll B8 (SetTable.grown B8.size)
     generalize relayAll t2 B8 (SetTable.grown B8.size)=Y at p2 f2 t3 ⊢
     obtain⟨DX,tt3,gave2⟩:=Y
     dsimp only at p2 f2 t3 ⊢
     obtain⟨ms2,hi2,nu⟩:=IntsAre.Z5 (p2.map (·.2)) hi1
     have sz2:DX.size=B8.size:=by rw[<-E1,p2.length_eq,E1]
     have hb2:DX.size < scanBound:=by rw[sz2];exact hb1
     refine AJ (gw _ (AJ (wpAny_storeSet_of g1 rfl ?_ (Ya hb2))))
     obtain⟨_,S2⟩:=ot (prog:=prog) (w:=w) g1 hex rfl (el1.perm p2) hi2 hb2 f2 t3 (nu.nodup_iff.mpr Nn)
     exact Ai (Ai (fin _ ms2 _ (Jy.trans (G6 _ a _)) S2 nu))
   . exact Ai (Ai (fin _ Z1 _ Jy S1 (LK _)))
  split
  . refine AJ ?_
    rw[hashByValue_scannable 8 (x:=.int k t0) rfl]
    refine Ai ?_
    exact tail _ f1 t1
  . refine AJ (Ai ?_)
    exact tail _ f1 t1
end
def FK (l:List Int) (x:Int):List Int:=if x∈l then l else l++[x]
section
variable {prog:Av} {w:Am} {A:Bf} {E:AF->AI->Prop} {s:AI}
def Ew (w:Am):Bool:= !w.params.followText "set-order"
theorem ADS (a:AF) {Q1:AF->AI->Prop}
 (h:Q1 (.ref s.heap.objs.size) { s with heap:=s.heap.push { cls:=.type "set",dict:=none,data:=.set #[] 0 (.fresh 0 0 (Ew w)) } }):
 codeAny (AY prog w) A (.call (.builtin "set.__new__") ⟨[.type "set",a],[]⟩) (wants Q1 E) s:=by
 refine iF (show AU _ A.in1 (do checkBuiltinCall "set.__new__" ⟨[.type "set",a],[]⟩;again (.builtin "set.__new__" ⟨[.type "set",a],[]⟩)) _ _ s from AJ (SM (F.newCall_set_1 a) (Ai ⟨Kt F.plain_set_new _,Jd F.entry_set_new ?_⟩)))
 rw[K9 F.plain_set_new];unfold Ed.«set.__new__» Builtin.Frozenset.newClass;have hsub:=sub_set_self;obtain⟨hp,g,d,tk,os⟩:=s;dsimp only;wp_walk;refine qC (Ai ?_);dsimp only;simp only[newObj];refine AJ (wpAny_alloc (Ai (Ai h)))
theorem ADQ {I:AA} {fp wr:List AA} {G:Array GenState->Array GenState->Prop} {n:Nat} {P:Nat->AF->Prop} {St:Nat->AI->Prop} {R:Result->AI->Prop} {L:Bool}
 (W:WalksS prog w A.in1 I fp wr G n P St) (S:AA) (hSf:S∉fp) (ns:List Int) (hns:ns.length=n) (hval:∀i v,P i v->∃k t,ns[i]? =some k/\v= .int k t) (hb:n+1 < scanBound):
 ∀(k i:Nat) (s:AI) (ms:List Int),n - i=k->i<=n->St i s->FC prog w L s.heap S ms->ms.Perm ((ns.take i).foldl FK [])->
  (∀s' Ea,Moved (S::wr) G s s'->FC prog w L s'.heap S Ea->Ea.Perm (ns.foldl FK [])->R (.ok (.ret .none)) s')->
  codeAny (AY prog w) A (.builtin "set.update.loop" ⟨[.ref S,.ref I],[]⟩) R s:=by
 have hSw:S∉wr:=fun z=>hSf (W.sub _ z)
 have pO:∀b∈wr,b∈S::wr:=fun b hb=>B2 _ hb
 have stay:∀{h h':Ae} {ms:List Int},FC prog w L h S ms->(∀o,h.get? S=some o->h'.get? S=some o)->FC prog w L h' S ms:=fun {h h' ms} q kk=>by
  obtain⟨⟨o,es,ep,t,ho,r⟩,nd⟩:=q
  exact⟨⟨o,es,ep,t,kk o ho,r⟩,nd⟩
 have EX:∀l:List Int,(l.foldl FK []).length<=l.length:=by
  have go:∀(l acc:List Int),(l.foldl FK acc).length<=acc.length+l.length:=by
   intro l
   induction l with
   | nil=>intro acc;simp
   | cons x r ih=>
    intro acc
    rw[FV,BO]
    refine BP (ih _) ?_
    unfold FK
    split
    . omega
    . rw[BZ,FW];omega
  intro l
  simpa using go l []
 intro k
 induction k with
 | zero=>
  intro i s ms hk hi BG hS hp hR
  have e:i=n:=by omega
  subst e
  refine Jd PyProof.Rows.F.entry_set_update_loop ?_
  rw[K9 eY]
  refine show AU _ A.in1 (pyNext (.ref I) >>= _) _ _ s from AJ (W.done s _ _ BG fun s' hm=>?_)
  refine show AU _ A.in1 (ret Gn) _ _ s' from Ai (hR s' ms (hm.mono pO) (stay hS fun o e=>hm.heap S o hSw e) ?_)
  rwa[DN (by omega)] at hp
 | succ k ih=>
  intro i s ms hk hi BG hS hp hR
  have A1:i < n:=by omega
  refine Jd PyProof.Rows.F.entry_set_update_loop ?_
  rw[K9 eY]
  refine show AU _ A.in1 (pyNext (.ref I) >>= _) _ _ s from AJ (W.item i s _ _ A1 BG fun v s' hP hst' hm=>?_)
  obtain⟨x,t,hx,rfl⟩:=hval i v hP
  have hS':=stay hS fun o e=>hm.heap S o hSw e
  refine show AU _ A.in1 (holding [Mq x t] (setAdd S (.int x t)) >>= _) _ _ s' from AJ (HV ?_)
  unfold setAdd
  refine HV (AJ ((Gj prog w).pyHash (k:=x) (Zf _ _ _ _) ?_))
  have hml:ms.length<=i:=by
   rw[hp.length_eq]
   refine BP (EX _) ?_
   rw[Ct]
   exact Nat.min_le_left _ _
  refine ADL (s:={ s' with toks:=s'.toks+1 }) hS' (by omega) fun h' Ea b hsb hS2 hms=>?_
  have hp':Ea.Perm ((ns.take (i+1)).foldl FK []):=by
   have et:ns.take (i+1)=ns.take i++[x]:=by rw[XU,hx];rfl
   rw[et,Sg]
   show Ea.Perm (FK ((ns.take i).foldl FK []) x)
   generalize (ns.take i).foldl FK []=acc at hp ⊢
   unfold FK
   by_cases hm2:x∈ms
   . rw[if_pos hm2] at hms
     subst hms
     rw[if_pos (hp.mem_iff.mp hm2)]
     exact hp
   . rw[if_neg hm2] at hms
     rw[if_neg (fun z=>hm2 (hp.mem_iff.mpr z))]
     exact hms.trans (hp.append_right [x])
  refine Ai ⟨Kt eY _,ih (i+1) _ Ea (by omega) A1 (W.frame _ s' _ _ hst' (Gi _) fun b hb o e=>?_) hS2 hp' fun s'' AAD hm'' hS'' hp''=>?_⟩
  . exact (hsb.2 b (fun z:b=S=>hSf (by rw[<-z];exact hb))).trans e
  . refine hR s'' AAD (Moved.trans W.gtrans ((hm.mono pO).then_heap (Gi _) fun b o hb e=>?_) hm'') hS'' hp''
    exact (hsb.2 b (fun z:b=S=>hb (by rw[z];exact Bl))).trans e
theorem ADM {l:AA} {vs:List AF} {ns:List Int} {Q:AF->AI->Prop} (hh:A.handled=none) (hl:s.heap.IsList l vs.toArray) (hi:Du vs ns) (hb:vs.length+1 < scanBound)
 (h:∀(h':Ae) (tk:Nat) (ms:List Int),FC prog w (Ew w) h' s.heap.objs.size ms->ms.Perm (ns.foldl FK [])->(∀b o,b < s.heap.objs.size->s.heap.get? b=some o->h'.get? b=some o)->Q (.ref s.heap.objs.size) { s with heap:=h',toks:=tk }):
 AU (AY prog w) A (call (.type "set") [.ref l]) Q E s:=by
 obtain⟨c0,tl0,AE2⟩:=PySem.F.called_set.mro
 have AE1:=PySem.F.called_set.made
 have AE3:=PySem.F.called_set.sub
 refine Wt (iF (show AU _ _ (callAny (.type "set") _) _ _ _ from Ai ⟨Code.quiet_builtin _ (by decide+kernel),Jd PySem.F.entry_type_call ?_⟩))
 rw[Around.under_plain (weight_type_call_type "set" [.ref l] []) rfl]
 have k1:=PySem.F.called_set.notType
 have k2:=PySem.F.called_set.canCreate
 have k3:=PySem.F.typeCall_set_1 (.ref l)
 repeat (any_goals (first | assumption | wp_step))
 refine KZ (ADS (.ref l) (E:=E) (Q1:=fun obj s1=>obj= .ref s.heap.objs.size/\s1={ s with heap:=s.heap.push { cls:=.type "set",dict:=none,data:=.set #[] 0 (.fresh 0 0 (Ew w)) } }) ⟨rfl,rfl⟩) fun r s1 hr=>?_
 match r,hr with
 | .error e,hr=>exact hr
 | .ok (.ret obj),hr=>
  obtain⟨rfl,rfl⟩:=hr
  have hS:(s.heap.push { cls:=.type "set",dict:=none,data:=.set #[] 0 (.fresh 0 0 (Ew w)) }).get? s.heap.objs.size=some { cls:=.type "set",dict:=none,data:=.set #[] 0 (.fresh 0 0 (Ew w)) }:=Ck _ rfl
  have hT:Shared.TypeIs { s with heap:=s.heap.push { cls:=.type "set",dict:=none,data:=.set #[] 0 (.fresh 0 0 (Ew w)) } } (.ref s.heap.objs.size) "set":=⟨_,hS,rfl⟩
  have k4:=PySem.F.called_set.init.lookup
  have k5:=PySem.F.called_set.init.bind (.ref s.heap.objs.size)
  repeat (any_goals (first | assumption | wp_step))
  refine KZ (YC (R:=wants (fun r s2=>r= .none/\∃h' tk ms,s2={ s with heap:=h',toks:=tk }/\FC prog w (Ew w) h' s.heap.objs.size ms/\ms.Perm (ns.foldl FK [])/\
   (∀b o,b < s.heap.objs.size->s.heap.get? b=some o->h'.get? b=some o)) E) PySem.F.called_set.init.plain PySem.F.entry_set_init (check_set_init_1 hT ?_)) fun r2 s2 hr2=>?_
  . obtain⟨⟨oc,od,odt,osl⟩,hol,CH,nl,hdl⟩:=hl
    simp only at CH hdl
    subst CH hdl
    have hol2:(s.heap.push { cls:=.type "set",dict:=none,data:=.set #[] 0 (.fresh 0 0 (Ew w)) }).get? l=some { cls:=.type "list",dict:=od,data:=.seq vs.toArray nl,slots:=osl }:=Bz _ hol
    have k6:=PySem.F.sub_list_set
    have k7:=PySem.F.sub_list_frozenset
    have k8:(F4 "list"==F4 "dict")=false:=by decide
    have Cw:(s.heap.push { cls:=.type "set",dict:=none,data:=.set #[] 0 (.fresh 0 0 (Ew w)) }).IsList l vs.toArray:=⟨_,hol2,rfl,nl,rfl⟩
    have hlS:l < s.heap.objs.size:=Bs hol
    have BX:l≠(s.heap.push { cls:=.type "set",dict:=none,data:=.set #[] 0 (.fresh 0 0 (Ew w)) }).objs.size:=by rw[FA];exact C4 (G8 hlS)
    have hSf:s.heap.objs.size∉[(s.heap.push { cls:=.type "set",dict:=none,data:=.set #[] 0 (.fresh 0 0 (Ew w)) }).objs.size,l]:=by
     rw[FA]
     intro z
     rcases BK.mp z with z | z
     . exact absurd z (C4 (Hu _))
     . exact absurd (DZ.mp z) (Mi hlS)
    unfold Ed.«set.__init__» noKeywords Builtin.Frozenset.updateFrom
    generalize tq:pyIter=PI
    wp_walk
    subst tq
    refine OX Cw (AJ (wpAny_runValue ?_))
    have hval:∀(i:Nat) (v:AF),vs.toArray[i]? =some v->∃k t,ns[i]? =some k/\v= .int k t:=fun i v hv=>by
     obtain⟨k,hk,t,e⟩:=Paired.get? (Zg hi) (show vs[i]? =some v by simpa using hv)
     exact⟨k,t,hk,e⟩
    refine ADQ (L:=Ew w) ((Walks.list (by simp[hh]) _ l BX vs.toArray).toS) s.heap.objs.size hSf ns (by rw[Cp,hi.length]) hval (by rw[Cp];exact hb) (vs.toArray.size - 0) 0 _ [] (by omega) (Ci _)
     ⟨⟨_,Ck _ rfl,rfl,rfl⟩,(Cw.push _)⟩ ?_ (LK _) ?_
    . exact⟨⟨_,#[],0,_,Bz _ hS,⟨rfl,rfl,rfl⟩,rfl,fun e he=>by simp at he,.nil,by decide,rfl,TabOk.fresh _⟩,XQ⟩
    . intro s' ms hm hS' hp
      obtain⟨h',g',d',tk',os'⟩:=s'
      obtain rfl:g'=s.gens:=hm.gens
      obtain rfl:d'=s.drawn:=hm.drawn
      obtain rfl:os'=s.os:=hm.os
      show AU _ _ _ _ _ _
      refine Ai (show AU _ _ (ret Gn) _ _ _ from Ai ⟨rfl,h',tk',ms,rfl,hS',hp,fun b o hb e=>?_⟩)
      refine hm.heap b o (fun z=>?_) (Bz _ (Bz _ e))
      rcases BK.mp z with z | z
      . exact absurd z (C4 hb)
      . rw[DZ.mp z,FA] at hb
        exact absurd hb (by omega)
  . match r2,hr2 with
    | .error e,hr2=>exact hr2
    | .ok (.ret r),hr2=>
     obtain⟨rfl,h',tk,ms,rfl,hS',hp,hk'⟩:=hr2
     repeat (any_goals (first | assumption | wp_step))
     exact h _ _ _ hS' hp hk'
end
theorem uS:entryFor table "set.__iter__"=some Ed.«frozenset.__iter__»:=entryFor_alias (id':="frozenset.__iter__") (by kernel_rfl) rfl (by decide+kernel) (by kernel_rfl)
theorem Ho:Slot "set_iterator" "__next__" "set_iterator.__next__":=
 .of (owner:="set_iterator") (n:="__next__") (by rw[typeLookup_type,builtinLookup_eq_fast];kernel_rfl) (by decide+kernel) (by decide+kernel) (by decide+kernel) (by first | exact .inl (by decide+kernel) | exact .inr (by decide+kernel)) (by rw[lD];kernel_rfl)
theorem To:entryFor table "set_iterator.__next__"=some Ed.«set_iterator.__next__»:=entryFor_of_tree (by kernel_rfl)
theorem S8 (a:AF):argsOk "set_iterator.__next__" ⟨[a],[]⟩:=by unfold argsOk;kernel_rfl
section
variable {prog:Av} {w:Am} {A:Bf} {E:AF->AI->Prop} {s:AI} {a it:AA} {o:Aq} {es:Array (Int×AF)} {ep:Nat} {t:Hf}
theorem byText {Q:Bool->AI->Prop} (h:Q (w.params.followText "set-order") s):AU (AY prog w) A setsByText Q E s:=AJ (qC (Ai h))
structure Fq (h:Ae) (a:AA) (o:Aq) (es:Array (Int×AF)) (ep:Nat) (t:Hf):Prop where
 ob:h.get? a=some o
 cl:o.cls= .type "set"
 dt:o.data= .set es ep t
 fit:t.fits es.size=true
def GZ (first:AF) (i:Nat) (a:AA) (n ep:Nat):Aq:={ cls:=.type "set_iterator",data:=.fields #[first,.int i 0,.ref a,.int n 0,.int ep 0] }
theorem mZ {slot given e0:Nat} {Q:Option (AF×Nat)->AI->Prop} (S:Fq s.heap a o es ep t) (hB:w.params.followText "set-order"=false) (hdr:(!t.plain&&decide (es.size > 1))=false) (xf:t.led=true)
 (h:Q (match es[SetTable.below t.place slot]?,t.place[SetTable.below t.place slot]? with | some (_,x),some j=>some (x,j+1) | _,_=>none) s):AU (AY prog w) A (setNext a slot given e0) Q E s:=by
 unfold setNext
 refine AJ (SN S.ob S.dt S.fit ?_)
 dsimp only
 refine AJ (byText ?_)
 rw[hB]
 refine show AU (AY prog w) A (if (!t.plain&&decide (es.size > 1))=true then _ else _) Q E s from ?_
 rw[hdr]
 refine show AU (AY prog w) A ((if (!t.led&& !es.isEmpty)=true then _ else pure ()) >>= fun _=>pure _) Q E s from ?_
 rw[xf]
 exact AJ (Ai (Ai h))
theorem md {slot given e0:Nat} {Q:Option (AF×Nat)->AI->Prop} (S:Fq s.heap a o es ep t) (hB:w.params.followText "set-order"=true) (he:ep=e0)
 (h:Q (((pickOrder (w.params.setOrder a ep) es)[given]?).map fun e=>(e.2,slot)) s):AU (AY prog w) A (setNext a slot given e0) Q E s:=by
 subst he
 unfold setNext
 refine AJ (SN S.ob S.dt S.fit ?_)
 dsimp only
 refine AJ (byText ?_)
 rw[hB,if_pos rfl]
 simp only[bne_self_eq_false,Cg,if_false]
 unfold setWalk
 refine AJ (AJ (SN S.ob S.dt S.fit (AJ (byText ?_))))
 rw[hB,if_pos rfl]
 exact AJ (qC (Ai (Ai h)))
theorem VR {first y:AF} {i n e0:Nat} (h:Ae) (g:h.get? it=some (GZ first i a n e0)) (k:Nat) (hk:k < 5):(h.update it (Sl (·.setIfInBounds k y))).get? it=some { cls:=.type "set_iterator",data:=.fields ((#[first,.int i 0,.ref a,.int n 0,.int e0 0]:Array AF).setIfInBounds k y) }:=by
 have q:=MV (Sl (·.setIfInBounds k y)) g (Obj.isFreed_of_fields (eS (o:=GZ first i a n e0) rfl _))
 exact q
theorem lF {slot i n:Nat} {x:AF} {nx:Nat} {Q:Option AF->AI->Prop} (S:Fq s.heap a o es ep t) (hn:es.size=n) (g:s.heap.get? it=some (GZ (.int slot 0) i a n ep))
 (hnx:∀(A:Bf) (E:AF->AI->Prop) (Q':Option (AF×Nat)->AI->Prop),Q' (some (x,nx)) s->AU (AY prog w) A (setNext a slot i ep) Q' E s)
 (h:∀h',Fn it s.heap h'->h'.get? it=some (GZ (.int nx 0) (i+1) a n ep)->Q (some x) { s with heap:=h' }):AU (AY prog w) A (pyNext (.ref it)) Q E s:=by
 have hT:s.TypeIs (.ref it) "set_iterator":=⟨_,g,rfl⟩
 unfold pyNext
 refine AJ (K6 (MQ (name:=Eh "__next__") hT Ho (HS Ho hT To ?_ (S8 _))))
 unfold Ed.«set_iterator.__next__» slotArgs
 simp only[Sh,Ob,Cg,if_false,D7,bne_self_eq_false]
 refine AJ (Ai (AJ (SJ g rfl ?_)))
 dsimp only
 refine AJ (Wx S.ob S.dt S.fit ?_)
 rw[hn]
 simp only[bne_self_eq_false,Cg,if_false,IY]
 refine AJ (hnx _ _ _ ?_)
 dsimp only
 have g1:=VR (y:=.int nx 0) s.heap g 0 (by decide)
 refine AJ (MR g rfl (by simp) ?_)
 have s1:=G6 s.heap it (Sl (·.setIfInBounds 0 (.int nx 0)))
 refine AJ (MR g1 rfl (by simp) (Ai ⟨x,rfl,Ai (h _ (s1.trans (G6 _ it _)) ?_)⟩))
 exact VR (first:=.int nx 0) _ g1 1 (by decide)
theorem yk {tp:AA} {i n p:Nat} {hx:Int} {x:AF} {ps:Array AF} {Q:Option AF->AI->Prop} (S:Fq s.heap a o es ep t) (hn:es.size=n) (g:s.heap.get? it=some (GZ (.ref tp) i a n ep))
 (ht:s.heap.get? tp=some { cls:=.type "tuple",data:=.seq ps }) (hp:ps[i]? =some (.int (p:Int) 0)) (he:es[p]? =some (hx,x))
 (h:∀h',Fn it s.heap h'->h'.get? it=some (GZ (.ref tp) (i+1) a n ep)->Q (some x) { s with heap:=h' }):AU (AY prog w) A (pyNext (.ref it)) Q E s:=by
 have hT:s.TypeIs (.ref it) "set_iterator":=⟨_,g,rfl⟩
 unfold pyNext
 refine AJ (K6 (MQ (name:=Eh "__next__") hT Ho (HS Ho hT To ?_ (S8 _))))
 unfold Ed.«set_iterator.__next__» slotArgs
 simp only[Sh,Ob,Cg,if_false,D7,bne_self_eq_false]
 refine AJ (Ai (AJ (SJ g rfl ?_)))
 dsimp only
 refine AJ (Wx S.ob S.dt S.fit ?_)
 rw[hn]
 simp only[bne_self_eq_false,Cg,if_false,IY]
 refine AJ (Ww ht rfl ?_)
 dsimp only
 rw[hp]
 dsimp only
 unfold setNextDrawn
 refine AJ (AJ (SN S.ob S.dt S.fit ?_))
 simp only[bne_self_eq_false,Cg,if_false,IY,he]
 refine Ai (AJ (MR g rfl (by simp) (Ai ⟨x,rfl,Ai (h _ (G6 _ it _) ?_)⟩)))
 exact VR s.heap g 1 (by decide)
theorem iy {slot i n:Nat} {Q:Option AF->AI->Prop} (hh:A.handled=none) (S:Fq s.heap a o es ep t) (hn:es.size=n) (g:s.heap.get? it=some (GZ (.int slot 0) i a n ep))
 (hnx:∀(A:Bf) (E:AF->AI->Prop) (Q':Option (AF×Nat)->AI->Prop),Q' none s->AU (AY prog w) A (setNext a slot i ep) Q' E s)
 (h:∀h',W8 it s.heap h'->Q none { s with heap:=h' }):AU (AY prog w) A (pyNext (.ref it)) Q E s:=by
 have hT:s.TypeIs (.ref it) "set_iterator":=⟨_,g,rfl⟩
 unfold pyNext
 refine AJ (K6 (MQ (name:=Eh "__next__") hT Ho (HS Ho hT To ?_ (S8 _))))
 unfold Ed.«set_iterator.__next__» slotArgs
 simp only[Sh,Ob,Cg,if_false,D7,bne_self_eq_false]
 refine AJ (Ai (AJ (SJ g rfl ?_)))
 dsimp only
 refine AJ (Wx S.ob S.dt S.fit ?_)
 rw[hn]
 simp only[bne_self_eq_false,Cg,if_false,IY]
 refine AJ (hnx _ _ _ ?_)
 dsimp only
 refine AJ (MR g rfl (by simp) ?_)
 refine show AU _ _ (newExc (.type "StopIteration") [] >>= _) _ _ _ from AJ ?_
 simp only[newExc,newTuple]
 refine AJ (Hq ?_ (by size_fits))
 refine AJ (m:=firstArgMember _ _) (SM (a:=Gn) (by first | rfl | (simp only[firstArgMember];rfl)) (Hq ?_ (by size_fits)))
 simp only[raiseNew]
 refine AJ (qF ?_)
 rw[show A.in1.handled=none from hh]
 refine AJ (Ai (qL ?_))
 refine AJ (Wu (T:="StopIteration") (b:=true) ⟨_,Ck _ rfl,rfl⟩ Zj (Ai (h _ ?_)))
 exact ((G6 ..).extBut.push _).push _
theorem uO {tp:AA} {i n:Nat} {ps:Array AF} {Q:Option AF->AI->Prop} (hh:A.handled=none) (S:Fq s.heap a o es ep t) (hn:es.size=n) (g:s.heap.get? it=some (GZ (.ref tp) i a n ep))
 (ht:s.heap.get? tp=some { cls:=.type "tuple",data:=.seq ps }) (hp:ps[i]? =none) (h:∀h',W8 it s.heap h'->Q none { s with heap:=h' }):AU (AY prog w) A (pyNext (.ref it)) Q E s:=by
 have hT:s.TypeIs (.ref it) "set_iterator":=⟨_,g,rfl⟩
 unfold pyNext
 refine AJ (K6 (MQ (name:=Eh "__next__") hT Ho (HS Ho hT To ?_ (S8 _))))
 unfold Ed.«set_iterator.__next__» slotArgs
 simp only[Sh,Ob,Cg,if_false,D7,bne_self_eq_false]
 refine AJ (Ai (AJ (SJ g rfl ?_)))
 dsimp only
 refine AJ (Wx S.ob S.dt S.fit ?_)
 rw[hn]
 simp only[bne_self_eq_false,Cg,if_false,IY]
 refine AJ (Ww ht rfl ?_)
 dsimp only
 rw[hp]
 dsimp only
 have g1:=VR (y:=.int 0 0) s.heap g 0 (by decide)
 refine AJ (MR g rfl (by simp) (AJ (MR g1 rfl (by simp) ?_)))
 refine show AU _ _ (newExc (.type "StopIteration") [] >>= _) _ _ _ from AJ ?_
 simp only[newExc,newTuple]
 refine AJ (Hq ?_ (by size_fits))
 refine AJ (m:=firstArgMember _ _) (SM (a:=Gn) (by first | rfl | (simp only[firstArgMember];rfl)) (Hq ?_ (by size_fits)))
 simp only[raiseNew]
 refine AJ (qF ?_)
 rw[show A.in1.handled=none from hh]
 refine AJ (Ai (qL ?_))
 refine AJ (Wu (T:="StopIteration") (b:=true) ⟨_,Ck _ rfl,rfl⟩ Zj (Ai (h _ ?_)))
 exact (((G6 ..).trans (G6 ..)).extBut.push _).push _
end
theorem Tp {α:Type}:∀{l:List α} {i:Nat} {x:α},l[i]? =some x->(x::l.eraseIdx i).Perm l
 | [],i,x,h=>by simp at h
 | y::r,0,x,h=>by
  have e:y=x:=CL h
  subst e
  exact LK _
 | y::r,i+1,x,h=>by
  have ih:=Tp (l:=r) (i:=i) (x:=x) (by simpa using h)
  rw[List.eraseIdx_cons_succ]
  exact (dw y x _).trans (ih.cons y)
theorem i9 {α:Type} {l:List α} {i:Nat} {x:α} (h:l[i]? =some x):(l.eraseIdx i).length+1=l.length:=by
 have:=(Tp h).length_eq
 simpa using this
theorem nZ {α:Type} (next:Nat->Nat):∀(fuel k:Nat) (left:List α) (out:Array α),left.length<=fuel->(pickOrder.go next fuel k left out).toList.Perm (out.toList++left)
 | 0,k,left,out,hf=>by
  have e:left=[]:=Hb.mp (by lia)
  subst e
  unfold pickOrder.go
  simp
 | fuel+1,k,left,out,hf=>by
  unfold pickOrder.go
  cases hx:left[next k%left.length]? with
  | none=>
   have e:left=[]:=by
    cases left with
    | nil=>rfl
    | cons y r=>
     have hl:next k%(y::r).length < (y::r).length:=Nat.mod_lt _ (by simp)
     rw[DU hl] at hx
     cases hx
   subst e
   simp
  | some x=>
   have hl:=i9 hx
   refine (nZ next fuel (k+1) _ _ (by lia)).trans ?_
   rw[dP,Ha]
   exact (Tp hx).append_left _
theorem Uw {α:Type} (next:Nat->Nat) (xs:Array α):(pickOrder next xs).toList.Perm xs.toList:=by
 unfold pickOrder
 simpa using nZ next xs.size 0 xs.toList #[] (by simp)
section
variable {prog:Av} {w:Am} {A:Bf} {E:AF->AI->Prop} {s:AI} {a it:AA} {o:Aq} {es:Array (Int×AF)} {ep:Nat} {t:Hf}
theorem AEk {src:Source} {n:Nat} {Q:Nat->AI->Prop} (hn:n≠0) (h:Q (w.draws src (s.drawn.get src)%n) { s with drawn:=s.drawn.bump src }):AU (AY prog w) A (choose src n) Q E s:=fun Γ p hΓ=>⟨hn,h⟩
theorem ik {α:Type}:∀(n:Nat) (xs:List α) (s:AI) (Q:List α->AI->Prop),xs.length=n->(∀ys d,ys.Perm xs->Q ys { s with drawn:=d })->AU (AY prog w) A (drawOrder n xs) Q E s
 | 0,xs,s,Q,hl,h=>by
  have e:xs=[]:=Hb.mp hl
  subst e
  unfold drawOrder
  exact Ai (h [] s.drawn (LK _))
 | n+1,[],s,Q,hl,h=>by simp at hl
 | n+1,y::r,s,Q,hl,h=>by
  unfold drawOrder
  refine AJ (AEk (by simp) ?_)
  have A1:w.draws .order (s.drawn.get .order)%(y::r).length < (y::r).length:=Nat.mod_lt _ (by simp)
  rw[DU A1]
  dsimp only
  have hx:(y::r)[w.draws .order (s.drawn.get .order)%(y::r).length]? =some (y::r)[w.draws .order (s.drawn.get .order)%(y::r).length]:=DU A1
  have hle:=i9 hx
  refine AJ (ik n _ _ _ (Nat.succ.inj (hle.trans hl)) fun ys d p=>Ai ?_)
  exact h _ d ((p.cons _).trans (Tp hx))
def slotAt (t:Hf):Nat->Nat
 | 0=>0
 | i+1=>t.place.getD i 0+1
theorem gE {L:Bool} (T:TabOk L t) {i:Nat} (hi:i<=t.place.size):SetTable.below t.place (slotAt t i)=i:=by
 cases i with
 | zero=>exact fz T.RW (fun i a h _=>absurd h (Oy i)) (fun i a _ _=>Ci a) hi
 | succ i=>
  have A1:i < t.place.size:=hi
  have e:t.place[i]? =some (t.place[i]):=IU A1
  have ed:slotAt t (i+1)=t.place[i]+1:=by
   show t.place.getD i 0+1=_
   rw[dI,e]
   rfl
  rw[ed]
  refine fz T.RW (fun j b hj hb=>?_) (fun j b hj hb=>?_) hi
  . by_cases q:j=i
    . subst q
      rw[e] at hb
      cases hb
      lia
    . have:=RX T.RW (show j < i by lia) hb e
      lia
  . have:=RX T.RW (show i < j by lia) e hb
    lia
theorem jK {n:Nat} (h:t.fits n=true):t.place.size=n:=by
 unfold SetTable.fits at h
 rw[CB] at h
 exact eq_of_beq h.1
theorem Fq.keep {h h':Ae} (S:Fq h a o es ep t) (k:∀ob,h.get? a=some ob->h'.get? a=some ob):Fq h' a o es ep t:=⟨k _ S.ob,S.cl,S.dt,S.fit⟩
theorem a8 {first:AF} {i n:Nat} {Q:AF->AI->Prop} (g:s.heap.get? it=some (GZ first i a n ep)) (h:Q (.ref it) s):AU (AY prog w) A (pyIter (.ref it)) Q E s:=by
 have hT:s.TypeIs (.ref it) "set_iterator":=⟨_,g,rfl⟩
 have sl:Slot "set_iterator" "__iter__" "set_iterator.__iter__":=
  .of (owner:="set_iterator") (n:="__iter__") (by rw[typeLookup_type,builtinLookup_eq_fast];kernel_rfl) (by decide+kernel) (by decide+kernel) (by decide+kernel) (by first | exact .inl (by decide+kernel) | exact .inr (by decide+kernel)) (by rw[lD];kernel_rfl)
 have en:entryFor table "set_iterator.__iter__"=some Ed.«dict_keyiterator.__iter__»:=entryFor_alias (id':="dict_keyiterator.__iter__") (by kernel_rfl) rfl (by decide+kernel) (by kernel_rfl)
 refine dA hT sl (HS sl hT en ?_ (by unfold argsOk;kernel_rfl))
 unfold Ed.«dict_keyiterator.__iter__»
 wp_walk
 exact⟨_,rfl,"set_iterator",_,hT,Ho.lookup,h⟩
theorem AEm {L:Bool} (hh:A.handled=none) (BX:a≠it) (T:TabOk L t) (hL:L=true) (hB:w.params.followText "set-order"=false) (hdr:(!t.plain&&decide (es.size > 1))=false) (hf:t.fits es.size=true):
 Walks prog w A it [it,a] [it] es.size (fun i v=>∃k,es[i]? =some (k,v)) (fun i h=>h.get? it=some (GZ (.int (slotAt t i) 0) i a es.size ep)/\Fq h a o es ep t) where
 sub:=fun b hb=>by simp at hb;simp[hb]
 frame:=fun i h h' ⟨g,S⟩ k=>⟨k it (by simp) _ g,S.keep fun ob e=>k a (by simp) ob e⟩
 item:=fun i s Q E hi ⟨g,S⟩ h=>by
  have hsz:=jK hf
  have hb:=gE T (show i<=t.place.size by lia)
  have e1:=IU (xs:=es) hi
  have e2:=IU (xs:=t.place) (show i < t.place.size by lia)
  have ed:slotAt t (i+1)=t.place[i]+1:=by
   show t.place.getD i 0+1=_
   rw[dI,e2]
   rfl
  refine lF (x:=es[i].2) (nx:=slotAt t (i+1)) S rfl g (fun A' E' Q' hq=>mZ S hB hdr (T.led.trans hL) ?_) fun h' sb g'=>?_
  . rw[hb,e1,e2]
    rw[ed] at hq
    exact hq
  . have q:=h es[i].2 h' s.toks ⟨es[i].1,e1⟩ ⟨g',S.keep fun ob e=>(sb.2 a BX).trans e⟩ fun b ob hb' e=>(sb.2 b (by simpa using hb')).trans e
    exact q
 done:=fun s Q E ⟨g,S⟩ h=>by
  have hsz:=jK hf
  have hb:=gE T (show es.size<=t.place.size by lia)
  refine iy hh S rfl g (fun A' E' Q' hq=>mZ S hB hdr (T.led.trans hL) ?_) fun h' sb=>?_
  . rw[hb,dJ (by lia)]
    exact hq
  . exact h h' s.toks fun b ob hb' e=>sb b ob (by simpa using hb') e
 self:=fun i s Q E ⟨g,_⟩ h=>a8 g h
theorem AEp (hh:A.handled=none) (BX:a≠it) (hB:w.params.followText "set-order"=true):
 Walks prog w A it [it,a] [it] es.size (fun i v=>∃k,(pickOrder (w.params.setOrder a ep) es)[i]? =some (k,v)) (fun i h=>h.get? it=some (GZ (.int (0:Nat) 0) i a es.size ep)/\Fq h a o es ep t) where
 sub:=fun b hb=>by simp at hb;simp[hb]
 frame:=fun i h h' ⟨g,S⟩ k=>⟨k it (by simp) _ g,S.keep fun ob e=>k a (by simp) ob e⟩
 item:=fun i s Q E hi ⟨g,S⟩ h=>by
  have hl:(pickOrder (w.params.setOrder a ep) es).size=es.size:=by
   have:=(Uw (w.params.setOrder a ep) es).length_eq
   simpa using this
  have e1:=IU (xs:=pickOrder (w.params.setOrder a ep) es) (show i < _ by lia)
  refine lF (x:=(pickOrder (w.params.setOrder a ep) es)[i].2) (nx:=0) S rfl g (fun A' E' Q' hq=>md S hB rfl ?_) fun h' sb g'=>?_
  . rw[e1]
    exact hq
  . exact h _ h' s.toks ⟨_,e1⟩ ⟨g',S.keep fun ob e=>(sb.2 a BX).trans e⟩ fun b ob hb' e=>(sb.2 b (by simpa using hb')).trans e
 done:=fun s Q E ⟨g,S⟩ h=>by
  have hl:(pickOrder (w.params.setOrder a ep) es).size=es.size:=by
   have:=(Uw (w.params.setOrder a ep) es).length_eq
   simpa using this
  refine iy hh S rfl g (fun A' E' Q' hq=>md S hB rfl ?_) fun h' sb=>?_
  . rw[dJ (by lia)]
    exact hq
  . exact h h' s.toks fun b ob hb' e=>sb b ob (by simpa using hb') e
 self:=fun i s Q E ⟨g,_⟩ h=>a8 g h
theorem AEl {tp:AA} {pm:List Nat} (hh:A.handled=none) (BX:a≠it) (hnt:tp≠it) (hp:pm.Perm (Ca es.size)):
 Walks prog w A it [it,a,tp] [it] es.size (fun i v=>∃p k,pm[i]? =some p/\es[p]? =some (k,v)) (fun i h=>h.get? it=some (GZ (.ref tp) i a es.size ep)/\Fq h a o es ep t/\h.get? tp=some { cls:=.type "tuple",data:=.seq (pm.map fun p:Nat=>Mq p 0).toArray }) where
 sub:=fun b hb=>by simp at hb;simp[hb]
 frame:=fun i h h' ⟨g,S,z⟩ k=>⟨k it (by simp) _ g,S.keep fun ob e=>k a (by simp) ob e,k tp (by simp) _ z⟩
 item:=fun i s Q E hi ⟨g,S,z⟩ h=>by
  have hl:pm.length=es.size:=by rw[hp.length_eq,Mf]
  have e1:=DU (l:=pm) (show i < pm.length by lia)
  have hm:pm[i] < es.size:=JX.mp (hp.mem_iff.mp (List.getElem_mem _))
  have e2:=IU (xs:=es) hm
  refine yk (p:=pm[i]) (hx:=es[pm[i]].1) (x:=es[pm[i]].2) S rfl g z ?_ e2 fun h' sb g'=>?_
  . rw[List.getElem?_toArray,CM,e1]
    rfl
  . exact h _ h' s.toks ⟨_,_,e1,e2⟩ ⟨g',S.keep fun ob e=>(sb.2 a BX).trans e,(sb.2 tp hnt).trans z⟩ fun b ob hb' e=>(sb.2 b (by simpa using hb')).trans e
 done:=fun s Q E ⟨g,S,z⟩ h=>by
  have hl:pm.length=es.size:=by rw[hp.length_eq,Mf]
  refine uO hh S rfl g z ?_ fun h' sb=>?_
  . rw[List.getElem?_toArray,CM,XI (by lia)]
    rfl
  . exact h h' s.toks fun b ob hb' e=>sb b ob (by simpa using hb') e
 self:=fun i s Q E ⟨g,_,_⟩ h=>a8 g h
end
theorem Zk {α:Type} {P:Nat->AF->Prop} {vs:Array AF} {n:Nat} {l:List α} (f:α->AF) (h:ItemsOf P vs n) (hl:l.length=n) (hP:∀i v,P i v->∃x,l[i]? =some x/\f x=v):vs.toList=l.map f:=by
 apply List.ext_getElem?
 intro i
 rcases Ow i n with q | q
 . have e:vs.toList[i]? =some (vs.toList[i]'(by rw[E1,h.1];exact q)):=DU _
   obtain⟨x,hx,hf⟩:=hP i _ (h.2 i _ (by rw[<-J5];exact e))
   rw[e,CM,hx]
   exact congrArg some hf.symm
 . rw[XI (by rw[E1,h.1];exact q),XI (by rw[AR,hl];exact q)]
section
variable {prog:Av} {w:Am} {A:Bf} {E:AF->AI->Prop} {s:AI} {a it:AA} {o:Aq} {es:Array (Int×AF)} {ep:Nat} {t:Hf}
theorem ADP {Q:AF->AI->Prop} (hh:A.handled=none) (S:Fq s.heap a o es ep t) (T:TabOk (Ew w) t) (hz:es.size<=AZ)
 (h:∀(h':Ae) (d:Drawn) (it:AA) (fp:List AA) (P:Nat->AF->Prop) (St:Nat->Ae->Prop),(∀b ob,s.heap.get? b=some ob->h'.get? b=some ob)->s.heap.objs.size<=it->(∀b∈fp,b=a\/s.heap.objs.size<=b)->(∀b∈fp,b < h'.objs.size)->
  (∀A:Bf,A.handled=none->Walks prog w A it fp [it] es.size P St)->St 0 h'->(∀vs,ItemsOf P vs es.size->vs.toList.Perm (es.toList.map (·.2)))->Q (.ref it) { s with heap:=h',drawn:=d }):
 AU (AY prog w) A (pyIter (.ref a)) Q E s:=by
 have hT:s.TypeIs (.ref a) "set":=⟨_,S.ob,S.cl⟩
 have A1:a < s.heap.objs.size:=Bs S.ob
 refine dA hT PySem.F.slot_set_iter (HS PySem.F.slot_set_iter hT uS ?_ (PySem.F.args_set_iter_1 _))
 unfold Ed.«frozenset.__iter__» Builtin.Frozenset.slot0 slotArgs Builtin.Frozenset.addrOf Builtin.Frozenset.sizeOf
 simp only[Sh,Ob,Cg,if_false,D7,bne_self_eq_false]
 refine AJ (AJ (Ai (Ai (AJ (AJ (Wx S.ob S.dt S.fit (Ai ?_)))))))
 unfold setDrawn
 refine AJ (AJ (SN S.ob S.dt S.fit ?_))
 dsimp only
 refine AJ (byText (Ai ?_))
 refine show AU (AY prog w) _ (if (!w.params.followText "set-order"&&(!t.plain&&decide (es.size > 1)))=true then _ else _) _ _ s from ?_
 have Q9:∀(x:Aq) b ob,s.heap.get? b=some ob->(s.heap.push x).get? b=some ob:=fun x b ob e=>Bz _ e
 cases hB:w.params.followText "set-order" with
 | true=>
  simp only[Ob,G0,Cg,if_false]
  refine AJ (Ai (AJ (qJ S.ob S.dt S.fit (AJ (Hq (Ai ⟨_,rfl,"set_iterator",_,⟨_,Ck _ rfl,rfl⟩,Ho.lookup,?_⟩) (by size_fits))))))
  refine h (s.heap.push (GZ (.int (0:Nat) 0) 0 a es.size ep)) s.drawn s.heap.objs.size [s.heap.objs.size,a] _ _ (Q9 _) (Aj _) (fun b hb=>?_) (fun b hb=>?_) (fun A' hA=>AEp (o:=o) (t:=t) hA (C4 A1) hB) ⟨Ck _ rfl,S.keep fun ob e=>Q9 _ _ _ e⟩ fun vs hv=>?_
  . rcases BK.mp hb with z | z
    . exact .inr (JZ z.symm)
    . exact .inl (DZ.mp z)
  . rw[ML]
    rcases BK.mp hb with z | z
    . rw[z];exact Hu _
    . rw[DZ.mp z];exact G8 A1
  . have hl:=(Uw (w.params.setOrder a ep) es).length_eq
    rw[Zk (l:=(pickOrder (w.params.setOrder a ep) es).toList) (·.2) hv (by simpa using hl) fun i v ⟨k,e⟩=>⟨(k,v),by rw[J5];exact e,rfl⟩]
    exact (Uw _ es).map _
 | false=>
  have hL:Ew w=true:=by unfold Ew;rw[hB];rfl
  cases hdr:(!t.plain&&decide (es.size > 1)) with
  | false=>
   simp only[Oa,Cg,if_false]
   refine AJ (Ai (AJ (qJ S.ob S.dt S.fit (AJ (Hq (Ai ⟨_,rfl,"set_iterator",_,⟨_,Ck _ rfl,rfl⟩,Ho.lookup,?_⟩) (by size_fits))))))
   refine h (s.heap.push (GZ (.int (slotAt t 0:Nat) 0) 0 a es.size ep)) s.drawn s.heap.objs.size [s.heap.objs.size,a] _ _ (Q9 _) (Aj _) (fun b hb=>?_) (fun b hb=>?_) (fun A' hA=>AEm (o:=o) (ep:=ep) hA (C4 A1) T hL hB hdr S.fit) ⟨Ck _ rfl,S.keep fun ob e=>Q9 _ _ _ e⟩ fun vs hv=>?_
   . rcases BK.mp hb with z | z
     . exact .inr (JZ z.symm)
     . exact .inl (DZ.mp z)
   . rw[ML]
     rcases BK.mp hb with z | z
     . rw[z];exact Hu _
     . rw[DZ.mp z];exact G8 A1
   . rw[Zk (l:=es.toList) (·.2) hv (by simp) fun i v ⟨k,e⟩=>⟨(k,v),by rw[J5];exact e,rfl⟩]
  | true=>
   simp only[Bool.not_false,dQ,if_true]
   refine AJ (ik es.size (Ca es.size) _ _ (by simp) fun pm d hp=>?_)
   have Cr:pm.length=es.size:=by rw[hp.length_eq,Mf]
   refine AJ (qI ?_ (by rw[AR,Cr];exact hz))
   have S1:Fq (s.heap.push { cls:=.type "tuple",data:=.seq (pm.map fun i:Nat=>rawInt i).toArray }) a o es ep t:=S.keep fun ob e=>Q9 _ _ _ e
   refine AJ (qJ (s:={ s with heap:=s.heap.push { cls:=.type "tuple",data:=.seq (pm.map fun i:Nat=>rawInt i).toArray },drawn:=d }) S1.ob S1.dt S1.fit ?_)
   refine AJ (Hq (Ai ⟨_,rfl,"set_iterator",_,⟨_,Ck _ rfl,rfl⟩,Ho.lookup,?_⟩) (by size_fits))
   have hs1:(s.heap.push { cls:=.type "tuple",data:=.seq (pm.map fun i:Nat=>rawInt i).toArray }).objs.size=s.heap.objs.size+1:=ML ..
   refine h ((s.heap.push { cls:=.type "tuple",data:=.seq (pm.map fun i:Nat=>rawInt i).toArray }).push (GZ (.ref s.heap.objs.size) 0 a es.size ep)) d (s.heap.push { cls:=.type "tuple",data:=.seq (pm.map fun i:Nat=>rawInt i).toArray }).objs.size
    [(s.heap.push { cls:=.type "tuple",data:=.seq (pm.map fun i:Nat=>rawInt i).toArray }).objs.size,a,s.heap.objs.size] _ _ (fun b ob e=>Bz _ (Bz _ e)) (by rw[hs1];exact Gi _) (fun b hb=>?_) (fun b hb=>?_)
    (fun A' hA=>AEl (o:=o) (t:=t) (ep:=ep) (tp:=s.heap.objs.size) (pm:=pm) hA (by rw[hs1];exact C4 (G8 A1)) (by rw[hs1];exact C4 (Hu _)) hp)
    ⟨Ck _ rfl,S1.keep fun ob e=>Bz _ e,Bz _ (Ck _ rfl)⟩ fun vs hv=>?_
   . rcases BK.mp hb with z | z
     . right;rw[z,hs1];exact Gi _
     . rcases BK.mp z with z | z
       . exact .inl z
       . right;rw[DZ.mp z];exact Aj _
   . rw[ML,hs1]
     rcases BK.mp hb with z | z
     . rw[z,hs1];exact Hu _
     . rcases BK.mp z with z | z
       . rw[z];exact G8 (G8 A1)
       . rw[DZ.mp z];exact G8 (Hu _)
   . have e1:vs.toList=(pm.filterMap fun p=>es[p]?).map (·.2):=by
      have Cm:∀p∈pm,∃x,es[p]? =some x:=fun p hp'=>⟨_,IU (JX.mp (hp.mem_iff.mp hp'))⟩
      have go:∀l:List Nat,(∀p∈l,∃x,es[p]? =some x)->∀i:Nat,(l.filterMap fun p=>es[p]?)[i]? =(l[i]?).bind fun p=>es[p]? :=by
       intro l
       induction l with
       | nil=>intro _ i;simp
       | cons p r ih=>
        intro hl i
        obtain⟨x,hx⟩:=hl p Bl
        rw[Ma hx]
        cases i with
        | zero=>simp[hx]
        | succ i=>simpa using ih (fun q hq=>hl q (B2 _ hq)) i
      have len:(pm.filterMap fun p=>es[p]?).length=es.size:=by
       have wR:∀l:List Nat,(∀p∈l,∃x,es[p]? =some x)->(l.filterMap fun p=>es[p]?).length=l.length:=by
        intro l
        induction l with
        | nil=>intro _;rfl
        | cons p r ih=>
         intro hl
         obtain⟨x,hx⟩:=hl p Bl
         rw[Ma hx,BO,BO,ih fun q hq=>hl q (B2 _ hq)]
       rw[wR pm Cm,Cr]
      exact Zk (l:=pm.filterMap fun p=>es[p]?) (·.2) hv len fun i v ⟨p,k,h1,h2⟩=>⟨(k,v),by rw[go pm Cm i,h1];exact h2,rfl⟩
     rw[e1]
     refine List.Perm.map _ ((hp.filterMap _).trans ?_)
     rw[filterMap_getElem?_range]
theorem xT {Q:Bool->AI->Prop} (hT:s.TypeIs (.ref a) "set") (h:Q false s):AU (AY prog w) A (Builtin.List.listLengthHint (.ref a)) Q E s:=by
 unfold Builtin.List.listLengthHint
 refine AJ (wpAny_specialOf hT PySem.F.slot_set_len.lookup ?_)
 generalize iq:("set.__len__":String)=id1
 wp_delta
 rw[show splitId id1=some ("set","__len__") from by subst iq;decide+kernel]
 subst iq
 refine AJ (Wu (T:="set") (b:=true) hT (by rw[lD];kernel_rfl) (qG (fun z=>absurd z (by decide)) fun _=>qG (fun _=>AJ (wpAny_typeOf hT (Ai h))) fun z=>absurd (by decide+kernel) z))
theorem ADO {R:Result->AI->Prop} {S:AA} {res:AF} (hh:A.handled=none) (W0:Fq s.heap a o es ep t) (T:TabOk (Ew w) t) (hz:es.size<=AZ) (hS:s.heap.get? S=some { cls:=.type "list",data:=.seq #[] })
 (h:∀h' tk d (acc:Array AF) c,(∀b ob,b≠S->s.heap.get? b=some ob->h'.get? b=some ob)->h'.get? S=some { cls:=.type "list",dict:=none,data:=.seq acc c,slots:= #[] }->acc.toList.Perm (es.toList.map (·.2))->R (.ok (.ret res)) { s with heap:=h',toks:=tk,drawn:=d }):
 AU (AY prog w) A.in1 (Builtin.List.listExtendWith (.ref S) (.ref a) res) (fun fin s'=>match fin with | .done f=>R (.ok f) s' | .again c'=>c'.quiet=true/\codeAny (AY prog w) A c' R s') (fun e s'=>R (.error e) s') s:=by
 have hT:s.TypeIs (.ref a) "set":=⟨_,W0.ob,W0.cl⟩
 have jj:S≠a:=fun z=>by
  rw[z,W0.ob] at hS
  have e:=CL hS
  have:=W0.cl
  rw[e] at this
  exact absurd this (by decide)
 unfold Builtin.List.listExtendWith
 refine AJ (wpAny_typeOf hT ?_)
 have h1:Builtin.List.listSameRef (.ref S) (.ref a)=false:=by simp[Builtin.List.listSameRef,jj]
 have h2:(F4 "set"==F4 "list")=false:=by decide
 have h3:(F4 "set"==F4 "tuple")=false:=by decide
 simp only[h1,h2,h3,dR,Cg,if_false]
 refine AJ (ADP (A:=A.in1) hh W0 T hz fun h' d it fp P St keep CJ hfp hfl W st good=>?_)
 have hSf:S∉fp:=fun z=>by
  rcases hfp S z with q | q
  . exact jj q
  . exact absurd (Bs hS) (Xb.mpr q)
 have key:∀(h2:Ae) (c tk:Nat),St 0 h2->(∀b ob,b≠S->s.heap.get? b=some ob->h2.get? b=some ob)->h2.get? S=some { cls:=.type "list",data:=.seq #[] c }->
  codeAny (AY prog w) A (.builtin "list.extend.loop" ⟨[.ref S,.ref it,res],[]⟩) R { s with heap:=h2,toks:=tk,drawn:=d }:=by
  intro h2 c tk st2 k2 hS2
  refine codeAny_extend_loopS (W A.in1 hh).toS hz S hSf res es.size 0 _ #[] c rfl (Ci _) st2 hS2 (ItemsOf.nil _) fun s' acc c' hm hS' hacc=>?_
  rw[Moved.eq_with hm]
  refine h s'.heap s'.toks d acc c' (fun b ob hb e=>hm.heap b ob (fun z=>?_) (k2 b ob hb e)) hS' (good acc hacc)
  rcases BK.mp z with z | z
  . exact hb z
  . rw[DZ.mp z] at e
    exact absurd (Bs e) (Xb.mpr CJ)
 have hS1:=keep S _ hS
 refine AJ (HV (xT (a:=a) ⟨_,keep _ _ W0.ob,W0.cl⟩ ?_))
 refine qG (fun _=>?_) (fun _=>Ai ⟨Kt PySem.F.plain_extend_loop _,key _ 0 _ st (fun b ob _ e=>keep b ob e) hS1⟩)
 refine AJ (Wv (AJ ?_))
 refine show AU _ _ (updateSeq S (·.push .none) >>= fun _=>updateSeq S (·.pop)) _ _ _ from AJ (Wz hS1 rfl ?_)
 have hS2:=MV (DP (·.push Gn)) hS1 rfl
 refine Wz (hz:=by seq_fits) hS2 rfl ?_
 have hS3:=MV (DP (·.pop)) hS2 rfl
 have oth:∀b ob,b≠S->h'.get? b=some ob->((h'.update S (DP (·.push Gn))).update S (DP (·.pop))).get? b=some ob:=fun b ob hb e=>
  (JT _ _ (Ne.symm hb)).trans ((JT _ _ (Ne.symm hb)).trans e)
 exact Ai ⟨Kt PySem.F.plain_extend_loop _,key _ _ _ ((W A.in1 hh).frame 0 _ _ st fun b hb ob e=>oth b ob (fun z=>hSf (z▸hb)) e) (fun b ob hb e=>oth b ob hb (keep b ob e)) hS3⟩
theorem ADN {R:List AF->AI->Prop} (hh:A.handled=none) (W0:Fq s.heap a o es ep t) (T:TabOk (Ew w) t) (hz:es.size<=AZ)
 (h:∀h' tk d vs,(∀b ob,s.heap.get? b=some ob->h'.get? b=some ob)->s.heap.objs.size<=h'.objs.size->vs.Perm (es.toList.map (·.2))->R vs { s with heap:=h',toks:=tk,drawn:=d }):AU (AY prog w) A (collect (.ref a)) R E s:=by
 unfold collect
 refine AJ (wpAny_runValue (Jd entry_proto_collect' ?_))
 rw[K9 PySem.F.plain_proto_collect]
 refine show AU _ A.in1 (newList [] >>= fun l=>again (.builtin "list.__iadd__" ⟨[l,.ref a],[]⟩)) _ _ s from AJ (Hq (Ai ⟨Kt PySem.F.plain_list_iadd _,Jd entry_list_iadd' ?_⟩))
 rw[K9 PySem.F.plain_list_iadd]
 have key:=ADO (prog:=prog) (w:=w) (A:=A) (s:={ s with heap:=s.heap.push { cls:=.type "list",data:=.seq ([]:List AF).toArray } }) (S:=s.heap.objs.size) (res:=.ref s.heap.objs.size)
  (R:=fun (q:Result) (s':AI)=>∃(h':Ae) (tk:Nat) (d:Drawn) (acc:Array AF) (c:Nat),q= .ok (.ret (.ref s.heap.objs.size))/\s'={ s with heap:=h',toks:=tk,drawn:=d }/\(∀b ob,s.heap.get? b=some ob->h'.get? b=some ob)/\
   h'.get? s.heap.objs.size=some { cls:=.type "list",dict:=none,data:=.seq acc c,slots:= #[] }/\acc.toList.Perm (es.toList.map (·.2)))
  hh (W0.keep fun ob e=>Bz _ e) T hz (Ck _ rfl)
  fun h' tk d acc c k g p=>⟨h',tk,d,acc,c,rfl,rfl,fun b ob e=>k b ob (C4 (Bs e)) (Bz _ e),g,p⟩
 refine show AU _ A.in1 (Builtin.List.listExtendWith (.ref s.heap.objs.size) (.ref a) (.ref s.heap.objs.size)) _ _ _ from FR key (fun fin s' x=>?_) fun e s' x=>?_
 . have go:∀(q:Result) (s2:AI),(∃(h':Ae) (tk:Nat) (d:Drawn) (acc:Array AF) (c:Nat),q= .ok (.ret (.ref s.heap.objs.size))/\s2={ s with heap:=h',toks:=tk,drawn:=d }/\(∀b ob,s.heap.get? b=some ob->h'.get? b=some ob)/\
    h'.get? s.heap.objs.size=some { cls:=.type "list",dict:=none,data:=.seq acc c,slots:= #[] }/\acc.toList.Perm (es.toList.map (·.2)))->∃u,q= .ok (.ret u)/\u= .ref s.heap.objs.size/\
    AU (AY prog w) A (load s.heap.objs.size >>= fun o=>match o.data with | .seq xs _=>pure xs.toList | _=>unsupported "internal:collect") R E s2:=by
    rintro q s2 ⟨h',tk,d,acc,c,rfl,rfl,k,g,p⟩
    exact⟨_,rfl,rfl,AJ (wpAny_load g (Ai (h h' tk d acc.toList k (Ic (Bs g)) p)))⟩
   cases fin with
   | done f=>
    obtain⟨u,e,rfl,q⟩:=go _ _ x
    cases e
    exact q
   | again c1=>
    refine⟨x.1,KZ x.2 fun q s2 y=>?_⟩
    obtain⟨u,rfl,rfl,q'⟩:=go _ _ y
    exact q'
 . obtain⟨_,_,_,_,_,e',_⟩:=x
   cases e'
theorem ADU {ms:List Int} {Q:AF->AI->Prop} (hh:A.handled=none) (S:FC prog w (Ew w) s.heap a ms)
 (h:∀h' tk d D c (out:Array AF) (ns:List Int),(∀b ob,s.heap.get? b=some ob->h'.get? b=some ob)->s.heap.objs.size<=D->h'.get? D=some (Bu "list" out c)->Du out.toList ns->ns.Perm ms->ns.Pairwise (· <= ·)->Q (.ref D) { s with heap:=h',toks:=tk,drawn:=d }):
 AU (AY prog w) A (call (.builtin "sorted") [.ref a]) Q E s:=by
 obtain⟨⟨o,es,ep,t,ho,hex,hd,hel,hi,hb,hf,ht⟩,hn⟩:=S
 have hz:es.size<=AZ:=Ya hb
 refine Calls.call_function_entry kind_sorted plain_sorted entry_sorted (args_sorted1 _) ?_
 unfold Ed.«sorted»
 refine AJ (m:=checkCount "sorted" 1 1 _) (Ai (AJ (ADN (A:=A.in1) hh ⟨ho,hex.1,hd,hf⟩ ht hz fun h1 tk d vs keep hsz pv=>?_)))
 have hvl:vs.length<=AZ:=by rw[pv.length_eq,AR,E1];exact hz
 obtain⟨ns,BQ,pn⟩:=IntsAre.Z5 pv hi
 refine AJ (qH ?_ hvl)
 have hoL:(h1.push (Bu "list" vs.toArray 0)).get? h1.objs.size=some (Bu "list" vs.toArray 0):=Ck _ rfl
 refine show AU _ _ _ _ _ { s with heap:=h1.push (Bu "list" vs.toArray 0),toks:=tk,drawn:=d } from AJ (HV (HS slot_list_sort ⟨_,hoL,rfl⟩ entry_list_sort (list_sort_treeAny hoL BQ hvl fun out ns' q1 q2 q3=>⟨_,rfl,Ai ⟨_,rfl,?_⟩⟩) (args_list_sort _)))
 obtain⟨c,hc⟩:=sortedHeap_at (vs:=vs) (out:=out) hoL
 refine h _ tk d h1.objs.size c out ns' (fun b ob e=>?_) hsz hc q1 (q2.trans pn) q3
 have e1:=keep b ob e
 have A1:=Bs e1
 rw[sortedHeap_old (C4 A1) (by rw[ML];exact G8 A1)]
 exact Bz _ e1
end
def Hv (P:Av) (w:Am) (a:AA) (ms:List Int):HO:=.ext fun h=>FC P w (Ew w) h a ms
section
variable {X:Cx}
theorem FC.get {P:Av} {w:Am} {L:Bool} {h:Ae} {a:AA} {ms:List Int} (S:FC P w L h a ms):∃o,h.get? a=some o:=by
 obtain⟨⟨o,_,_,_,e,_⟩,_⟩:=S
 exact⟨o,e⟩
theorem FC.stay {P:Av} {w:Am} {L:Bool} {h h':Ae} {a:AA} {ms:List Int} (S:FC P w L h a ms) (k:∀o,h.get? a=some o->h'.get? a=some o):FC P w L h' a ms:=by
 obtain⟨⟨o,es,ep,t,ho,r⟩,nd⟩:=S
 exact⟨⟨o,es,ep,t,k o ho,r⟩,nd⟩
theorem ADK {P:Av} {w:Am} {H:Hp} {h:Ae} {a:AA} {ms:List Int} (S:FC P w (Ew w) h a ms):DB P w H h a (Hv P w a ms):=⟨S,S.get,fun _ _ q k=>q.stay k⟩
def ACZ (P:Av) (w:Am) (K:AW):List V->Hp->VK->Prop:=fun vs H Q=>∃(a:AA) (ns:List Int),vs=[V.ref a]/\AQ K H a (ns.map V.int)/\ns.length+1 < scanBound/\
 ∀(p:AA) (ms:List Int),ms.Perm (ns.foldl FK [])->H p=none->Q (.ref p) (upd H p (Hv P w p ms))
theorem iH (hc:X.calm=true):JR X (.type "set") (ACZ X.prog X.w X.K):=by
 intro pins s σ H vs us Q I r h
 obtain⟨a,ns,rfl,hs,hb,q⟩:=h
 obtain⟨AB,rv,hl,_⟩:=I.list hs
 rw[Vals.MC r]
 have hi:=rv.ints
 refine ADM (I.ok.hd hc) hl.isList hi (by rw[hi.length];exact hb) fun h' tk ms S pm keep=>?_
 have k2:∀b u,s.heap.get? b=some u->h'.get? b=some u:=fun b u e=>keep b u (Bs e) e
 exact⟨.ref _,upd H s.heap.objs.size (Hv X.prog X.w s.heap.objs.size ms),I.laid (t':=tk) k2 (Aj _) (ADK S),rfl,q _ ms pm (I.hok.fresh (Aj _))⟩
def ACa (P:Av) (w:Am):List V->Hp->VK->Prop:=fun vs H Q=>∃(a:AA) (ms:List Int),vs=[V.ref a]/\H a=some (Hv P w a ms)/\
 ∀(p:AA) (ns:List Int),ns.Perm ms->ns.Pairwise (· <= ·)->H p=none->Q (.ref p) (upd H p (.lst (ns.map V.int)))
theorem iI (hc:X.calm=true):JR X (.builtin "sorted") (ACa X.prog X.w):=by
 intro pins s σ H vs us Q I r h
 obtain⟨a,ms,rfl,ha,q⟩:=h
 obtain⟨S,_,_⟩:=(show DB X.prog X.w H s.heap a (Hv X.prog X.w a ms) from I.hok a _ ha)
 rw[Vals.MC r]
 have hz:ms.length<=AZ:=by
  obtain⟨⟨o,es,ep,t,_,_,_,_,hi,hb,_⟩,_⟩:=id S
  rw[<-hi.length,AR,E1]
  exact Ya hb
 refine ADU (I.ok.hd hc) S fun h' tk d D c out ns keep hD hg hi pm pw=>?_
 have hfr:H D=none:=I.hok.fresh hD
 have BV:(ns.map V.int).length<=AZ:=by rw[AR,pm.length_eq];exact hz
 have new:DB X.prog X.w (upd H D (.lst (ns.map V.int))) h' D (.lst (ns.map V.int)):=⟨BV,out.toList,c,p5 hi,by rw[dN];exact hg⟩
 have I':Inv X pins σ (upd H D (.lst (ns.map V.int))) { s with heap:=h',toks:=tk,drawn:=d }:=by
  have I1:Inv X pins σ H { s with heap:=h',toks:=tk }:=I.kept keep
  have hf:DL X pins H D:=I.Iu hD hfr
  have I2:=I1.track hf (BP I.sz hD) new
  exact I2.step (s:={ s with heap:=h',toks:=tk }) (h':=h') (g':=s.gens) (d':=d) (t':=tk) (ch:=[]) (fun _ z=>nomatch z) (fun b ob _ _ _ e _=>e) (fun b ob _ _ _ e _=>⟨ob.slots,e⟩) (fun b ob _ _ n=>n) (fun b ob _ e=>⟨ob,e⟩) (fun _ _ e=>e) (fun _ _ _ e=>e)
   (fun b ps e=>⟨#[],by rw[e];simp⟩) (fun m hm=>hm) I2.hok I.bare
 exact⟨.ref D,_,I',rfl,q D ns pm pw hfr⟩
def ACV (K:AW):V->List V->Hp->VK->Prop:=fun x vs H Q=>∃l b xs zs,x= .ref l/\vs=[.ref b]/\H l=some (.lst xs)/\(Ap K H b zs\/AQ K H b zs)/\xs.length+zs.length<=AZ/\Q .non (upd H l (.lst (xs++zs)))
theorem mI:XX X "list.extend" (ACV X.K):=by
 intro pins s σ H x vs v us Q I rx rv h
 obtain⟨l,b,xs,zs,rfl,rfl,hH,hB,hz,q⟩:=h
 cases rx
 obtain⟨u,rfl,ru⟩:=rv.one
 cases ru
 obtain⟨z,AB,n,r,hl,e⟩:=I.Ni hH
 obtain⟨DT,r2,ob,n2,e2,hd2,ht2⟩:∃(DT:List AF) (_:Vals zs DT) (ob:Aq) (n2:Nat),s.heap.get? b=some ob/\ob.data= .seq DT.toArray n2/\(ob.cls= .type "tuple"\/ob.cls= .type "list"):=by
  rcases hB with hB | hB
  . obtain⟨DT,r2,⟨ob,e2,c2,n2,d2⟩,_⟩:=I.tuple hB
    exact⟨DT,r2,ob,n2,e2,d2,.inl c2⟩
  . obtain⟨DT,r2,⟨ob,n2,e2,c2,_,d2⟩,_⟩:=I.list hB
    exact⟨DT,r2,ob,n2,e2,d2,.inr c2⟩
 have Cw:=r2.length
 have hsz:AB.toArray.size+DT.toArray.size<=AZ:=by rw[Cp,Cp];lia
 refine HS Xg ⟨_,e,rfl⟩ PySem.F.entry_list_extend ?_ (PySem.F.args_list_extend_2 _ _)
 refine show AU _ _ (Builtin.List.listExtendWith (.ref l) (.ref b) .none) _ _ s from ?_
 unfold Builtin.List.listExtendWith
 refine AJ (wpAny_typeOf_ref e2 ?_)
 have hc:(Builtin.List.listSameRef (.ref l) (.ref b)||ob.cls== .type "list"||ob.cls== .type "tuple")=true:=by
  rcases ht2 with q | q
  . rw[q];simp
  . rw[q];simp
 rw[if_pos hc]
 refine AJ (Zr e2 hd2 (AJ (Zr e rfl ?_)))
 have ZK:¬(!AB.toArray.isEmpty&&Builtin.List.listTooLong (AB.toArray.size+DT.toArray.size))=true:=by
  rw[mq hsz,Oa]
  exact Bw
 rw[if_neg ZK]
 have ea:AB.toArray++DT.toArray=(AB++DT).toArray:=by simp
 refine AJ (Ua (f:=(· ++DT.toArray)) e rfl ?_ (by rw[Cp];lia) (by show (AB.toArray++DT.toArray).size<=AZ+1;rw[Array.size_append];lia))
 refine Ai ⟨_,rfl,.non,_,I.Zu (its':=AB++DT) hH e ea (r.append r2) ?_,rfl,q⟩
 rw[BZ]
 lia
end
end L2
namespace Vm
open Vbedak
theorem S9 {x y:Entry}:before x y=true↔x.clock < y.clock\/(x.clock=y.clock/\x.src < y.src):=by
 unfold before
 simp
theorem O9 {x y:Entry}:before x y=false↔y.clock < x.clock\/(x.clock=y.clock/\y.src<=x.src):=by
 rw[Bool.eq_false_iff,Ne,S9]
 lia
def keep (f:Option Entry) (x:Entry):Option Entry:=match f with
 | none=>some x
 | some y=>if before y x=true then some x else some y
theorem lO:∀(l:List Entry) (x:Entry),latest (l++[x])=keep (latest l) x
 | [],x=>rfl
 | y::r,x=>by
  show (match latest (r++[x]) with | none=>some y | some z=>if before y z=true then some z else some y)=keep (match latest r with | none=>some y | some z=>if before y z=true then some z else some y) x
  rw[lO r x]
  cases latest r with
  | none=>rfl
  | some z=>
   show (match (if before z x=true then some x else some z) with | none=>some y | some z=>if before y z=true then some z else some y)=keep (if before y z=true then some z else some y) x
   by_cases h1:before z x=true
   . rw[if_pos h1]
     by_cases h2:before y z=true
     . rw[if_pos h2]
       have h3:before y x=true:=by rw[S9] at*;lia
       show (if before y x=true then some x else some y)=if before z x=true then some x else some z
       rw[if_pos h3,if_pos h1]
     . rw[if_neg h2]
       rfl
   . rw[if_neg h1]
     by_cases h2:before y z=true
     . rw[if_pos h2]
       show (if before y z=true then some z else some y)=if before z x=true then some x else some z
       rw[if_pos h2,if_neg h1]
     . rw[if_neg h2]
       have h3:¬before y x=true:=by
        rw[S9] at*
        lia
       show (if before y z=true then some z else some y)=if before y x=true then some x else some y
       rw[if_neg h2,if_neg h3]
theorem pW (l:List Entry) (x:Entry) (k m:Nat):told (l++[x]) k m=if covers x k m=true then keep (told l k m) x else told l k m:=by
 unfold told
 rw[Ef]
 by_cases h:covers x k m=true
 . rw[if_pos h,Eg (p:=fun x=>covers x k m) h,Dx,lO]
 . rw[if_neg h,Dv (p:=fun x=>covers x k m) h,Dx,EG]
theorem lN:∀{l:List Entry} {e:Entry},latest l=some e->e∈l
 | x::r,e,h=>by
  have h':(match latest r with | none=>some x | some y=>if before x y=true then some y else some x)=some e:=h
  cases hr:latest r with
  | none=>
   rw[hr] at h'
   cases h'
   exact Bl
  | some y=>
   rw[hr] at h'
   have h2:(if before x y=true then some y else some x)=some e:=h'
   split at h2
   . cases h2
     exact B2 _ (lN hr)
   . cases h2
     exact Bl
theorem AEP {l:List Entry} {k m:Nat} {e:Entry} (h:told l k m=some e):e∈l/\covers e k m=true:=Ia.mp (lN h)
abbrev Up (l:List Nat):Prop:=l.Pairwise (· < ·)
theorem pj:∀{l m:List Nat},Up l->Up m->(∀x,x∈l↔x∈m)->l=m
 | [],[],_,_,_=>rfl
 | [],y::m,_,_,h=>absurd ((h y).mpr Bl) (by simp)
 | x::l,[],_,_,h=>absurd ((h x).mp Bl) (by simp)
 | x::l,y::m,h1,h2,h=>by
  obtain⟨a1,a2⟩:=Dr.mp h1
  obtain⟨b1,b2⟩:=Dr.mp h2
  have e:x=y:=by
   rcases BK.mp ((h x).mp Bl) with q | q
   . exact q
   . rcases BK.mp ((h y).mpr Bl) with r | r
     . exact r.symm
     . have:=a1 y r
       have:=b1 x q
       lia
  subst e
  rw[pj a2 b2 fun z=>?_]
  constructor
  . intro hz
    rcases BK.mp ((h z).mp (B2 _ hz)) with q | q
    . have:=a1 z hz
      lia
    . exact q
  . intro hz
    rcases BK.mp ((h z).mpr (B2 _ hz)) with q | q
    . have:=b1 z hz
      lia
    . exact q
theorem aT (x:Nat):∀(l:List Nat) (y:Nat),y∈rising x l↔y=x\/y∈l
 | [],y=>by simp[rising]
 | z::r,y=>by
  unfold rising
  by_cases h:x < z
  . rw[if_pos h];simp
  . rw[if_neg h]
    by_cases h2:x=z
    . rw[if_pos h2,h2];simp
    . rw[if_neg h2,BK,aT x r y,BK]
      constructor
      . rintro (q | q | q)
        . exact .inr (.inl q)
        . exact .inl q
        . exact .inr (.inr q)
      . rintro (q | q | q)
        . exact .inr (.inl q)
        . exact .inl q
        . exact .inr (.inr q)
theorem oN (x:Nat):∀{l:List Nat},Up l->Up (rising x l)
 | [],_=>by simp[rising,Up]
 | z::r,h=>by
  obtain⟨a1,a2⟩:=Dr.mp h
  unfold rising
  by_cases h1:x < z
  . rw[if_pos h1]
    refine Dr.mpr ⟨fun y hy=>?_,h⟩
    rcases BK.mp hy with q | q
    . lia
    . have:=a1 y q
      lia
  . rw[if_neg h1]
    by_cases h2:x=z
    . rw[if_pos h2];exact h
    . rw[if_neg h2]
      refine Dr.mpr ⟨fun y hy=>?_,oN x a2⟩
      rcases (aT x r y).mp hy with q | q
      . lia
      . exact a1 y q
theorem Qe:∀(l z:List Nat),Up z->Up (l.foldl (fun z m=>rising m z) z)/\∀y,y∈l.foldl (fun z m=>rising m z) z↔y∈l\/y∈z
 | [],z,h=>⟨h,fun y=>by simp⟩
 | x::l,z,h=>by
  obtain⟨i1,i2⟩:=Qe l (rising x z) (oN x h)
  refine⟨i1,fun y=>?_⟩
  rw[FV,i2 y,aT,BK]
  constructor
  . rintro (q | q | q)
    . exact .inl (.inr q)
    . exact .inl (.inl q)
    . exact .inr q
  . rintro ((q | q) | q)
    . exact .inr (.inl q)
    . exact .inl q
    . exact .inr (.inr q)
theorem Kb (l:List Entry) (k a b:Nat):Up (cuts l k a b):=(Qe _ [] LJ).1
theorem Ka (l:List Entry) (k a b:Nat) (h:a < b) (y:Nat):y∈cuts l k a b↔y=a\/(∃e∈l,e.key=k/\(y=e.a\/y=e.b)/\a<=y/\y < b):=by
 unfold cuts
 rw[(Qe _ [] LJ).2 y]
 simp only[XR,or_false,Ia,BK,List.mem_flatMap,CB,decide_eq_true_eq,beq_iff_eq]
 constructor
 . rintro⟨q | ⟨e,⟨h1,h2⟩,h3⟩,h4,h5⟩
   . exact .inl q
   . exact .inr ⟨e,h1,h2,h3,h4,h5⟩
 . rintro (q | ⟨e,h1,h2,h3,h4,h5⟩)
   . subst q
     exact⟨.inl rfl,Aj _,h⟩
   . exact⟨.inr ⟨e,⟨h1,h2⟩,h3⟩,h4,h5⟩
theorem TQ (l:List Entry) (k a b:Nat) (h:a < b):∃r,cuts l k a b=a::r:=by
 cases hc:cuts l k a b with
 | nil=>
  have:=(Ka l k a b h a).mpr (.inl rfl)
  rw[hc] at this
  cases this
 | cons x r=>
  have hx:a<=x:=by
   have hm:x∈cuts l k a b:=by rw[hc];exact Bl
   rcases (Ka l k a b h x).mp hm with q | ⟨e,_,_,_,q,_⟩
   . lia
   . exact q
  have ha:a∈x::r:=by
   rw[<-hc]
   exact (Ka l k a b h a).mpr (.inl rfl)
  have hu:=Kb l k a b
  rw[hc] at hu
  rcases BK.mp ha with q | q
  . exact⟨r,by rw[q]⟩
  . have:=(Dr.mp hu).1 a q
    lia
theorem iL (l:List Entry) (k a b:Nat) (h:a < b) {y:Nat} (hy:y∈cuts l k a b):a<=y/\y < b:=by
 rcases (Ka l k a b h y).mp hy with q | ⟨e,_,_,_,q1,q2⟩
 . lia
 . exact⟨q1,q2⟩
section
variable {α:Type} [DecidableEq α]
def C3 (runs:List (Nat×α)) (p:Nat×α):List (Nat×α):=match runs.getLast? with
 | none=>runs++[p]
 | some q=>if q.2=p.2 then runs else runs++[p]
def runsFrom (v:α):List (Nat×α)->List (Nat×α)
 | []=>[]
 | p::r=>if v=p.2 then runsFrom v r else p::runsFrom p.2 r
def runs:List (Nat×α)->List (Nat×α)
 | []=>[]
 | p::r=>p::runsFrom p.2 r
theorem Ye:∀(l:List (Nat×α)) (acc:List (Nat×α)) (q:Nat×α),l.foldl C3 (acc++[q])=acc++q::runsFrom q.2 l
 | [],acc,q=>rfl
 | p::r,acc,q=>by
  rw[FV]
  have e:C3 (acc++[q]) p=if q.2=p.2 then acc++[q] else (acc++[q])++[p]:=by
   unfold C3
   rw[eF]
  rw[e]
  unfold runsFrom
  by_cases h:q.2=p.2
  . rw[if_pos h,if_pos h]
    exact Ye r acc q
  . rw[if_neg h,if_neg h,Ye r (acc++[q]) p,Ha]
    rfl
theorem Tw (l:List (Nat×α)):l.foldl C3 []=runs l:=by
 cases l with
 | nil=>rfl
 | cons p r=>exact Ye r [] p
end
theorem Zm:∀(n:Nat) (p:Nat×Nat) (r:List (Nat×Nat)),r.length<=n->joined (p::r)=p::runsFrom p.2 r
 | n,p,[],_=>by rw[joined];rfl;intro x y r h;cases h
 | 0,p,q::r,h=>by simp at h
 | n+1,p,q::r,h=>by
  rw[joined]
  unfold runsFrom
  by_cases e:p.2=q.2
  . rw[if_pos e,if_pos e]
    exact Zm n p r (by simpa using h)
  . rw[if_neg e,if_neg e,Zm n q r (by simpa using h)]
theorem yn (l:List (Nat×Nat)):joined l=runs l:=by
 cases l with
 | nil=>rw[joined];rfl;intro x y r h;cases h
 | cons p r=>exact Zm r.length p r (Aj _)
theorem RF (l:List Entry) (k a b:Nat):line l k a b=runs ((cuts l k a b).map fun m=>(m,value l k m)):=yn _
abbrev P2:=Nat×Nat
def En (x:Change):Bool:=x.2.2.1 != x.2.2.2
def spans (b:Nat):List (Nat×P2)->List Change
 | []=>[]
 | [p]=>[(p.1,b,p.2)]
 | p::q::r=>(p.1,q.1,p.2)::spans b (q::r)
theorem o9 (b:Nat) (p:Nat×P2) (r:List (Nat×P2)):∃e t,spans b (p::r)=(p.1,e,p.2)::t/\∀x':Nat,spans b ((x',p.2)::r)=(x',e,p.2)::t:=by
 cases r with
 | nil=>exact⟨b,[],rfl,fun _=>rfl⟩
 | cons q r=>exact⟨q.1,spans b (q::r),rfl,fun _=>rfl⟩
theorem pK (b:Nat) (f:Nat->P2):∀cs:List Nat,stretches b f cs=spans b (cs.map fun m=>(m,f m))
 | []=>rfl
 | [m]=>rfl
 | m::n::r=>by
  show (m,n,f m)::stretches b f (n::r)=(m,n,f m)::spans b ((n::r).map fun m=>(m,f m))
  rw[pK b f (n::r)]
theorem lr (x:Change):merged [x]=[x]:=by rw[merged];intro a b r h;cases h
theorem Zz:merged []=[]:=by rw[merged];intro a b r h;cases h
theorem lu (x y:Change) (r:List Change):merged (x::y::r)=if x.2.1=y.1/\x.2.2=y.2.2 then merged ((x.1,y.2.1,x.2.2)::r) else x::merged (y::r):=by rw[merged]
theorem pA (b:Nat):∀(r:List (Nat×P2)) (p:Nat×P2),(p::r).Pairwise (fun x y=>x.1 < y.1)->∀z∈spans b (p::r),p.1 < z.1\/(z.1=p.1/\z.2.2=p.2)
 | [],p,_,z,hz=>by
  have e:z=(p.1,b,p.2):=by simpa [spans] using hz
  subst e
  exact .inr ⟨rfl,rfl⟩
 | q::r,p,h,z,hz=>by
  obtain⟨h1,h2⟩:=Dr.mp h
  rcases BK.mp hz with e | hz
  . subst e
    exact .inr ⟨rfl,rfl⟩
  . left
    have hq:=h1 q Bl
    rcases pA b r q h2 z hz with e | ⟨e,_⟩
    . lia
    . lia
theorem zx {x:Change} {l:List Change} (h:∀z∈l,x.2.1 < z.1\/ ¬x.2.2=z.2.2):merged (x::l)=x::merged l:=by
 cases l with
 | nil=>rw[lr,Zz]
 | cons y r=>
  rw[lu,if_neg]
  rintro⟨h1,h2⟩
  rcases h y Bl with q | q
  . lia
  . exact q h2
theorem Uc (b:Nat):∀(r:List (Nat×P2)) (p:Nat×P2),(p::r).Pairwise (fun x y=>x.1 < y.1)->merged ((spans b (p::r)).filter En)=(spans b (p::runsFrom p.2 r)).filter En
 | [],p,_=>by
  show merged ((spans b [p]).filter En)=(spans b [p]).filter En
  show merged ([(p.1,b,p.2)].filter En)=[(p.1,b,p.2)].filter En
  by_cases h:En (p.1,b,p.2)=true
  . rw[Eg h,Dx,lr]
  . rw[Dv h,Dx,Zz]
 | q::r,p,hp=>by
  obtain⟨h1,h2⟩:=Dr.mp hp
  have hpq:=h1 q Bl
  have EW:((p.1,q.2)::r).Pairwise (fun x y=>x.1 < y.1):=Dr.mpr ⟨fun y hy=>h1 y (B2 _ hy),(Dr.mp h2).2⟩
  show merged (((p.1,q.1,p.2)::spans b (q::r)).filter En)=(spans b (p::runsFrom p.2 (q::r))).filter En
  by_cases e:p.2=q.2
  ·
   have er:runsFrom p.2 (q::r)=runsFrom q.2 r:=by
    rw[<-e]
    show (if p.2=q.2 then runsFrom p.2 r else _)=_
    rw[if_pos e]
   rw[er]
   obtain⟨z,t,e1,e2⟩:=o9 b q r
   obtain⟨z',t',e3,e4⟩:=o9 b q (runsFrom q.2 r)
   have hpp:p=(p.1,q.2):=by rw[<-e]
   have ih1:=Uc b r (p.1,q.2) EW
   have ih2:=Uc b r q h2
   rw[e2 p.1] at ih1
   have g1:spans b ((p.1,q.2)::runsFrom (p.1,q.2).2 r)=(p.1,z',q.2)::t':=e4 p.1
   rw[g1] at ih1
   rw[e1,e3] at ih2
   rw[hpp,e4 p.1,e1]
   by_cases u:En (p.1,q.1,q.2)=true
   . have u':∀a c:Nat,En (a,c,q.2)=true:=fun _ _=>u
     rw[Eg u,Eg (u' _ _),lu,if_pos ⟨rfl,rfl⟩]
     rw[Eg (u' _ _)] at ih1
     exact ih1
   . have u':∀a c:Nat,¬En (a,c,q.2)=true:=fun _ _=>u
     rw[Dv u,Dv (u' _ _),Dv (u' _ _)]
     rw[Dv (u' _ _),Dv (u' _ _)] at ih2
     exact ih2
  . have er:runsFrom p.2 (q::r)=q::runsFrom q.2 r:=by
     show (if p.2=q.2 then _ else q::runsFrom q.2 r)=_
     rw[if_neg e]
    rw[er]
    have ih:=Uc b r q h2
    show merged (((p.1,q.1,p.2)::spans b (q::r)).filter En)=((p.1,q.1,p.2)::spans b (q::runsFrom q.2 r)).filter En
    by_cases u:En (p.1,q.1,p.2)=true
    . rw[Eg u,Eg u,zx,ih]
      intro z hz
      rcases pA b r q h2 z (Ia.mp hz).1 with g | ⟨_,g⟩
      . exact .inl g
      . right
        intro w
        exact e (w.trans g)
    . rw[Dv u,Dv u,ih]
theorem iB (l t:List Entry) (k a b:Nat):changes l t k a b=(spans b (runs ((cuts (l++t) k a b).map fun m=>(m,(value l k m,value t k m))))).filter En:=by
 unfold changes
 rw[pK]
 have hu:((cuts (l++t) k a b).map fun m=>((m,(value l k m,value t k m)):Nat×P2)).Pairwise (fun x y=>x.1 < y.1):=by
  rw[XT]
  exact Kb _ _ _ _
 show merged ((spans b ((cuts (l++t) k a b).map fun m=>(m,(value l k m,value t k m)))).filter En)=_
 cases hc:(cuts (l++t) k a b).map fun m=>((m,(value l k m,value t k m)):Nat×P2) with
 | nil=>exact Zz
 | cons p r=>
  rw[hc] at hu
  exact Uc b r p hu
theorem Wh (b:Nat):∀l:List (Nat×P2),spans b l=(l.zip ((l.drop 1).map (·.1)++[b])).map fun x=>(x.1.1,x.2,x.1.2)
 | []=>rfl
 | [p]=>rfl
 | p::q::r=>by
  show (p.1,q.1,p.2)::spans b (q::r)=_
  rw[Wh b (q::r)]
  rfl
theorem ADX (p:Nat->Bool) (n:Nat):sinceTick p (n+1)=if p n=true then sinceTick p n else n+1:=rfl
abbrev Stamp:=Nat×Nat
def stp (e:Entry):Stamp:=(e.clock,e.src)
theorem same_iff {x y:Entry}:sameStamp x y=true↔stp x=stp y:=by
 unfold sameStamp stp
 simp
theorem jm {l:List Entry} {x:Entry}:has l x=true↔stp x∈l.map stp:=by
 unfold has
 rw[List.any_eq_true,Dc]
 constructor
 . rintro⟨y,h1,h2⟩
   exact⟨y,h1,(same_iff.mp h2).symm⟩
 . rintro⟨y,h1,h2⟩
   exact⟨y,h1,same_iff.mpr h2.symm⟩
abbrev Once (l:List Entry):Prop:=(l.map stp).Nodup
theorem aO (e:Entry):∀l:List Entry,(putByStamp e l).Perm (e::l)
 | []=>LK _
 | x::r=>by
  unfold putByStamp
  split
  . exact LK _
  . exact ((aO e r).cons x).trans (dw e x r)
abbrev Ij (l:List Entry):Prop:=l.Pairwise fun x y=>before y x=false
theorem oA (e:Entry):∀{l:List Entry},Ij l->Ij (putByStamp e l)
 | [],_=>by
  show List.Pairwise _ [e]
  simp
 | x::r,h=>by
  obtain⟨h1,h2⟩:=Dr.mp h
  unfold putByStamp
  by_cases hb:before e x=true
  . rw[if_pos hb]
    refine Dr.mpr ⟨fun y hy=>?_,h⟩
    rw[S9] at hb
    rcases BK.mp hy with q | q
    . rw[q,O9]
      lia
    . have:=O9.mp (h1 y q)
      rw[O9]
      lia
  . rw[if_neg hb]
    refine Dr.mpr ⟨fun y hy=>?_,oA e h2⟩
    rcases BK.mp ((aO e r).mem_iff.mp hy) with q | q
    . rw[q]
      exact Bool.eq_false_iff.mpr hb
    . exact h1 y q
theorem X1:∀(l z:List Entry),Ij z->Ij (l.foldl (fun z e=>putByStamp e z) z)/\(l.foldl (fun z e=>putByStamp e z) z).Perm (l++z)
 | [],z,h=>⟨h,LK _⟩
 | e::r,z,h=>by
  obtain⟨i1,i2⟩:=X1 r (putByStamp e z) (oA e h)
  refine⟨i1,i2.trans ?_⟩
  exact ((aO e z).append_left r).trans List.perm_middle
theorem rn (l:List Entry):Ij (byStamp l):=(X1 l [] LJ).1
theorem rm (l:List Entry):(byStamp l).Perm l:=by
 have:=(X1 l [] LJ).2
 rwa[EG] at this
theorem pC:∀{l m:List Entry},Ij l->Ij m->l.Perm m->Once l->l=m
 | [],m,_,_,p,_=>(List.Perm.nil_eq p)
 | x::l,[],_,_,p,_=>absurd p.length_eq (by simp)
 | x::l,y::m,h1,h2,p,ho=>by
  obtain⟨a1,a2⟩:=Dr.mp h1
  obtain⟨b1,b2⟩:=Dr.mp h2
  have ho':(stp x::l.map stp).Nodup:=ho
  obtain⟨o1,o2⟩:=Ib.mp ho'
  have e:x=y:=by
   rcases BK.mp (p.mem_iff.mp (Bl (a:=x) (l:=l))) with q | q
   . exact q
   . rcases BK.mp (p.mem_iff.mpr (Bl (a:=y) (l:=m))) with r | r
     . exact r.symm
     . exfalso
       have q1:=O9.mp (a1 y r)
       have q2:=O9.mp (b1 x q)
       apply o1
       have es:stp x=stp y:=by
        unfold stp
        rw[Prod.mk.injEq]
        lia
       rw[es]
       exact List.mem_map_of_mem r
  subst e
  rw[pC a2 b2 (List.Perm.cons_inv p) o2]
theorem rj {l m:List Entry} (h:Ij m) (p:m.Perm l) (ho:Once l):m=byStamp l:=
 pC h (rn l) (p.trans (rm l).symm) ((p.map stp).nodup_iff.mpr ho)
theorem oH {x:IV} {e:Entry} (h:has x.got e=true):receive x e=x:=by unfold receive;rw[if_pos h]
theorem oG {x:IV} {e:Entry} (h:¬has x.got e=true):receive x e=⟨max x.clock e.clock,x.got++[e]⟩:=by unfold receive;rw[if_neg h]
theorem aQ (x:IV) (e:Entry):(receive x e).got=if has x.got e=true then x.got else x.got++[e]:=by
 unfold receive
 split <;> rfl
theorem ACd (x:IV) (e:Entry):x.got.length<=(receive x e).got.length:=by
 rw[aQ]
 split
 . exact Aj _
 . rw[BZ];exact KP _ _
theorem oI:∀(l:List Entry) (x:IV),x.got.length<=(l.foldl receive x).got.length
 | [],x=>Aj _
 | e::r,x=>BP (ACd x e) (oI r (receive x e))
theorem sub_len {α:Type} [DecidableEq α]:∀{l m:List α},l.Nodup->(∀x∈l,x∈m)->l.length<=m.length
 | [],m,_,_=>Ci _
 | x::l,m,hn,h=>by
  obtain⟨h1,h2⟩:=Ib.mp hn
  have hm:=h x Bl
  have ih:=sub_len (l:=l) (m:=m.erase x) h2 fun y hy=>by
   have BX:y≠x:=fun q=>h1 (q▸hy)
   exact (List.mem_erase_of_ne BX).mpr (h y (B2 _ hy))
  rw[List.length_erase_of_mem hm] at ih
  have:0 < m.length:=List.length_pos_of_mem hm
  rw[BO]
  lia
def got (s:State) (c:Nat):List Entry:=(centre s c).got
abbrev A7 (c:Nat):Prop:=c=1\/c=2\/c=3
structure Good (s:State):Prop where
 three:s.centres.length=3
 Af:∀c,A7 c->∀e∈got s c,e.clock<=(centre s c).clock
 src:∀c,A7 c->∀e∈got s c,A7 e.src
 once:∀c,A7 c->Once (got s c)
 home:∀c,A7 c->∀e∈got s c,stp e∈(got s e.src).map stp
 dec:s.decisions.length<=MOST
 SV:written s<=MOST
 Nm:∀c,A7 c->∀e∈got s c,e.a < e.b/\e.b<=1000000
 KY:∀c,A7 c->(centre s c).clock<=written s
def mine (s:State) (i:Nat):List Entry:=(got s i).filter fun e=>e.src==i
theorem SR (s:State):written s=(mine s 1).length+(mine s 2).length+(mine s 3).length:=by
 show (0+(mine s 1).length+(mine s 2).length)+(mine s 3).length=_
 lia
theorem wW:Good start:=by
 have e:∀c,A7 c->got start c=[]:=by
  rintro c (h | h | h) <;> subst h <;> rfl
 refine⟨rfl,fun c h x hx=>?_,fun c h x hx=>?_,fun c h=>?_,fun c h x hx=>?_,Ci _,Ci _,fun c h x hx=>?_,fun c h=>?_⟩
 . rw[e c h] at hx;cases hx
 . rw[e c h] at hx;cases hx
 . rw[e c h];exact XQ
 . rw[e c h] at hx;cases hx
 . rw[e c h] at hx;cases hx
 . rcases h with h | h | h <;> subst h <;> exact Ci _
theorem Mx {s:State} (h3:s.centres.length=3) {c d:Nat} (hc:A7 c) (hd:A7 d) (x:IV):centre (setCentre s c x) d=if d=c then x else centre s d:=by
 unfold centre setCentre
 match s,h3 with
 | ⟨[a,b,e],ds⟩,_=>
  rcases hc with h | h | h <;> rcases hd with h' | h' | h' <;> subst h <;> subst h' <;> rfl
theorem X8 {s:State} (c:Nat) (x:IV):(setCentre s c x).centres.length=s.centres.length:=by
 unfold setCentre
 exact List.length_set
theorem Z0 {s:State} (g:Good s) {c i:Nat} (hc:A7 c) (hi:A7 i):((got s c).filter fun e=>e.src==i).length<=(mine s i).length:=by
 have h1:(((got s c).filter fun e=>e.src==i).map stp).Nodup:=List.Nodup.sublist (List.Sublist.map _ List.filter_sublist) (g.once c hc)
 have h2:=sub_len (m:=(mine s i).map stp) h1 fun x hx=>by
  obtain⟨e,he,rfl⟩:=Dc.mp hx
  obtain⟨xH,he2⟩:=Ia.mp he
  have hs:e.src=i:=eq_of_beq he2
  have hh:=g.home c hc e xH
  rw[hs] at hh
  obtain⟨e',he',es⟩:=Dc.mp hh
  refine Dc.mpr ⟨e',Ia.mpr ⟨he',?_⟩,es⟩
  have:e'.src=e.src:=congrArg Sv es
  show (e'.src==i)=true
  rw[this,hs]
  exact beq_self_eq_true i
 simpa using h2
theorem pB:∀(l:List Entry),(∀e∈l,A7 e.src)->l.length=(l.filter fun e=>e.src==1).length+(l.filter fun e=>e.src==2).length+(l.filter fun e=>e.src==3).length
 | [],_=>rfl
 | e::r,h=>by
  have ih:=pB r fun x hx=>h x (B2 _ hx)
  simp only[List.filter_cons,BO]
  rcases h e Bl with q | q | q <;> rw[q] <;> simp <;> lia
theorem wY {s:State} (g:Good s) {c:Nat} (hc:A7 c):(got s c).length<=written s:=by
 rw[pB _ (g.src c hc),SR]
 have h1:=Z0 g hc (i:=1) (.inl rfl)
 have h2:=Z0 g hc (i:=2) (.inr (.inl rfl))
 have h3:=Z0 g hc (i:=3) (.inr (.inr rfl))
 lia
theorem FG {s:State} (g:Good s) {c:Nat} (hc:A7 c):(got s c).length<=60:=BP (wY g hc) g.SV
theorem Qk {s:State} (h3:s.centres.length=3) {c d:Nat} (hc:A7 c) (hd:A7 d) (x:IV):got (setCentre s c x) d=if d=c then x.got else got s d:=by
 unfold got
 rw[Mx h3 hc hd]
 split <;> rfl
theorem mG {s:State} (h3:s.centres.length=3) {c i:Nat} (hc:A7 c) (hi:A7 i) (x:IV):mine (setCentre s c x) i=if i=c then x.got.filter (fun e=>e.src==i) else mine s i:=by
 unfold mine
 rw[Qk h3 hc hi]
 split <;> rfl
theorem qM {s:State} (g:Good s) {d:Nat} (hd:A7 d) {e:Entry} (he:A7 e.src) (hh:stp e∈(got s e.src).map stp):written (setCentre s d (receive (centre s d) e))=written s:=by
 have key:∀i,A7 i->mine (setCentre s d (receive (centre s d) e)) i=mine s i:=by
  intro i hi
  rw[mG g.three hd hi]
  by_cases q:i=d
  . subst q
    rw[if_pos rfl,aQ]
    by_cases hb:has (centre s i).got e=true
    . rw[if_pos hb];rfl
    . rw[if_neg hb,Ef]
      have hs:¬e.src=i:=fun z=>hb (jm.mpr (by rw[z] at hh;exact hh))
      have:(([e]:List Entry).filter fun e=>e.src==i)=[]:=by
       rw[Dv (by simpa using hs),Dx]
      rw[this,EG]
      rfl
  . rw[if_neg q]
 rw[SR,SR,key 1 (.inl rfl),key 2 (.inr (.inl rfl)),key 3 (.inr (.inr rfl))]
theorem wV {s:State} (g:Good s) {d:Nat} (hd:A7 d) {e:Entry} (he:A7 e.src) (hh:stp e∈(got s e.src).map stp) (hc:e.clock<=written s) (hm:e.a < e.b/\e.b<=1000000):Good (setCentre s d (receive (centre s d) e)):=by
 have hw:=qM g hd he hh
 by_cases hb:has (centre s d).got e=true
 . rw[oH hb] at hw ⊢
   have e0:∀c,A7 c->centre (setCentre s d (centre s d)) c=centre s c:=fun c hc=>by
    rw[Mx g.three hd hc]
    split
    . rename_i q;rw[q]
    . rfl
   have e1:∀c,A7 c->got (setCentre s d (centre s d)) c=got s c:=fun c hc=>by unfold got;rw[e0 c hc]
   refine⟨by rw[X8];exact g.three,fun c hc=>?_,fun c hc=>?_,fun c hc=>?_,fun c hc=>?_,g.dec,by rw[hw];exact g.SV,fun c hc=>?_,fun c hc=>?_⟩
   . rw[e0 c hc,e1 c hc];exact g.Af c hc
   . rw[e1 c hc];exact g.src c hc
   . rw[e1 c hc];exact g.once c hc
   . rw[e1 c hc]
     intro x hx
     rw[e1 x.src (g.src c hc x hx)]
     exact g.home c hc x hx
   . rw[e1 c hc];exact g.Nm c hc
   . rw[e0 c hc,hw];exact g.KY c hc
 . rw[oG hb] at hw ⊢
   have e0:∀c,A7 c->centre (setCentre s d ⟨max (centre s d).clock e.clock,(centre s d).got++[e]⟩) c=if c=d then ⟨max (centre s d).clock e.clock,(centre s d).got++[e]⟩ else centre s c:=fun c hc=>Mx g.three hd hc _
   have e1:∀c,A7 c->got (setCentre s d ⟨max (centre s d).clock e.clock,(centre s d).got++[e]⟩) c=if c=d then got s d++[e] else got s c:=fun c hc=>Qk g.three hd hc _
   have up:∀c,A7 c->∀x∈got s c,x∈got (setCentre s d ⟨max (centre s d).clock e.clock,(centre s d).got++[e]⟩) c:=fun c hc x hx=>by
    rw[e1 c hc]
    split
    . rename_i q
      subst q
      exact Ht _ hx
    . exact hx
   have mem:∀c,A7 c->∀x∈got (setCentre s d ⟨max (centre s d).clock e.clock,(centre s d).got++[e]⟩) c,x∈got s c\/(c=d/\x=e):=fun c hc x hx=>by
    rw[e1 c hc] at hx
    split at hx
    . rename_i q
      subst q
      rcases D8.mp hx with z | z
      . exact .inl z
      . exact .inr ⟨rfl,DZ.mp z⟩
    . exact .inl hx
   refine⟨by rw[X8];exact g.three,fun c hc' x hx=>?_,fun c hc' x hx=>?_,fun c hc'=>?_,fun c hc' x hx=>?_,g.dec,by rw[hw];exact g.SV,fun c hc' x hx=>?_,fun c hc'=>?_⟩
   . rcases mem c hc' x hx with z | ⟨rfl,rfl⟩
     . rw[e0 c hc']
       have:=g.Af c hc' x z
       split
       . rename_i q
         subst q
         exact BP this (Nat.le_max_left _ _)
       . exact this
     . rw[e0 c hc',if_pos rfl]
       exact Nat.le_max_right _ _
   . rcases mem c hc' x hx with z | ⟨rfl,rfl⟩
     . exact g.src c hc' x z
     . exact he
   . rw[e1 c hc']
     split
     . rename_i q
       subst q
       show ((got s c++[e]).map stp).Nodup
       rw[Ba]
       refine List.nodup_append.mpr ⟨g.once c hc',by simp,fun x hx y hy=>?_⟩
       have ey:y=stp e:=by simpa using hy
       intro z
       rw[ey] at z
       rw[z] at hx
       exact hb (jm.mpr hx)
     . exact g.once c hc'
   . have hxs:A7 x.src:=by
      rcases mem c hc' x hx with z | ⟨rfl,rfl⟩
      . exact g.src c hc' x z
      . exact he
     have old:stp x∈(got s x.src).map stp:=by
      rcases mem c hc' x hx with z | ⟨rfl,rfl⟩
      . exact g.home c hc' x z
      . exact hh
     obtain⟨y,hy,es⟩:=Dc.mp old
     exact Dc.mpr ⟨y,up _ hxs y hy,es⟩
   . rcases mem c hc' x hx with z | ⟨rfl,rfl⟩
     . exact g.Nm c hc' x z
     . exact hm
   . rw[e0 c hc',hw]
     split
     . exact Nat.max_le.mpr ⟨g.KY d hd,hc⟩
     . exact g.KY c hc'
theorem set_set {s:State} {d:Nat} (x y:IV):setCentre (setCentre s d x) d y=setCentre s d y:=by
 unfold setCentre
 show State.mk ((s.centres.set (d - 1) x).set (d - 1) y) s.decisions=_
 rw[List.set_set]
theorem ADT {s:State} (h3:s.centres.length=3) {d:Nat} (hd:A7 d):setCentre s d (centre s d)=s:=by
 unfold setCentre centre
 match s,h3 with
 | ⟨[a,b,e],ds⟩,_=>
  rcases hd with h | h | h <;> subst h <;> rfl
theorem AAU {s:State} (g:Good s) {c:Nat} (hc:A7 c) {e:Entry} (he:e∈got s c):A7 e.src/\stp e∈(got s e.src).map stp/\e.clock<=written s/\(e.a < e.b/\e.b<=1000000):=
 ⟨g.src c hc e he,g.home c hc e he,BP (g.Af c hc e he) (g.KY c hc),g.Nm c hc e he⟩
def IE (x:IV) (c k a b v:Nat):Entry:=⟨x.clock+1,c,k,a,b,v⟩
def wrote (s:State) (c k a b v:Nat):State:=setCentre s c ⟨(centre s c).clock+1,(centre s c).got++[IE (centre s c) c k a b v]⟩
theorem qN {s:State} (h3:s.centres.length=3) {c:Nat} (hc:A7 c) (k a b v:Nat):written (wrote s c k a b v)=written s+1:=by
 have key:∀i,A7 i->(mine (wrote s c k a b v) i).length=(mine s i).length+if i=c then 1 else 0:=by
  intro i hi
  unfold wrote
  rw[mG h3 hc hi]
  by_cases q:i=c
  . subst q
    rw[if_pos rfl,if_pos rfl,Ef,BZ]
    have:(([IE (centre s i) i k a b v]:List Entry).filter fun e=>e.src==i).length=1:=by
     rw[Eg (p:=fun e:Entry=>e.src==i) (a:=IE (centre s i) i k a b v) (beq_self_eq_true i)]
     rfl
    rw[this]
    rfl
  . rw[if_neg q,if_neg q]
    lia
 rw[SR,SR,key 1 (.inl rfl),key 2 (.inr (.inl rfl)),key 3 (.inr (.inr rfl))]
 rcases hc with h | h | h <;> subst h <;> simp <;> lia
theorem wX {s:State} (g:Good s) {c:Nat} (hc:A7 c) {k a b v:Nat} (hw:written s < MOST) (Bk:a < b) (hb:b<=1000000):Good (wrote s c k a b v):=by
 have ww:=qN g.three hc k a b v
 have e0:∀d,A7 d->centre (wrote s c k a b v) d=if d=c then ⟨(centre s c).clock+1,(centre s c).got++[IE (centre s c) c k a b v]⟩ else centre s d:=fun d hd=>Mx g.three hc hd _
 have e1:∀d,A7 d->got (wrote s c k a b v) d=if d=c then got s c++[IE (centre s c) c k a b v] else got s d:=fun d hd=>Qk g.three hc hd _
 have mem:∀d,A7 d->∀x∈got (wrote s c k a b v) d,x∈got s d\/(d=c/\x=IE (centre s c) c k a b v):=fun d hd x hx=>by
  rw[e1 d hd] at hx
  split at hx
  . rename_i q
    subst q
    rcases D8.mp hx with z | z
    . exact .inl z
    . exact .inr ⟨rfl,DZ.mp z⟩
  . exact .inl hx
 have up:∀d,A7 d->∀x∈got s d,x∈got (wrote s c k a b v) d:=fun d hd x hx=>by
  rw[e1 d hd]
  split
  . rename_i q
    subst q
    exact Ht _ hx
  . exact hx
 refine⟨by unfold wrote;rw[X8];exact g.three,fun d hd x hx=>?_,fun d hd x hx=>?_,fun d hd=>?_,fun d hd x hx=>?_,g.dec,by rw[ww];exact hw,fun d hd x hx=>?_,fun d hd=>?_⟩
 . rw[e0 d hd]
   rcases mem d hd x hx with z | ⟨rfl,rfl⟩
   . have:=g.Af d hd x z
     split
     . rename_i q
       subst q
       exact XZ this
     . exact this
   . rw[if_pos rfl]
     exact Aj _
 . rcases mem d hd x hx with z | ⟨rfl,rfl⟩
   . exact g.src d hd x z
   . exact hc
 . rw[e1 d hd]
   split
   . rename_i q
     subst q
     show ((got s d++[IE (centre s d) d k a b v]).map stp).Nodup
     rw[Ba]
     refine List.nodup_append.mpr ⟨g.once d hd,by simp,fun x hx y hy z=>?_⟩
     have ey:y=stp (IE (centre s d) d k a b v):=by simpa using hy
     obtain⟨e,he,es⟩:=Dc.mp hx
     have h1:=g.Af d hd e he
     rw[z,ey] at es
     have h2:e.clock=(centre s d).clock+1:=congrArg O2 es
     lia
   . exact g.once d hd
 . have hxs:A7 x.src:=by
    rcases mem d hd x hx with z | ⟨rfl,rfl⟩
    . exact g.src d hd x z
    . exact hc
   rcases mem d hd x hx with z | ⟨rfl,rfl⟩
   . obtain⟨y,hy,es⟩:=Dc.mp (g.home d hd x z)
     exact Dc.mpr ⟨y,up _ hxs y hy,es⟩
   . refine Dc.mpr ⟨_,?_,rfl⟩
     exact hx
 . rcases mem d hd x hx with z | ⟨rfl,rfl⟩
   . exact g.Nm d hd x z
   . exact⟨Bk,hb⟩
 . rw[e0 d hd,ww]
   split
   . exact Nat.succ_le_succ (g.KY c hc)
   . exact XZ (g.KY d hd)
theorem wU {s:State} (g:Good s) (x:Decision) (h:s.decisions.length < MOST):Good ⟨s.centres,s.decisions++[x]⟩:=
 ⟨g.three,g.Af,g.src,g.once,g.home,by rw[BZ];exact h,g.SV,g.Nm,g.KY⟩
abbrev Row:=List Paint
def Fv:List Row->Row
 | []=>[]
 | x::r=>r.foldl fewer x
theorem uv (x y z:Row):fewer (fewer x y) z=fewer x (fewer y z):=by
 unfold fewer
 by_cases h1:y.length < x.length
 . rw[if_pos h1]
   by_cases h2:z.length < y.length
   . rw[if_pos h2,if_pos (by lia)]
   . rw[if_neg h2,if_pos h1]
 . rw[if_neg h1]
   by_cases h2:z.length < y.length
   . rw[if_pos h2]
   . rw[if_neg h2,if_neg h1,if_neg (by lia)]
theorem jP:∀(r:List Row) (x y:Row),r.foldl fewer (fewer x y)=fewer x (r.foldl fewer y)
 | [],x,y=>rfl
 | z::r,x,y=>by rw[FV,FV,uv,jP r]
theorem Yd:∀(r:List Row) (x:Row),(r.foldl fewer x).length<=x.length
 | [],x=>Aj _
 | z::r,x=>by
  rw[FV]
  refine BP (Yd r _) ?_
  unfold fewer
  split
  . lia
  . exact Aj _
theorem jQ:∀(r:List Row) (x y:Row),y∈r->(r.foldl fewer x).length<=y.length
 | z::r,x,y,h=>by
  rw[FV]
  rcases BK.mp h with e | e
  . subst e
    refine BP (Yd r _) ?_
    unfold fewer
    split
    . exact Aj _
    . lia
  . exact jQ r _ y e
theorem jR:∀(r:List Row) (x:Row),r.foldl fewer x=x\/r.foldl fewer x∈r
 | [],x=>.inl rfl
 | z::r,x=>by
  rw[FV]
  rcases jR r (fewer x z) with e | e
  . rw[e]
    unfold fewer
    split
    . exact .inr Bl
    . exact .inl rfl
  . exact .inr (B2 _ e)
theorem jI:∀{ws:List Row},ws≠[]->Fv ws∈ws
 | [],h=>absurd rfl h
 | x::r,_=>by
  show r.foldl fewer x∈x::r
  rcases jR r x with e | e
  . rw[e];exact Bl
  . exact B2 _ e
theorem jH:∀{ws:List Row} {y:Row},y∈ws->(Fv ws).length<=y.length
 | x::r,y,h=>by
  show (r.foldl fewer x).length<=y.length
  rcases BK.mp h with e | e
  . subst e;exact Yd r _
  . exact jQ r x y e
def An (cells:List Nat) (i n:Nat):Row:=((table cells cells.length).getD n []).getD i []
theorem Wq (cells:List Nat):∀n,(table cells n).length=n+1
 | 0=>rfl
 | n+1=>by
  show (table cells n++[_]).length=n+2
  rw[BZ,Wq cells n]
  rfl
theorem R8 (cells:List Nat):∀(N n:Nat),n<=N->(table cells N).getD n []=(table cells n).getD n []
 | 0,n,h=>by
  have:n=0:=Nat.le_zero.mp h
  subst this
  rfl
 | N+1,n,h=>by
  rcases Ow n (N+1) with h1 | h1
  . rw[<-R8 cells N n (by lia)]
    show (table cells N++[_]).getD n []=_
    rw[Gg,XH (by rw[Wq];exact h1),<-Gg]
  . have:n=N+1:=eO h h1
    subst this
    rfl
theorem AEO (cells:List Nat) (n:Nat):(table cells (n+1)).getD (n+1) []=(Ca (cells.length - n)).map fun i=>strokes cells (table cells n) i (n+1):=by
 show (table cells n++[_]).getD (n+1) []=_
 rw[Gg,Ot (by rw[Wq];exact Aj _),Wq,Oz]
 rfl
theorem dH (cells:List Nat) (i:Nat):An cells i 0=[]:=by
 unfold An
 rw[R8 cells cells.length 0 (Ci _)]
 show (((Ca (cells.length+1)).map fun _=>([]:Row))).getD i []=[]
 rw[Gg,CM]
 cases (Ca (cells.length+1))[i]? with
 | none=>rfl
 | some _=>rfl
theorem W3 (cells:List Nat) {n m:Nat} (h:m<=n) (hn:n<=cells.length) (j:Nat):((table cells n).getD m []).getD j []=An cells j m:=by
 unfold An
 rw[R8 cells n m h,R8 cells cells.length m (by lia)]
def way (cells:List Nat) (i n d:Nat):Row:=match An cells (i+d) (n+1 - d) with
 | []=>An cells (i+1) (d - 1)
 | p::r=>(i,p.2.1,p.2.2)::(An cells (i+1) (d - 1)++r)
def ways (cells:List Nat) (i n:Nat):List Row:=
 ((i,i,cells.getD i 0)::An cells (i+1) n)::((Ca n).filter fun t=>cells.getD (i+(t+1)) 0==cells.getD i 0).map fun t=>way cells i n (t+1)
theorem fold_congr {α β:Type} (f g:β->α->β):∀(l:List α) (b:β),(∀b,∀x∈l,f b x=g b x)->l.foldl f b=l.foldl g b
 | [],b,_=>rfl
 | x::r,b,h=>by
  rw[FV,FV,h b x Bl]
  exact fold_congr f g r _ fun b y hy=>h b y (B2 _ hy)
theorem range_pos (n:Nat) (p:Nat->Bool):(Ca (n+1)).filter (fun d=>decide (0 < d)&&p d)=((Ca n).filter fun t=>p (t+1)).map (· +1):=by
 rw[LP,Dv (by simp),List.filter_map]
 have e:((fun d=>decide (0 < d)&&p d) ∘ Nat.succ)=fun t=>p (t+1):=by
  funext t
  show (decide (0 < t+1)&&p (t+1))=p (t+1)
  simp
 rw[e]
theorem dG (cells:List Nat) {i n:Nat} (h:i+n+1<=cells.length):An cells i (n+1)=Fv (ways cells i n):=by
 have e1:An cells i (n+1)=strokes cells (table cells n) i (n+1):=by
  unfold An
  rw[R8 cells cells.length (n+1) (by lia),AEO,Gg,CM,XJ (by lia)]
  rfl
 rw[e1]
 unfold strokes
 show ((Ca (n+1)).filter fun d=>decide (0 < d)&&cells.getD (i+d) 0==cells.getD i 0).foldl (fun best d=>fewer best ((sooner i (((table cells n).getD (n+1 - d) []).getD (i+d) [])).take 1++(((table cells n).getD (d - 1) []).getD (i+1) []++(sooner i (((table cells n).getD (n+1 - d) []).getD (i+d) [])).drop 1))) ((i,i,cells.getD i 0)::((table cells n).getD (n+1 - 1) []).getD (i+1) [])=(((Ca n).filter fun t=>cells.getD (i+(t+1)) 0==cells.getD i 0).map fun t=>way cells i n (t+1)).foldl fewer ((i,i,cells.getD i 0)::An cells (i+1) n)
 have hp:=range_pos n fun d=>cells.getD (i+d) 0==cells.getD i 0
 have e2:((table cells n).getD (n+1 - 1) []).getD (i+1) []=An cells (i+1) n:=W3 cells (by lia) (by lia) _
 rw[e2,hp,d9,d9]
 refine fold_congr _ _ _ _ fun b t ht=>?_
 have ht':t < n:=JX.mp (Ia.mp ht).1
 rw[W3 cells (show n+1 - (t+1)<=n by lia) (by lia),W3 cells (show t+1 - 1<=n by lia) (by lia)]
 congr 1
 unfold way
 cases An cells (i+(t+1)) (n+1 - (t+1)) with
 | nil=>
  show []++(_++[])=_
  rw[EG,eG]
 | cons p r=>rfl
theorem K8 (cells:List Nat):∀(n i:Nat),i+n<=cells.length->(An cells i n).length<=n/\(0 < n->An cells i n≠[])/\∀p∈An cells i n,p.1 < cells.length/\p.2.1 < cells.length:=by
 intro n
 induction n using eR with
 | _ n ih=>
  intro i h
  cases n with
  | zero=>
   rw[dH]
   exact⟨Aj _,fun z=>absurd z (Hc _),fun p hp=>by cases hp⟩
  | succ n=>
   rw[dG cells (by lia)]
   have hw:ways cells i n≠[]:=by unfold ways;exact Se _ _
   have Cm:∀w∈ways cells i n,w≠[]/\∀p∈w,p.1 < cells.length/\p.2.1 < cells.length:=by
    intro w hw
    unfold ways at hw
    rcases BK.mp hw with e | e
    . subst e
      refine⟨Se _ _,fun p hp=>?_⟩
      rcases BK.mp hp with z | z
      . subst z
        exact⟨by show i < _;lia,by show i < _;lia⟩
      . exact (ih n (by lia) (i+1) (by lia)).2.2 p z
    . obtain⟨t,ht,rfl⟩:=Dc.mp e
      have ht':t < n:=JX.mp (Ia.mp ht).1
      have q1:=ih (n+1 - (t+1)) (by lia) (i+(t+1)) (by lia)
      have q2:=ih (t+1 - 1) (by lia) (i+1) (by lia)
      unfold way
      cases hA:An cells (i+(t+1)) (n+1 - (t+1)) with
      | nil=>exact absurd hA (q1.2.1 (by lia))
      | cons p r=>
       refine⟨Se _ _,fun z hz=>?_⟩
       rw[hA] at q1
       rcases BK.mp hz with y | y
       . subst y
         exact⟨by show i < _;lia,(q1.2.2 p Bl).2⟩
       . rcases D8.mp y with u | u
         . exact q2.2.2 z u
         . exact q1.2.2 z (B2 _ u)
   have hm:=Cm _ (jI hw)
   refine⟨?_,fun _=>hm.1,hm.2⟩
   have h1:((i,i,cells.getD i 0)::An cells (i+1) n)∈ways cells i n:=by unfold ways;exact Bl
   have h2:=jH h1
   rw[BO] at h2
   have h3:=(ih n (by lia) (i+1) (by lia)).1
   lia
def Ov (cells old:List Nat) (n:Nat):Row:=(over cells old (table cells cells.length) cells.length).getD n []
theorem Uq (cells old:List Nat) (t:List (List Row)):∀n,(over cells old t n).length=n+1
 | 0=>rfl
 | n+1=>by
  show (over cells old t n++[_]).length=n+2
  rw[BZ,Uq cells old t n]
  rfl
theorem RL (cells old:List Nat) (t:List (List Row)):∀(N n:Nat),n<=N->(over cells old t N).getD n []=(over cells old t n).getD n []
 | 0,n,h=>by
  have:n=0:=Nat.le_zero.mp h
  subst this
  rfl
 | N+1,n,h=>by
  rcases Ow n (N+1) with h1 | h1
  . rw[<-RL cells old t N n (by lia)]
    show (over cells old t N++[_]).getD n []=_
    rw[Gg,XH (by rw[Uq];exact h1),<-Gg]
  . have:n=N+1:=eO h h1
    subst this
    rfl
theorem eV (cells old:List Nat) {n m:Nat} (h:m<=n) (hn:n<=cells.length):(over cells old (table cells cells.length) n).getD m []=Ov cells old m:=by
 unfold Ov
 rw[RL _ _ _ n m h,RL _ _ _ cells.length m (by lia)]
def K4 (cells old:List Nat) (n:Nat):List Row:=
 (if cells.getD n 0=old.getD n 0 then [Ov cells old n] else [])++(Ca (n+1)).map fun i=>Ov cells old i++An cells i (n+1 - i)
theorem Xf (cells old:List Nat):Ov cells old 0=[]:=by
 unfold Ov
 rw[RL _ _ _ cells.length 0 (Ci _)]
 rfl
theorem eW (cells old:List Nat) {n:Nat} (h:n+1<=cells.length):Ov cells old (n+1)=Fv (K4 cells old n):=by
 have e0:Ov cells old (n+1)=(over cells old (table cells cells.length) (n+1)).getD (n+1) []:=by
  unfold Ov
  rw[RL _ _ _ cells.length (n+1) h]
 have uQ:((Ca (n+1)).map fun i=>(over cells old (table cells cells.length) n).getD i []++((table cells cells.length).getD (n+1 - i) []).getD i [])=(Ca (n+1)).map fun i=>Ov cells old i++An cells i (n+1 - i):=by
  refine JW fun i hi=>?_
  have:i < n+1:=JX.mp hi
  rw[eV cells old (by lia) (by lia)]
  rfl
 have e1:(over cells old (table cells cells.length) (n+1)).getD (n+1) []=if cells.getD n 0=old.getD n 0 then fewer (Ov cells old n) (Fv ((Ca (n+1)).map fun i=>Ov cells old i++An cells i (n+1 - i))) else Fv ((Ca (n+1)).map fun i=>Ov cells old i++An cells i (n+1 - i)):=by
  rw[<-uQ,<-eV cells old (Aj n) (by lia)]
  show (over cells old (table cells cells.length) n++[_]).getD (n+1) []=_
  rw[Gg,Ot (by rw[Uq];exact Aj _),Uq,Oz]
  have hfm:∀l:List Row,(match l with | []=>[] | x::r=>r.foldl fewer x)=Fv l:=fun l=>by cases l <;> rfl
  rw[<-hfm]
  rfl
 rw[e0,e1]
 unfold K4
 by_cases hc:cells.getD n 0=old.getD n 0
 . rw[if_pos hc,if_pos hc]
   rw[LP,CP]
   show fewer _ (List.foldl fewer _ _)=List.foldl fewer _ (_::_)
   rw[FV,jP]
 . rw[if_neg hc,if_neg hc,eG]
theorem Sq (cells old:List Nat):∀(n:Nat),n<=cells.length->(Ov cells old n).length<=n/\∀p∈Ov cells old n,p.1 < cells.length/\p.2.1 < cells.length:=by
 intro n
 induction n using eR with
 | _ n ih=>
  intro h
  cases n with
  | zero=>
   rw[Xf]
   exact⟨Aj _,fun p hp=>by cases hp⟩
  | succ n=>
   rw[eW cells old h]
   have h0:(Ov cells old 0++An cells 0 (n+1 - 0))∈K4 cells old n:=by
    unfold K4
    exact DM _ (Dc.mpr ⟨0,JX.mpr (by lia),rfl⟩)
   have hw:K4 cells old n≠[]:=fun e=>by rw[e] at h0;cases h0
   refine⟨?_,?_⟩
   . have h2:=jH h0
     rw[Xf,eG] at h2
     have h3:=(K8 cells (n+1) 0 (by lia)).1
     exact BP h2 h3
   . have Cm:∀w∈K4 cells old n,∀p∈w,p.1 < cells.length/\p.2.1 < cells.length:=by
      intro w hw p hp
      unfold K4 at hw
      rcases D8.mp hw with e | e
      . split at e
        . rw[DZ.mp e] at hp
          exact (ih n (by lia) (by lia)).2 p hp
        . cases e
      . obtain⟨i,hi,rfl⟩:=Dc.mp e
        have hi':i < n+1:=JX.mp hi
        rcases D8.mp hp with z | z
        . exact (ih i (by lia) (by lia)).2 p z
        . exact (K8 cells (n+1 - i) i (by lia)).2.2 p z
     exact Cm _ (jI hw)
theorem ACh (cells old:List Nat):repaint cells old=Ov cells old cells.length:=rfl
theorem mz:∀{l:List Entry},Once l->∀{x y:Entry},x∈l->y∈l->stp x=stp y->x=y
 | z::r,h,x,y,hx,hy,e=>by
  have h1:=(Ib.mp (show (stp z::r.map stp).Nodup from h))
  rcases BK.mp hx with a | a <;> rcases BK.mp hy with b | b
  . rw[a,b]
  . subst a
    exact absurd (Dc.mpr ⟨y,b,e.symm⟩) h1.1
  . subst b
    exact absurd (Dc.mpr ⟨x,a,e⟩) h1.1
  . exact mz h1.2 a b e
def Seen (l:List Entry) (st:Stamp):Prop:=∃x∈l,∃m,(m=x.a\/m=x.b)/\∃y,told l x.key m=some y/\stp y=st
theorem tJ {e:Entry} {k m:Nat}:covers e k m=true↔e.key=k/\e.a<=m/\m < e.b:=by
 unfold covers
 simp
theorem xS {l:List Entry} (ho:Once l) {e:Entry} (he:e∈l) (Bk:e.a < e.b):hidden l e=true↔ ¬Seen l (stp e):=by
 unfold hidden
 rw[MY]
 constructor
 . rintro h ⟨x,hx,m,hm,y,hy,hs⟩
   obtain⟨q1,q2⟩:=AEP hy
   have ey:y=e:=mz ho q1 he hs
   subst ey
   obtain⟨c1,c2,c3⟩:=tJ.mp q2
   have hmem:m∈cuts l y.key y.a y.b:=(Ka l y.key y.a y.b Bk m).mpr (.inr ⟨x,hx,c1.symm,hm,c2,c3⟩)
   have:=h m hmem
   rw[c1,hy] at this
   have hss:sameStamp y y=true:=same_iff.mpr rfl
   have pV:(!sameStamp y y)=true:=this
   rw[hss] at pV
   cases pV
 . intro h m hm
   cases ht:told l e.key m with
   | none=>rfl
   | some y=>
    show (!sameStamp y e)=true
    cases hss:sameStamp y e with
    | false=>rfl
    | true=>
     exfalso
     refine h ?_
     rcases (Ka l e.key e.a e.b Bk m).mp hm with z | ⟨x,hx,hk,Nc,_,_⟩
     . exact⟨e,he,m,.inl z,y,ht,same_iff.mp hss⟩
     . exact⟨x,hx,m,Nc,y,by rw[hk];exact ht,same_iff.mp hss⟩
def EX (v p1 p2 e:Nat):Nat:=if p2=v then e - p1 else 0
def hl (b v:Nat):List (Nat×Nat)->Nat
 | []=>0
 | [p]=>EX v p.1 p.2 b
 | p::q::r=>EX v p.1 p.2 q.1+hl b v (q::r)
theorem xc {b v:Nat} {p q:Nat×Nat} (r:List (Nat×Nat)) (e:q.2=p.2) (h1:p.1<=q.1) (h2:∀x∈r,q.1<=x.1) (h3:q.1<=b):hl b v (p::q::r)=hl b v (p::r):=by
 cases r with
 | nil=>
  show EX v p.1 p.2 q.1+EX v q.1 q.2 b=EX v p.1 p.2 b
  unfold EX
  rw[e]
  split <;> lia
 | cons s r=>
  show EX v p.1 p.2 q.1+(EX v q.1 q.2 s.1+hl b v (s::r))=EX v p.1 p.2 s.1+hl b v (s::r)
  have:=h2 s Bl
  unfold EX
  rw[e]
  split <;> lia
theorem ZI {b v:Nat}:∀(r:List (Nat×Nat)) (p:Nat×Nat),(p::r).Pairwise (fun x y=>x.1 < y.1)->(∀x∈r,x.1<=b)->hl b v (p::r)=hl b v (p::runsFrom p.2 r)
 | [],p,_,_=>rfl
 | q::r,p,h,hb=>by
  obtain⟨h1,h2⟩:=Dr.mp h
  obtain⟨h3,h4⟩:=Dr.mp h2
  have hq:=h1 q Bl
  unfold runsFrom
  by_cases e:p.2=q.2
  . rw[if_pos e,xc r e.symm (Ic hq) (fun x hx=>Ic (h3 x hx)) (hb q Bl)]
    exact ZI r p (Dr.mpr ⟨fun x hx=>h1 x (B2 _ hx),h4⟩) fun x hx=>hb x (B2 _ hx)
  . rw[if_neg e]
    show EX v p.1 p.2 q.1+hl b v (q::r)=EX v p.1 p.2 q.1+hl b v (q::runsFrom q.2 r)
    rw[ZI r q h2 fun x hx=>hb x (B2 _ hx)]
theorem ZJ {b v:Nat} (f:Nat->Nat):∀(cs:List Nat) (z:Nat),((stretches b (fun m=>(f m,0)) cs).filter fun x=>x.2.2.1==v).foldl (fun n x=>n+(x.2.1 - x.1)) z=z+hl b v (cs.map fun m=>(m,f m))
 | [],z=>rfl
 | [m],z=>by
  show (([(m,b,f m,0)]:List Change).filter fun x=>x.2.2.1==v).foldl (fun n x=>n+(x.2.1 - x.1)) z=z+EX v m (f m) b
  unfold EX
  by_cases e:f m=v
  . rw[Eg (by simpa using e),if_pos e];rfl
  . rw[Dv (by simpa using e),if_neg e];rfl
 | m::n::r,z=>by
  show (((m,n,f m,0)::stretches b (fun m=>(f m,0)) (n::r)).filter fun x=>x.2.2.1==v).foldl (fun n x=>n+(x.2.1 - x.1)) z=z+(EX v m (f m) n+hl b v ((n::r).map fun m=>(m,f m)))
  unfold EX
  by_cases e:f m=v
  . rw[Eg (by simpa using e),FV,ZJ f (n::r),if_pos e]
    show z+(n - m)+_=z+(n - m+_)
    lia
  . rw[Dv (by simpa using e),ZJ f (n::r),if_neg e]
    lia
theorem kG {b v:Nat}:∀l:List (Nat×Nat),hl b v l=((((l.zip ((l.drop 1).map (·.1)++[b])).map fun x=>((x.1.1,x.2,x.1.2):Nat×Nat×Nat)).filter fun x=>x.2.2==v).map fun x=>x.2.1 - x.1).sum
 | []=>rfl
 | [p]=>by
  show EX v p.1 p.2 b=((([(p.1,b,p.2)]:List (Nat×Nat×Nat)).filter fun x=>x.2.2==v).map fun x=>x.2.1 - x.1).sum
  unfold EX
  by_cases e:p.2=v
  . rw[Eg (by simpa using e),if_pos e];simp
  . rw[Dv (by simpa using e),if_neg e];rfl
 | p::q::r=>by
  have ih:=kG (b:=b) (v:=v) (q::r)
  show EX v p.1 p.2 q.1+hl b v (q::r)=((((p.1,q.1,p.2)::((q::r).zip (((q::r).drop 1).map (·.1)++[b])).map fun x=>((x.1.1,x.2,x.1.2):Nat×Nat×Nat)).filter fun x=>x.2.2==v).map fun x=>x.2.1 - x.1).sum
  unfold EX
  by_cases e:p.2=v
  . rw[Eg (by simpa using e),if_pos e,CP,eK,ih]
  . rw[Dv (by simpa using e),if_neg e,ih,LR]
theorem xr (l:List Entry) (k a b v:Nat) (Bk:a < b):((stretches b (fun m=>(value l k m,0)) (cuts l k a b)).filter fun x=>x.2.2.1==v).foldl (fun n x=>n+(x.2.1 - x.1)) 0=((((((line l k a b)).zip (((line l k a b).drop 1).map (·.1)++[b])).map fun x=>((x.1.1,x.2,x.1.2):Nat×Nat×Nat)).filter fun x=>x.2.2==v).map fun x=>x.2.1 - x.1).sum:=by
 rw[ZJ,LR,<-kG,RF]
 obtain⟨r,hr⟩:=TQ l k a b Bk
 have hu:=Kb l k a b
 have A1:=fun y hy=>(iL l k a b Bk (y:=y) hy).2
 rw[hr] at hu A1 ⊢
 rw[CP]
 refine ZI _ _ ?_ fun x hx=>?_
 . rw[<-CP (f:=fun m=>((m,value l k m):Nat×Nat)),XT]
   exact hu
 . obtain⟨y,hy,rfl⟩:=Dc.mp hx
   exact Ic (A1 y (B2 _ hy))
theorem iK (l:List Entry) (k a b:Nat) (t:List (Nat×Nat)):cutsWith l k a b t=(t.map (·.1)).foldl (fun z m=>rising m z) (cuts l k a b):=by
 unfold cutsWith
 rw[d9]
theorem tP (l:List Entry) (k a b:Nat) (t:List (Nat×Nat)):Up (cutsWith l k a b t):=by
 rw[iK]
 exact (Qe _ _ (Kb l k a b)).1
theorem tO (l:List Entry) (k a b:Nat) (t:List (Nat×Nat)) (y:Nat):y∈cutsWith l k a b t↔y∈cuts l k a b\/y∈t.map (·.1):=by
 rw[iK,(Qe _ _ (Kb l k a b)).2 y]
 exact Or.comm
theorem lY:∀(t:List (Nat×Nat)) (m now:Nat),t.Pairwise (fun x y=>x.1 < y.1)->lineAt t m now=t.foldl (fun v x=>if x.1<=m then x.2 else v) now
 | [],m,now,_=>rfl
 | x::r,m,now,h=>by
  obtain⟨h1,h2⟩:=Dr.mp h
  show (if x.1<=m then lineAt r m x.2 else now)=r.foldl _ (if x.1<=m then x.2 else now)
  by_cases e:x.1<=m
  . rw[if_pos e,if_pos e,lY r m _ h2]
  . rw[if_neg e,if_neg e]
    have go:∀l:List (Nat×Nat),(∀y∈l,¬y.1<=m)->l.foldl (fun v x=>if x.1<=m then x.2 else v) now=now:=by
     intro l
     induction l with
     | nil=>intro _;rfl
     | cons y l ih=>
      intro hy
      rw[FV,if_neg (hy y Bl)]
      exact ih fun z hz=>hy z (B2 _ hz)
    exact (go r fun y hy=>by have:=h1 y hy;lia).symm
theorem uP (b:Nat) (cs:List Nat) {j:Nat} (h:j < cs.length):(ends b cs).getD j 0=(cs++[b]).getD (j+1) 0:=by
 unfold ends
 cases cs with
 | nil=>exact absurd h (Oy _)
 | cons c r=>
  show (r++[b]).getD j 0=(c::(r++[b])).getD (j+1) 0
  rfl
def pairsOf:List Int->List (Int×Int)
 | m::v::r=>(m,v)::pairsOf r
 | _=>[]
def Jr (p:Int×Int):Nat×Nat:=(p.1.toNat,p.2.toNat)
def JG (b:Int):Int->List (Int×Int)->Bool
 | _,[]=>true
 | f,p::r=>(decide (f<=p.1)&&(decide (p.1 < b)&&okV p.2))&&JG b (p.1+1) r
theorem lZ (b:Int):∀(n:Nat) (l:List Int) (f:Int),l.length=2*n->lineIn b f l=if JG b f (pairsOf l)=true then some ((pairsOf l).map Jr) else none
 | 0,l,f,h=>by
  have:l=[]:=Hb.mp h
  subst this
  rfl
 | n+1,m::v::r,f,h=>by
  have hr:r.length=2*n:=by rw[BO,BO] at h;lia
  show (if (decide (f<=m)&&(decide (m < b)&&okV v))=false then none else (lineIn b (m+1) r).map fun l=>(m.toNat,v.toNat)::l)=if ((decide (f<=m)&&(decide (m < b)&&okV v))&&JG b (m+1) (pairsOf r))=true then some (Jr (m,v)::(pairsOf r).map Jr) else none
  rw[lZ b n r (m+1) hr]
  cases (decide (f<=m)&&(decide (m < b)&&okV v)) with
  | false=>rfl
  | true=>
   rw[if_neg (by decide),G3]
   split
   . rfl
   . rfl
 | n+1,[],f,h=>by cases h
 | n+1,[x],f,h=>by rw[FW] at h;lia
theorem lg (b:Int):∀(n:Nat) (l:List Int) (f:Int),l.length=2*n+1->lineIn b f l=none
 | 0,l,f,h=>by
  match l,h with
  | [x],_=>rfl
 | n+1,m::v::r,f,h=>by
  have hr:r.length=2*n+1:=by rw[BO,BO] at h;lia
  show (if (decide (f<=m)&&(decide (m < b)&&okV v))=false then none else (lineIn b (m+1) r).map fun l=>(m.toNat,v.toNat)::l)=none
  rw[lg b n r (m+1) hr]
  split <;> rfl
 | n+1,[],f,h=>by cases h
 | n+1,[x],f,h=>by rw[FW] at h;lia
def Gx:List Int->Bool
 | x::y::r=>decide (x < y)&&Gx (y::r)
 | _=>true
theorem Zq (b:Int):∀(r:List (Int×Int)) (p:Int×Int) (f:Int),JG b f (p::r)=true↔f<=p.1/\((p::r).map (·.1)).getLastD 0 < b/\Gx ((p::r).map (·.1))=true/\((p::r).map (·.2)).all okV=true
 | [],p,f=>by
  show ((decide (f<=p.1)&&(decide (p.1 < b)&&okV p.2))&&true)=true↔f<=p.1/\p.1 < b/\true=true/\(okV p.2&&true)=true
  simp[CB,and_assoc]
 | q::r,p,f=>by
  have ih:=Zq b r q (p.1+1)
  show ((decide (f<=p.1)&&(decide (p.1 < b)&&okV p.2))&&JG b (p.1+1) (q::r))=true↔f<=p.1/\((q::r).map (·.1)).getLastD 0 < b/\(decide (p.1 < q.1)&&Gx ((q::r).map (·.1)))=true/\(okV p.2&&((q::r).map (·.2)).all okV)=true
  rw[CB,ih]
  simp only[CB,decide_eq_true_eq]
  have hlast:∀(l:List (Int×Int)) (x:Int×Int),Gx ((x::l).map (·.1))=true->x.1<=((x::l).map (·.1)).getLastD 0:=by
   intro l
   induction l with
   | nil=>intro x _;exact Int.le_refl _
   | cons y l ih2=>
    intro x hx
    have hx':decide (x.1 < y.1)=true/\Gx ((y::l).map (·.1))=true:=by
     have:=hx
     show _
     exact (CB _ _).mp (show (decide (x.1 < y.1)&&Gx ((y::l).map (·.1)))=true from hx)
    have h1:=of_decide_eq_true hx'.1
    have h2:=ih2 y hx'.2
    show x.1<=((y::l).map (·.1)).getLastD 0
    lia
  constructor
  . rintro⟨⟨h1,h2,h3⟩,h4,h5,h6,h7⟩
    exact⟨h1,h5,⟨by lia,h6⟩,h3,h7⟩
  . rintro⟨h1,h2,⟨h3,h4⟩,h5,h6⟩
    have:=hlast r q h4
    exact⟨⟨h1,by lia,h5⟩,by lia,h2,h4,h6⟩
def D4 (l:List Int) (a b:Int):Bool:=match pairsOf l with
 | []=>false
 | p::r=>decide (l.length%2=0)&&(decide (p.1=a)&&(decide (((p::r).map (·.1)).getLastD 0 < b)&&(Gx ((p::r).map (·.1))&&((p::r).map (·.2)).all okV)))
theorem qA (l:List Int) (a b:Int):windowLine a b l=if D4 l a b=true then some ((pairsOf l).map Jr) else none:=by
 match l with
 | []=>rfl
 | [m]=>
  show (if m=a then none else none)=_
  rw[ite_self]
  rfl
 | m::v::r=>
  show (if m=a then lineIn b a (m::v::r) else none)=_
  have ep:pairsOf (m::v::r)=(m,v)::pairsOf r:=rfl
  have ei:D4 (m::v::r) a b=(decide ((m::v::r).length%2=0)&&(decide (m=a)&&(decide ((((m,v)::pairsOf r).map (·.1)).getLastD 0 < b)&&(Gx (((m,v)::pairsOf r).map (·.1))&&(((m,v)::pairsOf r).map (·.2)).all okV)))):=rfl
  rw[ei]
  by_cases hm:m=a
  . rw[if_pos hm]
    rcases Nat.mod_two_eq_zero_or_one (m::v::r).length with h2 | h2
    . have hn:(m::v::r).length=2*((m::v::r).length / 2):=by lia
      rw[lZ b _ _ a hn,ep]
      have hiff:=Zq b (pairsOf r) (m,v) a
      have e:(JG b a ((m,v)::pairsOf r)=true)↔(decide ((m::v::r).length%2=0)&&(decide (m=a)&&(decide ((((m,v)::pairsOf r).map (·.1)).getLastD 0 < b)&&(Gx (((m,v)::pairsOf r).map (·.1))&&(((m,v)::pairsOf r).map (·.2)).all okV))))=true:=by
       rw[hiff,h2]
       simp only[CB,decide_eq_true_eq]
       constructor
       . rintro⟨_,q⟩
         exact⟨trivial,hm,q⟩
       . rintro⟨_,_,q⟩
         exact⟨by show a<=m;lia,q⟩
      by_cases hk:JG b a ((m,v)::pairsOf r)=true
      . rw[if_pos hk,if_pos (e.mp hk)]
      . rw[if_neg hk,if_neg fun z=>hk (e.mpr z)]
    . have hn:(m::v::r).length=2*((m::v::r).length / 2)+1:=by lia
      rw[lg b _ _ a hn,h2]
      rfl
  . rw[if_neg hm]
    have:decide (m=a)=false:=decide_eq_false hm
    rw[this]
    simp
theorem lh (b:Int):∀(r:List (Int×Int)) (f:Int),0<=f->JG b f r=true->(∀p∈r,f<=p.1/\p.1 < b/\0<=p.2)/\(r.map Jr).Pairwise (fun x y=>x.1 < y.1)
 | [],f,_,_=>⟨fun p hp=>(XR hp).elim,LJ⟩
 | p::r,f,hf,h=>by
  obtain⟨h1,h2⟩:=(CB _ _).mp (show ((decide (f<=p.1)&&(decide (p.1 < b)&&okV p.2))&&JG b (p.1+1) r)=true from h)
  simp only[CB,decide_eq_true_eq] at h1
  obtain⟨h3,h4,h5⟩:=h1
  obtain⟨q1,q2⟩:=lh b r (p.1+1) (by lia) h2
  refine⟨fun x hx=>?_,?_⟩
  . rcases BK.mp hx with e | e
    . subst e
      unfold okV inR at h5
      simp only[CB,decide_eq_true_eq] at h5
      exact⟨h3,h4,h5.1⟩
    . have:=q1 x e
      exact⟨by lia,this.2⟩
  . rw[CP]
    refine Dr.mpr ⟨fun x hx=>?_,q2⟩
    obtain⟨y,hy,rfl⟩:=Dc.mp hx
    have:=(q1 y hy).1
    show p.1.toNat < y.1.toNat
    lia
theorem Zh {l:List Int} {a b:Int} (ha:0<=a) (h:D4 l a b=true):(∀p∈pairsOf l,a<=p.1/\p.1 < b/\0<=p.2)/\((pairsOf l).map Jr).Pairwise (fun x y=>x.1 < y.1)/\l.length=2*(pairsOf l).length/\∃p r,pairsOf l=p::r:=by
 have hp2:∀(n:Nat) (l:List Int),l.length=2*n->l.length=2*(pairsOf l).length:=by
  intro n
  induction n with
  | zero=>
   intro l h
   have:l=[]:=Hb.mp h
   subst this
   rfl
  | succ n ih=>
   intro l h
   match l,h with
   | [],h=>rw[D7] at h;lia
   | m::v::r,h=>
    have hr:r.length=2*n:=by rw[BO,BO] at h;lia
    show r.length+1+1=2*((pairsOf r).length+1)
    have:=ih r hr
    lia
   | [x],h=>rw[FW] at h;lia
 cases EW:pairsOf l with
 | nil=>
  unfold D4 at h
  rw[EW] at h
  cases h
 | cons p r=>
  unfold D4 at h
  rw[EW] at h
  simp only[CB,decide_eq_true_eq] at h
  obtain⟨h1,h2,h3,h4,h5⟩:=h
  have hk:JG b a (p::r)=true:=(Zq b r p a).mpr ⟨by lia,h3,h4,h5⟩
  obtain⟨q1,q2⟩:=lh b _ a ha hk
  have:=hp2 (l.length / 2) l (by lia)
  rw[EW] at this
  exact⟨q1,q2,this,p,r,rfl⟩
def EE:List Int->List (Int×Int×Int)
 | x::y::v::r=>(x,y,v)::EE r
 | _=>[]
def HK (p:Int×Int×Int):Nat×Nat×Nat:=(p.1.toNat,p.2.1.toNat,p.2.2.toNat)
def Ga (a b:Int) (p:Int×Int×Int):Bool:=decide (a<=p.1)&&(decide (p.1 < p.2.1)&&(decide (p.2.1<=b)&&okV p.2.2))
def F8 (l:List Int) (a b:Int):Bool:=decide (l.length%3=0)&&(EE l).all (Ga a b)
theorem pM (a b:Int):∀(n:Nat) (l:List Int),l.length=3*n->strokesIn a b l=if (EE l).all (Ga a b)=true then some ((EE l).map HK) else none
 | 0,l,h=>by
  have:l=[]:=Hb.mp h
  subst this
  rfl
 | n+1,x::y::v::r,h=>by
  have hr:r.length=3*n:=by rw[BO,BO,BO] at h;lia
  show (if (decide (a<=x)&&(decide (x < y)&&(decide (y<=b)&&okV v)))=false then none else (strokesIn a b r).map fun l=>(x.toNat,y.toNat,v.toNat)::l)=if (Ga a b (x,y,v)&&(EE r).all (Ga a b))=true then some (HK (x,y,v)::(EE r).map HK) else none
  rw[pM a b n r hr]
  have e:Ga a b (x,y,v)=(decide (a<=x)&&(decide (x < y)&&(decide (y<=b)&&okV v))):=rfl
  rw[e]
  cases (decide (a<=x)&&(decide (x < y)&&(decide (y<=b)&&okV v))) with
  | false=>rfl
  | true=>
   rw[if_neg (by decide),G3]
   split
   . rfl
   . rfl
 | n+1,[],h=>by cases h
 | n+1,[x],h=>by rw[FW] at h;lia
 | n+1,[x,y],h=>by
  have:[x,y].length=2:=rfl
  lia
theorem ADs (a b:Int):∀(n:Nat) (l:List Int),l.length=n->n%3≠0->strokesIn a b l=none:=by
 intro n
 induction n using eR with
 | _ n ih=>
  intro l h h3
  match l,h with
  | [],h=>rw[<-h] at h3;exact absurd rfl h3
  | [x],h=>rfl
  | [x,y],h=>rfl
  | x::y::v::r,h=>
   rw[BO,BO,BO] at h
   show (if (decide (a<=x)&&(decide (x < y)&&(decide (y<=b)&&okV v)))=false then none else (strokesIn a b r).map fun l=>(x.toNat,y.toNat,v.toNat)::l)=none
   rw[ih r.length (by lia) r rfl (by lia)]
   split <;> rfl
theorem pL (l:List Int) (a b:Int):strokesIn a b l=if F8 l a b=true then some ((EE l).map HK) else none:=by
 unfold F8
 by_cases h:l.length%3=0
 . rw[pM a b (l.length / 3) l (by lia),decide_eq_true h,G3]
 . rw[ADs a b l.length l rfl h,decide_eq_false h,G0,if_neg Bw]
theorem aY {α:Type} [DecidableEq α]:∀(r:List (Nat×α)) (v:α),(runsFrom v r).Sublist r
 | [],v=>List.Sublist.slnil
 | q::r,v=>by
  unfold runsFrom
  split
  . exact (aY r v).cons q
  . exact (aY r q.2).cons₂ q
theorem oS {α:Type} [DecidableEq α]:∀l:List (Nat×α),(runs l).Sublist l
 | []=>List.Sublist.slnil
 | p::r=>(aY r p.2).cons₂ p
theorem qO {α:Type} (b:Nat):∀l:List (Nat×α),l.Pairwise (fun x y=>x.1 < y.1)->(∀x∈l,x.1<=b)->∀x∈l.zip ((l.drop 1).map (·.1)++[b]),x.1.1<=x.2
 | [],_,_,x,hx=>by cases hx
 | [p],_,hb,x,hx=>by
  have hx':x∈[(p,b)]:=hx
  rw[DZ.mp hx']
  exact hb p Bl
 | p::q::r,h,hb,x,hx=>by
  have hx':x∈(p,q.1)::(q::r).zip (((q::r).drop 1).map (·.1)++[b]):=hx
  obtain⟨h1,h2⟩:=Dr.mp h
  rcases BK.mp hx' with e | e
  . subst e
    exact Ic (h1 q Bl)
  . exact qO b (q::r) h2 (fun y hy=>hb y (B2 _ hy)) x e
theorem zT (l:List Entry) (k a b:Nat) (Bk:a < b):(line l k a b).Pairwise (fun x y=>x.1 < y.1)/\∀x∈line l k a b,x.1<=b:=by
 rw[RF]
 have hs:=oS ((cuts l k a b).map fun m=>(m,value l k m))
 refine⟨dv hs ?_,fun x hx=>?_⟩
 . rw[XT]
   exact Kb l k a b
 . obtain⟨y,hy,rfl⟩:=Dc.mp (hs.subset hx)
   exact Ic (iL l k a b Bk hy).2
theorem pQ (f:Nat×Nat×Nat->Int) (g:Nat×Nat×Nat->Nat):∀l:List (Nat×Nat×Nat),(∀x∈l,f x=(g x:Int))->(l.map f).sum=(((l.map g).sum:Nat):Int)
 | [],_=>rfl
 | x::r,h=>by
  rw[CP,CP,eK,eK,pQ f g r fun y hy=>h y (B2 _ hy),h x Bl]
  lia
theorem uw (p:Nat->Bool):∀(n i:Nat),i < n->(∀j,j < i->p j=false)->p i=true->(Ca n).find? p=some i:=by
 intro n i h h1 h2
 rw[List.find?_range_eq_some]
 exact⟨h2,JX.mpr h,fun j hj=>by rw[h1 j hj];rfl⟩
theorem find_none (p:Nat->Bool) (n:Nat) (h:∀j,j < n->p j=false):(Ca n).find? p=none:=by
 rw[List.find?_eq_none]
 intro x hx
 rw[h x (JX.mp hx)]
 exact Bw
theorem iC:∀(n:Nat) (l:List Int),l.length=2*n->(Ca n).map (fun i=>(l.drop (i*2)).take 2)=(pairsOf l).map fun p=>[p.1,p.2]
 | 0,l,h=>by
  have:l=[]:=Hb.mp h
  subst this
  rfl
 | n+1,m::v::r,h=>by
  have hr:r.length=2*n:=by rw[BO,BO] at h;lia
  rw[LP,CP,Dq]
  show [m,v]::_=[m,v]::(pairsOf r).map fun p=>[p.1,p.2]
  rw[<-iC n r hr]
  congr 1
  refine JW fun i _=>?_
  show ((m::v::r).drop ((i+1)*2)).take 2=_
  rw[show (i+1)*2=i*2+1+1 by lia,Sf,Sf]
 | n+1,[],h=>by rw[D7] at h;lia
 | n+1,[x],h=>by rw[FW] at h;lia
theorem iD:∀(n:Nat) (l:List Int),l.length=3*n->(Ca n).map (fun i=>(l.drop (i*3)).take 3)=(EE l).map fun p=>[p.1,p.2.1,p.2.2]
 | 0,l,h=>by
  have:l=[]:=Hb.mp h
  subst this
  rfl
 | n+1,m::v::u::r,h=>by
  have hr:r.length=3*n:=by rw[BO,BO,BO] at h;lia
  rw[LP,CP,Dq]
  show [m,v,u]::_=[m,v,u]::(EE r).map fun p=>[p.1,p.2.1,p.2.2]
  rw[<-iD n r hr]
  congr 1
  refine JW fun i _=>?_
  show ((m::v::u::r).drop ((i+1)*3)).take 3=_
  rw[show (i+1)*3=i*3+1+1+1 by lia,Sf,Sf,Sf]
 | n+1,[],h=>by rw[D7] at h;lia
 | n+1,[x],h=>by rw[FW] at h;lia
 | n+1,[x,y],h=>by
  have:[x,y].length=2:=rfl
  lia
theorem jC {α:Type} (g:Int->α):∀(n:Nat) (l:List Int),l.length=2*n->(Ca n).filterMap (fun i=>(l.map g)[2*i]?)=(pairsOf l).map fun p=>g p.1
 | 0,l,h=>by
  have:l=[]:=Hb.mp h
  subst this
  rfl
 | n+1,m::v::r,h=>by
  have hr:r.length=2*n:=by rw[BO,BO] at h;lia
  rw[LP,Ma (f:=fun i=>(KJ g (m::v::r))[2*i]?) (b:=g m) rfl,XG]
  show g m::_=g m::(pairsOf r).map fun p=>g p.1
  rw[<-jC g n r hr]
  congr 1
 | n+1,[],h=>by rw[D7] at h;lia
 | n+1,[x],h=>by rw[FW] at h;lia
theorem mw {α:Type} (g:Int->α):∀(n:Nat) (l:List Int),l.length=2*n->(Ca n).filterMap (fun i=>(l.map g)[1+2*i]?)=(pairsOf l).map fun p=>g p.2
 | 0,l,h=>by
  have:l=[]:=Hb.mp h
  subst this
  rfl
 | n+1,m::v::r,h=>by
  have hr:r.length=2*n:=by rw[BO,BO] at h;lia
  rw[LP,Ma (f:=fun i=>(KJ g (m::v::r))[1+2*i]?) (b:=g v) rfl,XG]
  show g v::_=g v::(pairsOf r).map fun p=>g p.2
  rw[<-mw g n r hr]
  congr 1
 | n+1,[],h=>by rw[D7] at h;lia
 | n+1,[x],h=>by rw[FW] at h;lia
theorem pairs_len:∀(n:Nat) (l:List Int),l.length=2*n->(pairsOf l).length=n
 | 0,l,h=>by
  have:l=[]:=Hb.mp h
  subst this
  rfl
 | n+1,m::v::r,h=>by
  show (pairsOf r).length+1=n+1
  rw[pairs_len n r (by rw[BO,BO] at h;lia)]
 | n+1,[],h=>by rw[D7] at h;lia
 | n+1,[x],h=>by rw[FW] at h;lia
theorem cx:∀(n:Nat) (l:List Int),l.length=3*n->(EE l).length=n
 | 0,l,h=>by
  have:l=[]:=Hb.mp h
  subst this
  rfl
 | n+1,m::v::u::r,h=>by
  show (EE r).length+1=n+1
  rw[cx n r (by rw[BO,BO,BO] at h;lia)]
 | n+1,[],h=>by rw[D7] at h;lia
 | n+1,[x],h=>by rw[FW] at h;lia
 | n+1,[x,y],h=>by
  have:[x,y].length=2:=rfl
  lia
def bestAt (len:Nat->Nat):Nat->Nat
 | 0=>0
 | k+1=>if decide ((len (k+1):Int) < (len (bestAt len k):Int)) then k+1 else bestAt len k
theorem ux:∀{ws:List Row} (y:Row),ws≠[]->Fv (ws++[y])=fewer (Fv ws) y
 | [],y,h=>absurd rfl h
 | x::r,y,_=>by
  show (r++[y]).foldl fewer x=fewer (r.foldl fewer x) y
  rw[Sg]
  rfl
theorem gG {ws:List Row}:∀k,k < ws.length->ws[bestAt (fun i=>(ws.map D6).getD i 0) k]? =some (Fv (ws.take (k+1)))/\bestAt (fun i=>(ws.map D6).getD i 0) k<=k
 | 0,h=>by
  refine⟨?_,Aj _⟩
  cases ws with
  | nil=>exact absurd h (Oy _)
  | cons x r=>rfl
 | k+1,h=>by
  obtain⟨h1,h2⟩:=gG (ws:=ws) k (by lia)
  obtain⟨y,hy⟩:∃y,ws[k+1]? =some y:=⟨ws[k+1],DU h⟩
  have htk:ws.take (k+1+1)=ws.take (k+1)++[y]:=by
   rw[XU,hy]
   rfl
  have BX:ws.take (k+1)≠[]:=by
   intro e
   have:=congrArg D6 e
   rw[Ct,D7] at this
   lia
  have l1:(ws.map D6).getD (k+1) 0=y.length:=by
   rw[Gg,CM,hy]
   rfl
  have l2:(ws.map D6).getD (bestAt (fun i=>(ws.map D6).getD i 0) k) 0=(Fv (ws.take (k+1))).length:=by
   rw[Gg,CM,h1]
   rfl
  rw[htk,ux y BX]
  unfold fewer
  show ws[if decide (((ws.map D6).getD (k+1) 0:Int) < ((ws.map D6).getD (bestAt (fun i=>(ws.map D6).getD i 0) k) 0:Int)) then k+1 else bestAt (fun i=>(ws.map D6).getD i 0) k]? =_/\(if decide (((ws.map D6).getD (k+1) 0:Int) < ((ws.map D6).getD (bestAt (fun i=>(ws.map D6).getD i 0) k) 0:Int)) then k+1 else bestAt (fun i=>(ws.map D6).getD i 0) k)<=k+1
  rw[l1,l2]
  by_cases A1:y.length < (Fv (ws.take (k+1))).length
  . have hd:decide ((y.length:Int) < ((Fv (ws.take (k+1))).length:Int))=true:=decide_eq_true (by lia)
    rw[hd,if_pos A1]
    exact⟨hy,Aj _⟩
  . have hd:decide ((y.length:Int) < ((Fv (ws.take (k+1))).length:Int))=false:=decide_eq_false (by lia)
    rw[hd,if_neg A1]
    exact⟨h1,XZ h2⟩
theorem rO {ws:List Row} (h:0 < ws.length):ws[bestAt (fun i=>(ws.map D6).getD i 0) (ws.length - 1)]? =some (Fv ws):=by
 have h1:=(gG (ws:=ws) (ws.length - 1) (by lia)).1
 rw[show ws.length - 1+1=ws.length by lia,LQ] at h1
 exact h1
def Fc (t:List (Nat×Nat)) (m:Nat):Nat:=t.foldl (fun v x=>if x.1<=m then x.2 else v) 0
theorem iG (l:List Entry) (k a b:Nat) (t:List (Nat×Nat)) (ht:t.Pairwise (fun x y=>x.1 < y.1)):corrections l k a b t=
 (Ov ((cutsWith l k a b t).map fun m=>Fc t m) ((cutsWith l k a b t).map fun m=>value l k m) (cutsWith l k a b t).length).map fun p=>((cutsWith l k a b t).getD p.1 0,((cutsWith l k a b t)++[b]).getD (p.2.1+1) 0,p.2.2):=by
 have e0:(fun m=>lineAt t m 0)=fun m=>Fc t m:=by
  funext m
  exact lY t m 0 ht
 unfold corrections
 show (repaint ((cutsWith l k a b t).map fun m=>lineAt t m 0) ((cutsWith l k a b t).map fun m=>value l k m)).map (fun p=>((cutsWith l k a b t).getD p.1 0,(ends b (cutsWith l k a b t)).getD p.2.1 0,p.2.2))=_
 rw[e0,ACh,AR]
 refine JW fun p hp=>?_
 have hb:=(Sq _ _ _ (JZ (by rw[AR]))).2 p hp
 rw[AR] at hb
 rw[uP b _ hb.2]
end Vm
namespace L2
open PySem
section
variable {prog:Av} {w:Am} {A:Bf} {R:Result->AI->Prop} {I:AA} {fp wr:List AA} {n:Nat} {P:Nat->AF->Prop} {St:Nat->Ae->Prop}
def EY (len:Nat->Nat) (i j:Nat):Bool:=decide ((len i:Int) < (len j:Int))
theorem lR {h0:Ae} {len:Nat->Nat} (hP:∀i v,P i v->∃a AB,v= .ref a/\h0.IsList a AB/\AB.size=len i/\(AB.size:Int) < 2 ^ 63) {i:Nat} {v:AF} {s:AI} {Q:AF->AI->Prop} {E:AF->AI->Prop} (hv:P i v)
 (hkn:∀b o,h0.get? b=some o->s.heap.get? b=some o) (h:∀t tkn,Q (.int (len i:Int) t) { s with toks:=tkn }):AU (AY prog w) A (call (.builtin "len") [v]) Q E s:=by
 obtain⟨a,AB,rfl,hl,hz,hf⟩:=hP i v hv
 have hl':s.heap.IsList a AB:=hl.at fun o e=>hkn a o e
 refine Calls.call_len_list hl' hf ?_
 rw[hz]
 exact h _ _
theorem zX {i j:Int} {t u:E4} {s:AI} {Q:AF->AI->Prop} {E:AF->AI->Prop} (h:Q (.bool (decide (i < j))) s):AU (AY prog w) A (richCompare .Lt (.int i t) (.int j u)) Q E s:=
 richCompare_gives (op:=.Lt) (pf s _ t) (pf s _ u) F.slot_int_lt F.entry_int_lt (F.args_int_lt_2 _ _) (gives_int_lt _ _ t u) (fun x=>nomatch x) h
theorem AAA (W:Walks prog w A.in1 I fp wr n P St) {h0:Ae} {len:Nat->Nat} (hP:∀i v,P i v->∃a AB,v= .ref a/\h0.IsList a AB/\AB.size=len i/\(AB.size:Int) < 2 ^ 63) (S:AA) (NK:S∉fp) (hS0:h0.get? S=none) (hw0:∀b∈wr,h0.get? b=none):
 ∀(k j:Nat) (s:AI) (OV:AF) (t:E4) (c:Nat),n - (j+1)=k->j+1<=n->St (j+1) s.heap->P (argBest (EY len) j) OV->(∀b o,h0.get? b=some o->s.heap.get? b=some o)->
 s.heap.get? S=some { cls:=.type "list",dict:=none,data:=.seq #[OV,.int (len (argBest (EY len) j):Int) t] c,slots:= #[] }->
 (∀v h1 tkn,P (argBest (EY len) (n - 1)) v->(∀b o,b∉wr->b≠S->s.heap.get? b=some o->h1.get? b=some o)->R (.ok (.ret v)) { s with heap:=h1,toks:=tkn })->
 codeAny (AY prog w) A (.builtin "min.loop" ⟨[.ref I,.builtin "len",.ref S],[]⟩) R s:=by
 have hSr:S∉wr:=fun h=>NK (W.sub _ h)
 have hnm:(toString "min"++toString ".loop":String)="min.loop":=by decide
 have up:∀{h h1:Ae},(∀b o,h0.get? b=some o->h.get? b=some o)->(∀b o,b∉wr->h.get? b=some o->h1.get? b=some o)->∀b o,h0.get? b=some o->h1.get? b=some o:=fun {h h1} k1 k2 b o e=>
  k2 b o (fun hbb=>by rw[hw0 b hbb] at e;cases e) (k1 b o e)
 have nS:∀{b:AA} {o:Aq},h0.get? b=some o->b≠S:=fun {b o} e z=>by rw[z,hS0] at e;cases e
 intro k
 induction k with
 | zero=>
  intro j s OV t c hkn hj Qz Y4 hkp hS NJ
  have j8:j+1=n:=by lia
  refine Jd dW ?_
  rw[K9 MS _]
  show AU _ A.in1 (seqItems? (.ref S) >>= _) _ _ s
  refine AJ (Ww hS rfl ?_)
  show AU _ A.in1 (tryCatch (pyNext (.ref I)) _ >>= _) _ _ s
  refine AJ (SQ (W.done s _ _ (j8▸Qz) fun h1 tkn GO=>?_))
  have gS:=GO S _ hSr hS
  show AU _ A.in1 (updateSeq S (fun _=> #[]) >>= _) _ _ _
  refine AJ ?_
  refine Wz gS rfl (AJ (SK (Ai ?_)))
  refine NJ OV _ tkn (by rw[<-j8];exact Y4) fun b o Iy Jj e=>(JT _ _ (Ne.symm Jj)).trans (GO b o Iy e)
 | succ k ih=>
  intro j s OV t c hkn hj Qz Y4 hkp hS NJ
  have Lq:j+1 < n:=by lia
  refine Jd dW ?_
  rw[K9 MS _]
  show AU _ A.in1 (seqItems? (.ref S) >>= _) _ _ s
  refine AJ (Ww hS rfl ?_)
  show AU _ A.in1 (tryCatch (pyNext (.ref I)) _ >>= _) _ _ s
  refine AJ (SQ (W.item (j+1) s _ _ Lq Qz fun v h1 tkn hPv UM GO=>?_))
  have gS:=GO S _ hSr hS
  have NR:=up hkp GO
  show AU _ A.in1 (tryCatch (holding [v] (call (.builtin "len") [v])) _ >>= _) _ _ _
  refine AJ (SQ (HV (lR hP hPv NR fun t2 tk2=>?_)))
  show AU _ A.in1 (tryCatch (holding [v,.int (len (j+1):Int) t2] (richCompare .Lt (.int (len (j+1):Int) t2) (.int (len (argBest (EY len) j):Int) t) >>= _)) _ >>= _) _ _ _
  refine AJ (SQ (HV (AJ (zX ?_))))
  refine AJ (HV (IP ?_))
  refine AJ (SK (Ai ?_))
  cases hbb:decide ((len (j+1):Int) < (len (argBest (EY len) j):Int)) with
  | true=>
   have ea:argBest (EY len) (j+1)=j+1:=by
    show (if EY len (j+1) (argBest (EY len) j)=true then j+1 else argBest (EY len) j)=j+1
    rw[if_pos (show EY len (j+1) (argBest (EY len) j)=true from hbb)]
   simp only[if_true]
   refine AJ ?_
   refine Wz gS rfl (AJ (SK ?_))
   rw[hnm]
   refine Ai ⟨Kt MS _,ih (j+1) _ v t2 _ (by lia) Lq (W.frame _ _ _ UM fun b hbf o e=>?_) (by rw[ea];exact hPv) (fun b o e=>?_) (by rw[ea];exact MV _ gS rfl)
    fun v2 h2 R9 Qu RC=>?_⟩
   . exact (JT _ _ (fun h:S=b=>NK (by rw[h];exact hbf))).trans e
   . exact (JT _ _ (Ne.symm (nS e))).trans (NR b o e)
   . exact NJ v2 h2 R9 Qu fun b o Iy Jj e=>RC b o Iy Jj ((JT _ _ (Ne.symm Jj)).trans (GO b o Iy e))
  | false=>
   have ea:argBest (EY len) (j+1)=argBest (EY len) j:=by
    show (if EY len (j+1) (argBest (EY len) j)=true then j+1 else argBest (EY len) j)=_
    rw[if_neg (show ¬EY len (j+1) (argBest (EY len) j)=true from fun z=>Bw (hbb.symm.trans z))]
   simp only[Cg,if_false]
   refine AJ (SK ?_)
   rw[hnm]
   refine Ai ⟨Kt MS _,ih (j+1) _ OV t c (by lia) Lq UM (by rw[ea];exact Y4) NR (by rw[ea];exact gS) fun v2 h2 R9 Qu RC=>?_⟩
   exact NJ v2 h2 R9 Qu fun b o Iy Jj e=>RC b o Iy Jj (GO b o Iy e)
theorem zy (W:Walks prog w A.in1 I fp wr n P St) {h0:Ae} {len:Nat->Nat} (hP:∀i v,P i v->∃a AB,v= .ref a/\h0.IsList a AB/\AB.size=len i/\(AB.size:Int) < 2 ^ 63) (S:AA) (NK:S∉fp) (hS0:h0.get? S=none) (hw0:∀b∈wr,h0.get? b=none)
 (hn:0 < n) {s:AI} {c:Nat} (Qz:St 0 s.heap) (hkp:∀b o,h0.get? b=some o->s.heap.get? b=some o)
 (hS:s.heap.get? S=some { cls:=.type "list",dict:=none,data:=.seq #[] c,slots:= #[] })
 (NJ:∀v h1 tkn,P (argBest (EY len) (n - 1)) v->(∀b o,b∉wr->b≠S->s.heap.get? b=some o->h1.get? b=some o)->R (.ok (.ret v)) { s with heap:=h1,toks:=tkn }):
 codeAny (AY prog w) A (.builtin "min.loop" ⟨[.ref I,.builtin "len",.ref S],[]⟩) R s:=by
 have hSr:S∉wr:=fun h=>NK (W.sub _ h)
 have hnm:(toString "min"++toString ".loop":String)="min.loop":=by decide
 refine Jd dW ?_
 rw[K9 MS _]
 show AU _ A.in1 (seqItems? (.ref S) >>= _) _ _ s
 refine AJ (Ww hS rfl ?_)
 show AU _ A.in1 (tryCatch (pyNext (.ref I)) _ >>= _) _ _ s
 refine AJ (SQ (W.item 0 s _ _ hn Qz fun v h1 tkn hPv UM GO=>?_))
 have gS:=GO S _ hSr hS
 have NR:∀b o,h0.get? b=some o->h1.get? b=some o:=fun b o e=>GO b o (fun hbb=>by rw[hw0 b hbb] at e;cases e) (hkp b o e)
 show AU _ A.in1 (tryCatch (holding [v] (call (.builtin "len") [v])) _ >>= _) _ _ _
 refine AJ (SQ (HV (lR hP hPv NR fun t2 tk2=>?_)))
 show AU _ A.in1 (updateSeq S (fun _=> #[v,.int (len 0:Int) t2]) >>= _) _ _ _
 refine AJ ?_
 refine Wz gS rfl ?_
 rw[hnm]
 refine Ai ⟨Kt MS _,AAA W hP S NK hS0 hw0 _ 0 _ v t2 _ rfl hn (W.frame _ _ _ UM fun b hbf o e=>?_) hPv (fun b o e=>?_) (MV _ gS rfl) fun v2 h2 R9 Qu RC=>?_⟩
 . exact (JT _ _ (fun h:S=b=>NK (by rw[h];exact hbf))).trans e
 . exact (JT _ _ fun z=>by rw[<-z,hS0] at e;cases e).trans (NR b o e)
 . exact NJ v2 h2 R9 Qu fun b o Iy Jj e=>RC b o Iy Jj ((JT _ _ (Ne.symm Jj)).trans (GO b o Iy e))
end
section
variable {prog:Av} {w:Am} {A:Bf} {E:AF->AI->Prop} {s:AI}
theorem sZ {id:String} {b:Ed} {args:List AF} {kw:List (AG×AF)} {Q:AF->AI->Prop} (hkn:builtinKind id=none) (Cr:plainId id=true)
 (hbb:entryFor table id=some b) (ha:argsOk id ⟨args,kw⟩)
 (Bb:AU (AY prog w) A.in1 (b ⟨args,kw⟩) (fun fin s'=>match fin with
  | .done f=>(match (Except.ok f:Result) with | .ok (.ret v)=>Q v s' | .ok _=>False | .error e=>E e s')
  | .again c'=>c'.quiet=true/\codeAny (AY prog w) A c' (fun r s'=>match r with | .ok (.ret v)=>Q v s' | .ok _=>False | .error e=>E e s') s') E s):
 AU (AY prog w) A (call (.builtin id) args kw) Q E s:=by
 refine Wt (YC Cr hbb ?_)
 simp only[checkBuiltinCall,hkn]
 cases hsg:Manifest.signature? id with
 | none=>exact Ai Bb
 | some sig=>
  have hag:Bind.checkArgs id sig ⟨args,kw⟩=pure ():=by simpa only[argsOk,hsg] using ha
  simp only[hag]
  exact Ai Bb
theorem qv (a b:AF):argsOk "min" ⟨[a],[(Eh "key",b)]⟩:=by unfold argsOk;kernel_rfl
theorem sq {l:AA} {items:Array AF} {len:Nat->Nat} {Q:AF->AI->Prop} (hh:A.handled=none) (hl:s.heap.IsList l items) (BX:0 < items.size)
 (hP:∀i v,items[i]? =some v->∃a AB,v= .ref a/\s.heap.IsList a AB/\AB.size=len i/\(AB.size:Int) < 2 ^ 63)
 (h:∀v h1 tkn,items[argBest (EY len) (items.size - 1)]? =some v->(∀b o,s.heap.get? b=some o->h1.get? b=some o)->Q v { s with heap:=h1,toks:=tkn }):
 AU (AY prog w) A (call (.builtin "min") [.ref l] [(Eh "key",.builtin "len")]) Q E s:=by
 have hnm:(toString "min"++toString ".loop":String)="min.loop":=by decide
 have Lq:l < s.heap.objs.size:=by obtain⟨_,e,_⟩:=hl;exact Bs e
 refine sZ F.kind_min F.plain_min F.entry_min (qv _ _) ?_
 show AU _ A.in1 (Builtin.Builtins.bindParams "min" ["key","default"] 0 ⟨[],[(Eh "key",.builtin "len")]⟩ >>= _) _ _ s
 refine AJ (SM (show Builtin.Builtins.bindParams "min" ["key","default"] 0 ⟨[],[(Eh "key",.builtin "len")]⟩=pure [some (.builtin "len"),none] from rfl) ?_)
 refine AJ (Ai ?_)
 refine AJ (OX hl ?_)
 refine AJ (Hq ?_)
 have hsz:(s.heap.push { cls:=.type "list_iterator",data:=.fields #[.ref l,.int 0 0] }).objs.size=s.heap.objs.size+1:=FA ..
 have n0:∀{b:AA},s.heap.objs.size<=b->s.heap.get? b=none:=fun {b} hbb=>by
  cases e:s.heap.get? b with
  | none=>rfl
  | some o=>exact absurd (Bs e) (Xb.mpr hbb)
 have kp:∀(o1 o2:Aq) (b:AA) (o:Aq),s.heap.get? b=some o->((s.heap.push o1).push o2).get? b=some o:=fun o1 o2 b o e=>Bz _ (Bz _ e)
 rw[hnm]
 generalize w6:(s.heap.push { cls:=.type "list_iterator",data:=.fields #[.ref l,.int 0 0] }).objs.size=S at hsz
 have jl:s.heap.get? S=none:=n0 (by rw[hsz];exact Gi _)
 refine Ai ⟨Kt MS _,?_⟩
 show codeAny (AY prog w) A (.builtin "min.loop" ⟨[.ref s.heap.objs.size,.builtin "len",.ref S],[]⟩) _ { s with heap:=(s.heap.push { cls:=.type "list_iterator",data:=.fields #[.ref l,.int 0 0] }).push { cls:=.type "list",data:=.seq #[] } }
 refine zy (W:=Walks.list (A:=A.in1) hh s.heap.objs.size l (C4 Lq) items) (h0:=s.heap) hP S ?_ jl (fun b hbb=>?_) BX ?_ (kp _ _) (c:=0) ?_ fun v h1 tkn hPv hkn=>?_
 . intro hm
   rcases BK.mp hm with e | hm
   . rw[hsz] at e
     exact Nat.succ_ne_self _ e
   . rcases BK.mp hm with e | hm
     . rw[<-e,hsz] at Lq
       exact Xb.mpr (Gi _) Lq
     . cases hm
 . rw[DZ.mp hbb]
   exact n0 (Aj _)
 . exact⟨⟨_,Bz _ (Ck _ rfl),rfl,rfl⟩,(hl.push _).push _⟩
 . rw[<-w6]
   exact Ck _ rfl
 . exact h v h1 tkn hPv fun b o e=>hkn b o (fun hbb=>by rw[DZ.mp hbb,n0 (Aj _)] at e;cases e) (fun z=>by rw[z,jl] at e;cases e) (kp _ _ b o e)
end
open PySem.AutoSeq1 (wpAny_loadPart')
section
variable {prog:Av} {w:Am} {A:Bf} {E:AF->AI->Prop} {s:AI}
theorem uU {e it l:AA} {c:Int} {i:Nat} {items:Array AF} {x old:AF} {Q:AF->AI->Prop}
 (EV:IZ s.heap e it c old) (hli:s.heap.IsListIter it l i) (hll:s.heap.IsList l items) (hxx:items[i]? =some x) (hdf:e≠it)
 (hq0:∀h',IsEnumOut h' e it (c+1) x s.heap.objs.size->h'.IsListIter it l (i+1)->
  h'.get? s.heap.objs.size=some { cls:=.type "tuple",data:=.seq #[.int c s.toks,x] }->h'.objs.size=s.heap.objs.size+1->
  (∀b o,b≠e->b≠it->s.heap.get? b=some o->h'.get? b=some o)->Q (.ref s.heap.objs.size) { s with heap:=h',toks:=s.toks+1 }):
 AU (AY prog w) A (Ed.«enumerate.__next__» ⟨[.ref e],[]⟩) (fun fin s'=>∃v,fin= .done (.ret v)/\Q v s') E s:=by
 obtain⟨hpp,gn,dr,tkn,JJ⟩:=s
 show AU _ _ (field (.ref e) 2 >>= _) _ _ _
 refine AJ (SG EV rfl (x:=.ref it) rfl ?_)
 refine AJ (wpAny_nextOf_list_item hli hll hxx fun g1 lX Jy=>?_)
 replace Jy:Fn it hpp g1:=Jy
 have Td:IZ g1 e it c old:=(Jy.2 e hdf).trans EV
 show AU _ _ (field (.ref e) 3 >>= _) _ _ ⟨g1,gn,dr,tkn,JJ⟩
 refine AJ (SG Td rfl (x:=rawInt c) rfl ?_)
 show AU _ _ (field (.ref e) 4 >>= _) _ _ ⟨g1,gn,dr,tkn,JJ⟩
 refine AJ (SG Td rfl (x:=.none) rfl ?_)
 show AU _ _ (mkInt c >>= _) _ _ ⟨g1,gn,dr,tkn,JJ⟩
 refine AJ (wpAny_mkInt ?_)
 show AU _ _ (setField (.ref e) 3 (rawInt (c+1)) >>= _) _ _ ⟨g1,gn,dr,tkn+1,JJ⟩
 refine AJ (Wy Td (by simp) fun g2 Te N5=>?_)
 replace N5:Fn e g1 g2:=N5
 replace Te:IZ g2 e it (c+1) old:=Te
 show AU _ _ (setField (.ref e) 4 .none >>= _) _ _ ⟨g2,gn,dr,tkn+1,JJ⟩
 refine AJ (Wy Te (by simp) fun g3 Tf Kw=>?_)
 replace Kw:Fn e g2 g3:=Kw
 replace Tf:IZ g3 e it (c+1) old:=Tf
 show AU _ _ (newTuple [.int c tkn,x] >>= _) _ _ ⟨g3,gn,dr,tkn+1,JJ⟩
 refine AJ (qI ?_)
 have Tg:IZ (g3.push { cls:=.type "tuple",data:=.seq #[.int c tkn,x] }) e it (c+1) old:=Bz _ Tf
 generalize Qw:g3.push { cls:=.type "tuple",data:=.seq #[.int c tkn,x] }=g4 at Tg
 have hsize:g3.objs.size=hpp.objs.size:=by rw[Kw.1,N5.1,Jy.1]
 have hle:e < hpp.objs.size:=Bs EV
 have tp4:g4.get? hpp.objs.size=some { cls:=.type "tuple",data:=.seq #[.int c tkn,x] }:=by rw[<-Qw,<-hsize];exact Ck _ rfl
 have zz4:g4.objs.size=hpp.objs.size+1:=by rw[<-Qw,FA,hsize]
 have zB:∀b o,b≠e->b≠it->hpp.get? b=some o->g4.get? b=some o:=fun b o hbe hbI hb=>by
  rw[<-Qw];exact Bz _ (Kw.extBut b o hbe (N5.extBut b o hbe (Jy.extBut b o hbI hb)))
 have zQ:g4.IsListIter it l (i+1):=by
  rw[<-Qw];obtain⟨o,ho,res⟩:=(lX.extBut N5.extBut (Ne.symm hdf)).extBut Kw.extBut (Ne.symm hdf);exact⟨o,Bz _ ho,res⟩
 show AU _ _ (Builtin.SmallTypes.ownedTupleIsFree (.ref e) >>= _) _ _ ⟨g4,gn,dr,tkn+1,JJ⟩
 rw[hsize]
 clear Qw Tf Kw Te N5 Td Jy lX hsize g3 g2 g1
 refine AJ ?_
 . unfold Builtin.SmallTypes.ownedTupleIsFree
   refine AJ (SG Tg rfl (x:=.none) rfl (Ai ?_))
   simp only[if_true]
   refine AJ (Wv ?_)
   refine AJ (SG Tg rfl (x:=old) rfl ?_)
   refine AJ (Wy Tg (by simp) fun g5 YQ N6=>?_)
   replace N6:Fn e g4 g5:=N6
   replace YQ:IZ g5 e it (c+1) x:=YQ
   show AU _ _ (Builtin.SmallTypes.ownedTupleHandOut (.ref e) (.ref hpp.objs.size) >>= _) _ _ ⟨g5,gn,dr,tkn+1,JJ⟩
   refine AJ ?_
   . unfold Builtin.SmallTypes.ownedTupleHandOut
     refine AJ (Wy YQ (by simp) fun g6 YR N7=>?_)
     replace N7:Fn e g5 g6:=N7
     replace YR:IsEnumOut g6 e it (c+1) x hpp.objs.size:=YR
     refine Wy YR (by simp) fun g7 YS N8=>?_
     replace N8:Fn e g6 g7:=N8
     replace YS:IsEnumOut g7 e it (c+1) x hpp.objs.size:=YS
     refine AJ (SK (Ai ⟨_,rfl,hq0 g7 YS ?_ ?_ ?_ ?_⟩))
     . exact ((zQ.extBut N6.extBut (Ne.symm hdf)).extBut N7.extBut (Ne.symm hdf)).extBut N8.extBut (Ne.symm hdf)
     . exact N8.extBut _ _ (Mi hle) (N7.extBut _ _ (Mi hle) (N6.extBut _ _ (Mi hle) tp4))
     . rw[N8.1,N7.1,N6.1,zz4]
     . exact fun b o hbe hbI hb=>N8.extBut b o hbe (N7.extBut b o hbe (N6.extBut b o hbe (zB b o hbe hbI hb)))
theorem AAL {e it l:AA} {c:Int} {i:Nat} {items:Array AF} {x old:AF} {Q:Option AF->AI->Prop}
 (EV:IZ s.heap e it c old) (hli:s.heap.IsListIter it l i) (hll:s.heap.IsList l items) (hxx:items[i]? =some x) (hdf:e≠it)
 (hq0:∀h',IsEnumOut h' e it (c+1) x s.heap.objs.size->h'.IsListIter it l (i+1)->
  h'.get? s.heap.objs.size=some { cls:=.type "tuple",data:=.seq #[.int c s.toks,x] }->h'.objs.size=s.heap.objs.size+1->
  (∀b o,b≠e->b≠it->s.heap.get? b=some o->h'.get? b=some o)->Q (some (.ref s.heap.objs.size)) { s with heap:=h',toks:=s.toks+1 }):
 AU (AY prog w) A (pyNext (.ref e)) Q E s:=by
 have hty:s.TypeIs (.ref e) "enumerate":=⟨_,EV,rfl⟩
 unfold pyNext
 exact AJ (K6 (MQ (name:=Eh "__next__") hty W6
  (HS W6 hty F.entry_enumerate_next
   (uU EV hli hll hxx hdf fun h' a b c dr k=>Ai (hq0 h' a b c dr k)) (F.args_enumerate_next_1 _))))
theorem AAK {e it l:AA} {c:Int} {i:Nat} {items:Array AF} {old:AF} {Q:Option AF->AI->Prop} (hh:A.handled=none)
 (EV:IZ s.heap e it c old) (hli:s.heap.IsListIter it l i) (hll:s.heap.IsList l items) (hxx:items[i]? =none)
 (hq0:∀h',W8 it s.heap h'->Q none { s with heap:=h' }):AU (AY prog w) A (pyNext (.ref e)) Q E s:=by
 have hty:s.TypeIs (.ref e) "enumerate":=⟨_,EV,rfl⟩
 unfold pyNext
 refine AJ (K6 (MQ (name:=Eh "__next__") hty W6
  (HS W6 hty F.entry_enumerate_next ?_ (F.args_enumerate_next_1 _))))
 show AU _ _ (field (.ref e) 2 >>= _) _ _ _
 refine AJ (SG EV rfl (x:=.ref it) rfl ?_)
 refine AJ (wpAny_nextOf_list_end hh hli hll hxx fun h' x he' hx'=>?_)
 obtain⟨o,ho,CH⟩:=hx'
 refine AJ (Wu (T:="StopIteration") (b:=true) ⟨o,ho,CH⟩ Zj ?_)
 exact Ai (hq0 _ he')
theorem AEg {T newId initId:String} {Bn Bi:Ed} {args:List AF} {kw:List (AG×AF)} {S:Spec} {Q Q₁:AF->AI->Prop} (Gq:TypeCalled T newId initId)
 (jx:checkTypeCall T ⟨args,kw⟩=pure ()) (ZC:checkBuiltinCall newId ⟨.type T::args,kw⟩=pure ())
 (YT:entryFor table newId=some Bn) (uM:entryFor table initId=some Bi) (gn:Meets (Bn ⟨.type T::args,kw⟩) S)
 (h:S A.in1 (wants Q₁ E) s)
 (hnx:∀ob st1,Q₁ ob st1->st1.TypeIs ob T/\argsOk initId ⟨ob::args,kw⟩/\∃Si,Meets (Bi ⟨ob::args,kw⟩) Si/\Si A.in1 (wants (fun res st2=>res= .none/\Q ob st2) E) st1):
 AU (AY prog w) A (call (.type T) args kw) Q E s:=by
 obtain⟨c,tl,hmr⟩:=Gq.mro
 have hmk:=Gq.made
 have hsb:=Gq.sub
 refine Wt (iF ?_)
 show AU _ _ (callAny (.type T) _) _ _ _
 refine Ai ⟨Code.quiet_builtin _ (by decide+kernel),Jd F.entry_type_call ?_⟩
 rw[Around.under_plain (weight_type_call_type T args kw) (units_type_call_type T args kw)]
 have hh1:=Gq.notType
 have j6:=Gq.canCreate
 repeat (any_goals (first | assumption | wp_step))
 refine KZ (YC Gq.plain YT (SM ZC (gn prog w A.in1 _ s h))) fun res st1 hres=>?_
 cases res with
 | error e=>exact hres
 | ok vD=>
  cases vD with
  | ret ob=>
   obtain⟨hty,hok,Si,vN,hSi⟩:=hnx _ _ hres
   have hlI:=Gq.init.lookup
   have hbI:=Gq.init.bind ob
   repeat (any_goals (first | assumption | wp_step))
   refine KZ (YC Gq.init.plain uM (Gq.init.check _ _ _ _ _ _ _ _ hty hok (vN prog w A.in1 _ st1 hSi))) fun re2 st2 ZS=>?_
   cases re2 with
   | error e=>exact ZS
   | ok uy=>
    cases uy with
    | ret res=>
     obtain⟨rfl,NV⟩:=ZS
     repeat (any_goals (first | assumption | wp_step))
    | _=>exact ZS.elim
  | _=>exact hres.elim
theorem yf {T newId:String} {self:AF} {a:AF} {rest:List AF} {kw:List (AG×AF)} (hll:typeLookup (.type T) "__init__"=pure (some (.builtin "object.__init__")))
 (hmd:Bind.madeBy (.type T)=pure (some newId)) (hdf:(some newId != some "object.__new__")=true):
 Meets (Ed.«object.__init__» ⟨self::a::rest,kw⟩) (fun _ R s=>s.TypeIs self T/\R (.ok (.ret .none)) s):=by
 refine Meets.of_wp fun prog w A R s hs=>?_
 obtain⟨hty,NV⟩:=hs
 repeat (any_goals (first | assumption | wp_step))
 exact⟨_,rfl,NV⟩
theorem AEh {T newId:String} {Bn:Ed} {a:AF} {args:List AF} {kw:List (AG×AF)} {S:Spec} {Q:AF->AI->Prop} (Gq:TypeCalled T newId "object.__init__")
 (hdf:(some newId != some "object.__new__")=true) (jx:checkTypeCall T ⟨a::args,kw⟩=pure ()) (ZC:checkBuiltinCall newId ⟨.type T::a::args,kw⟩=pure ())
 (hok:∀ob,argsOk "object.__init__" ⟨ob::a::args,kw⟩) (YT:entryFor table newId=some Bn) (gn:Meets (Bn ⟨.type T::a::args,kw⟩) S)
 (h:S A.in1 (wants (fun ob st1=>st1.TypeIs ob T/\Q ob st1) E) s):AU (AY prog w) A (call (.type T) (a::args) kw) Q E s:=
 AEg Gq jx ZC YT F.entry_object_init gn h fun ob _ NV=>
  ⟨NV.1,hok ob,_,yf Gq.init.lookup Gq.made hdf,NV.1,rfl,NV.2⟩
end
theorem zv (l:AA) (c:Int) (tc:E4) (hf:Builtin.SmallTypes.fitsIndex c=true) (items:Array AF) (n:Nat) (dct:Option AA) (sl:Array (Option AF)):
 Meets (Ed.«enumerate.__new__» ⟨[.type "enumerate",.ref l],[(Eh "start",.int c tc)]⟩) (fun _ R s=>s.heap.get? l=some { cls:=.type "list",dict:=dct,data:=.seq items n,slots:=sl }/\
  R (.ok (.ret (.ref (s.heap.push { cls:=.type "list_iterator",data:=.fields #[.ref l,.int 0 0] }).objs.size)))
   { s with heap:=(s.heap.push { cls:=.type "list_iterator",data:=.fields #[.ref l,.int 0 0] }).push { cls:=.type "enumerate",data:=.fields #[.none,.bool false,.ref s.heap.objs.size,rawInt c,.none,.none] } }):=
 .of_wp fun prog w A R s h=>by
  obtain⟨hpp,gn,dr,tkn,JJ⟩:=s;obtain⟨hll,h⟩:=h
  have hsb:=sub_enumerate
  have Qt:Heap.IsList (Shared.heap ⟨hpp,gn,dr,tkn,JJ⟩) l items:=⟨_,hll,rfl,n,rfl⟩
  wp_walk using wpAny_loadPart' hll
  refine wpAny_stack_any fun st=>Ai ?_
  split
  . rename_i ccl _ _ _ _ _
    cases (ccl==F4 "enumerate")
    . wp_walk using wpAny_loadPart' hll,OX Qt
      exact⟨_,rfl,h⟩
    . wp_walk using wpAny_loadPart' hll,OX Qt
      exact⟨_,rfl,h⟩
  . wp_walk using wpAny_loadPart' hll,OX Qt
    exact⟨_,rfl,h⟩
section
variable {prog:Av} {w:Am} {A:Bf} {E:AF->AI->Prop} {s:AI}
theorem AEf (a b:AF):checkTypeCall "enumerate" ⟨[a],[(Eh "start",b)]⟩=pure ():=by kernel_rfl
theorem AAH (a b:AF):checkBuiltinCall "enumerate.__new__" ⟨[.type "enumerate",a],[(Eh "start",b)]⟩=pure ():=by kernel_rfl
theorem qu (a b c:AF):argsOk "object.__init__" ⟨[a,b],[(Eh "start",c)]⟩:=by unfold argsOk;kernel_rfl
theorem si {l:AA} {items:Array AF} {c:Int} {tc:E4} {Q:AF->AI->Prop} (Qt:s.heap.IsList l items) (hf:Builtin.SmallTypes.fitsIndex c=true)
 (h:∀h',IZ h' (s.heap.objs.size+1) s.heap.objs.size c .none->h'.IsListIter s.heap.objs.size l 0->h'.objs.size=s.heap.objs.size+2->
  (∀b o,s.heap.get? b=some o->h'.get? b=some o)->Q (.ref (s.heap.objs.size+1)) { s with heap:=h' }):
 AU (AY prog w) A (call (.type "enumerate") [.ref l] [(Eh "start",.int c tc)]) Q E s:=by
 obtain⟨⟨cl,dct,dt,sl⟩,hll,CH,n,hda⟩:=Qt
 replace CH:cl= .type "list":=CH
 replace hda:dt= .seq items n:=hda
 subst CH hda
 refine AEh F.called_enumerate (by decide) (AEf _ _) (AAH _ _) (fun ob=>qu ob _ _) F.entry_enumerate_new
  (zv l c tc hf items n dct sl) ⟨hll,?_⟩
 have ZT:(s.heap.push { cls:=.type "list_iterator",data:=.fields #[.ref l,.int 0 0] }).objs.size=s.heap.objs.size+1:=FA ..
 show _/\_
 rw[ZT]
 have EV:IZ ((s.heap.push { cls:=.type "list_iterator",data:=.fields #[.ref l,.int 0 0] }).push
  { cls:=.type "enumerate",data:=.fields #[.none,.bool false,.ref s.heap.objs.size,rawInt c,.none,.none] }) (s.heap.objs.size+1) s.heap.objs.size c .none:=by
  have:=Ck (s.heap.push { cls:=.type "list_iterator",data:=.fields #[.ref l,.int 0 0] })
   (o:={ cls:=.type "enumerate",data:=.fields #[.none,.bool false,.ref s.heap.objs.size,rawInt c,.none,.none] }) rfl
  rw[ZT] at this;exact this
 refine⟨⟨_,EV,rfl⟩,h _ EV ⟨_,Bz _ (Ck _ rfl),rfl,rfl⟩ (by rw[FA,ZT]) fun b o x=>Bz _ (Bz _ x)⟩
end
open PySem PySem.Spec PyProof.Rows
section
variable {X:Cx}
def stepV (xs:List V) (lo hi:Option Int) (c:Int):List V:=(sliceRange (Ez lo hi (some c) xs.length).1 (Ez lo hi (some c) xs.length).2.1 c).filterMap (xs[·]?)
theorem Vals.pick {xs:List V} {us:List AF} (r:Vals xs us):∀l:List Nat,Vals (l.filterMap (xs[·]?)) (l.filterMap (us[·]?))
 | []=>.nil
 | i::l=>by
  cases e:xs[i]? with
  | none=>
   rw[d5 (f:=fun i=>xs[i]?) e,d5 (f:=fun i=>us[i]?) (Vals.none_of r e)]
   exact Vals.pick r l
  | some x=>
   obtain⟨u,hu,ru⟩:=Vals.get r e
   rw[Ma (f:=fun i=>xs[i]?) e,Ma (f:=fun i=>us[i]?) hu]
   exact .cons ru (Vals.pick r l)
def AEL (K:AW) (te:TE) (tl th:TO) (ts:TE):TE:=fun σ H Q=>te σ H fun x H1=>tl σ H1 fun l H2=>th σ H2 fun u H3=>ts σ H3 fun y H4=>
 ∃c a xs,y= .int c/\x= .ref a/\AQ K H4 a xs/\c≠0/\∀p,H4 p=none->Q (.ref p) (upd H4 p (.lst (stepV xs l u c)))
theorem aC {e st:Az} {te ts:TE} {lo hi:Option Az} {tl th:TO} {pos p2:Bt} (he:PE X e te) (hl:PO X lo tl) (hu:PO X hi th) (hs:PE X st ts):PE X (.Subscript e (.Slice lo hi (some st) p2) pos) (AEL X.K te tl th ts):=by
 intro pins s σ H Q I h
 refine Xo (Bh (he pins s σ H _ I h) fun v s1 x H1 I1 r1 q1=>?_)
 refine wpAny_Slice (Bh (hl pins s1 σ H1 _ I1 q1) fun vl s2 l H2 I2 pl q2=>Bh (hu pins s2 σ H2 _ I2 q2) fun vu s3 u H3 I3 pu q3=>?_)
 rw[evalPart_some]
 refine Bv (hs pins s3 σ H3 _ I3 q3) fun vs s4 ⟨y,H4,I4,r4,c,a,xs,ey,ex,hx,hc,q⟩=>?_
 subst ey ex
 obtain⟨t,rfl⟩:=r4
 obtain rfl:v=Cv a:=r1
 have I5:Inv X pins σ H4 { s4 with heap:=s4.heap.push { cls:=.type "slice",data:=.fields #[vl,vu,.int c t] } }:=I4.kept (t':=s4.toks) fun b ob q=>Bz _ q
 obtain⟨AB,r,ht,hz⟩:=I5.list hx
 have BV:=Vals.length r
 have ep:slicePick AB.toArray l u (some c)=((sliceRange (Ez l u (some c) xs.length).1 (Ez l u (some c) xs.length).2.1 c).filterMap (AB[·]?)).toArray:=by
  unfold slicePick
  rw[Cp,BV]
  have e1:(fun x:Nat=>AB.toArray[x]?)=fun x:Nat=>AB[x]? :=by funext x;simp
  rw[e1]
  rfl
 have hle:=slicePick_size_le AB.toArray l u (some c)
 rw[ep,Cp,Cp,<-BV] at hle
 have hv:=Vals.pick r (sliceRange (Ez l u (some c) xs.length).1 (Ez l u (some c) xs.length).2.1 c)
 have hvl:=Vals.length hv
 show AU (AY X.prog X.w) X.A (subscriptTail e (.Slice lo hi (some st) p2) (.ref a) (.ref s4.heap.objs.size)) (EP X pins σ Q) X.xe { s4 with heap:=s4.heap.push { cls:=.type "slice",data:=.fields #[vl,vu,.int c t] } }
 refine tail_any (ops:=[.ref a,.ref s4.heap.objs.size]) ht.isList.typeIs ox.lookup ?_ (by with_unfolding_all rfl)
 refine wpAny_getItem_list_slice ht.isList (Heap.IsSliceOf.new ..) pl pu (.int c t) (fun z=>hc (CL z)) ?_ (by rw[Cp] <;> lia)
 rw[ep]
 refine⟨.ref _,_,I5.laid (t':=s4.toks) (o:=.lst (stepV xs l u c)) (fun b ob q=>Bz _ q) (Aj _) ?_,rfl,q _ (I5.hok.fresh (Aj _))⟩
 exact⟨BP (by show (List.filterMap _ _).length<=xs.length;rw[hvl];exact hle) hz,_,0,hv,Ck _ rfl⟩
theorem pF (b n:Nat) (hb:b<=1):sliceRange (b:Int) ((2*n:Nat):Int) 2=if n=0 then [] else (Ca n).map fun k=>b+2*k:=by
 unfold sliceRange
 simp only[show (2:Int) > 0 by decide,if_true]
 by_cases h:n=0
 . subst h
   rw[if_pos rfl,if_neg (by lia)]
   rfl
 . rw[if_neg h,if_pos (by lia)]
   have e:((((2*n:Nat):Int) - (b:Int)+2 - 1) / 2).toNat=n:=by lia
   rw[e]
   refine JW fun k _=>?_
   lia
theorem pE {l:List Int} {n:Nat} (h:l.length=2*n):stepV (l.map V.int) (some 0) none 2=(Vm.pairsOf l).map fun p=>V.int p.1:=by
 have e1:stepV (l.map V.int) (some 0) none 2=(sliceRange ((0:Nat):Int) ((2*n:Nat):Int) 2).filterMap fun i=>(l.map V.int)[i]? :=by
  unfold stepV
  rw[AR,h]
  have z1:(Ez (some 0) none (some 2) (2*n)).1=((0:Nat):Int):=by simp[Ez] <;> lia
  have z2:(Ez (some 0) none (some 2) (2*n)).2.1=((2*n:Nat):Int):=by simp[Ez]
  rw[z1,z2]
 rw[e1,pF 0 n (by decide),<-Vm.jC V.int n l h]
 by_cases hn:n=0
 . subst hn;rfl
 . rw[if_neg hn,XG]
   congr 1
   funext k
   show (l.map V.int)[0+2*k]? =_
   rw[LR]
theorem ADr {l:List Int} {n:Nat} (h:l.length=2*n):stepV (l.map V.int) (some 1) none 2=(Vm.pairsOf l).map fun p=>V.int p.2:=by
 by_cases hn:n=0
 . subst hn
   have:l=[]:=Hb.mp h
   subst this
   rfl
 . have e1:stepV (l.map V.int) (some 1) none 2=(sliceRange ((1:Nat):Int) ((2*n:Nat):Int) 2).filterMap fun i=>(l.map V.int)[i]? :=by
    unfold stepV
    rw[AR,h]
    have z1:(Ez (some 1) none (some 2) (2*n)).1=((1:Nat):Int):=by simp[Ez] <;> lia
    have z2:(Ez (some 1) none (some 2) (2*n)).2.1=((2*n:Nat):Int):=by simp[Ez]
    rw[z1,z2]
   rw[e1,pF 1 n (by decide),<-Vm.mw V.int n l h,if_neg hn,XG]
   rfl
def ADx (r r' r'':R2) (ta tb tc td:TE):TE:=fun σ H Q=>ta σ H fun x H1=>tb σ H1 fun y H2=>r x y H2 fun z H3=>∃k,z= .bl k/\
 (if k=true then tc σ H3 fun u H4=>r' y u H4 fun z' H5=>∃k',z'= .bl k'/\(if k'=true then td σ H5 fun u' H6=>r'' u u' H6 Q else Q (.bl false) H5) else Q (.bl false) H3)
theorem ABr {a b c d:Az} {ta tb tc td:TE} {pos:Bt} {op op' Z6:JS} {r r' r'':R2} (ho:C7 X (D0 op) r) (ho':C7 X (D0 op') r') (ho'':C7 X (D0 Z6) r'') (ha:PE X a ta) (hb:PE X b tb) (hc:PE X c tc) (hd:PE X d td)
 (hm:lastMarks [op,op',Z6] [b,c,d]=false:=by with_unfolding_all rfl):PE X (.Compare a [op,op',Z6] [b,c,d] pos) (ADx r r' r'' ta tb tc td):=by
 intro pins s σ H Q I h
 refine Compare_chain (Bh (ha pins s σ H _ I h) fun v s1 x H1 I1 r1 q1=>hJ (Bh (hb pins s1 σ H1 _ I1 q1) fun u s2 y H2 I2 r2 q2=>
  Bv (ho pins s2 σ H2 x y v u _ I2 r1 r2 q2) fun d1 s3 ⟨z,H3,I3,r3,k,e,q3⟩=>?_)) hm
 subst e
 cases r3
 refine IP ?_
 cases k with
 | false=>exact ite_ff ⟨.bl false,H3,I3,rfl,q3⟩
 | true=>
  refine ite_tt (hJ (Bh (hc pins s3 σ H3 _ I3 q3) fun u2 s4 y2 H4 I4 r4 q4=>Bv (ho' pins s4 σ H4 y y2 u u2 _ I4 r2 r4 q4) fun d2 s5 ⟨z2,H5,I5,r5,k2,e2,q5⟩=>?_))
  subst e2
  cases r5
  refine IP ?_
  cases k2 with
  | false=>exact ite_ff ⟨.bl false,H5,I5,rfl,q5⟩
  | true=>exact ite_tt (chain_last (Bh (hd pins s5 σ H5 _ I5 q5) fun w' s6 z' H6 I6 r6 q6=>ho'' pins s6 σ H6 y2 z' u2 w' Q I6 r4 r6 q6))
def du (K:AW) (H:Hp) (a:AA) (n:Nat):Prop:=∃ys:List V,AQ K H a ys/\ys.length=n
theorem nH {α β:Type} {R:α->β->Prop}:∀{l:List α} {m:List β} {i:Nat} {x:α},Ar R l m->l[i]? =some x->∃y,m[i]? =some y/\R x y
 | _,_,_,_,.nil,e=>by simp at e
 | _,_,0,_,.cons r _,e=>by simp at e;subst e;exact⟨_,rfl,r⟩
 | _,_,i+1,x,.cons _ t,e=>by
  obtain⟨y,h1,h2⟩:=nH (i:=i) (x:=x) t (by simpa using e)
  exact⟨y,by simpa using h1,h2⟩
def Uv (len:Nat->Nat) (n:Nat):Nat:=argBest (EY len) n
def AEB (K:AW) (tl:TA):TE:=fun σ H Q=>tl σ H fun vs H1=>∃(l:AA) (as:List AA) (ns:List Nat),vs=[.ref l]/\AQ K H1 l (as.map V.ref)/\Ar (du K H1) as ns/\0 < as.length/\
 ∀a,as[Uv (fun i=>ns.getD i 0) (as.length - 1)]? =some a->Q (.ref a) H1
theorem ABv {e:Az} {tl:TA} {p p2 kpos pos:Bt} (hcalm:X.calm=true) (hg:Gl X "min") (hm:X.mg "min"=none) (j4:Gl X "len") (hml:X.mg "len"=none) (ha:PA X [e] tl)
 (he:Bo [e] X.env=[(false,eval e X.env)]:=by rfl):PE X (.Call (.Name "min" p) [e] [⟨some "key",.Name "len" p2,kpos⟩] pos) (AEB X.K tl):=by
 intro pins s σ H Q I h
 refine K5 (JF I hg hm PyProof.Rows.boot_min ?_)
 have hkw:(backToKw pos (Gs [⟨some "key",.Name "len" p2,kpos⟩] X.env)).filterMap (·.1)=[Eh "key"]:=rfl
 refine PyProof.Rows.callWith_kw (Bh (ha pos pins s σ H _ I h) fun us s1 vs H1 I1 r1 q1=>e8 (JF I1 j4 hml F3 (e9 ?_))) ?_ ?_
 . obtain⟨l,as,ns,rfl,hs,hP,BX,q⟩:=q1
   rw[Vals.MC r1,hkw]
   obtain⟨AB,rv,Cr,hz⟩:=I1.list hs
   have BV:=Vals.length rv
   rw[AR] at BV
   have get:∀(i:Nat) (v:AF),AB.toArray[i]? =some v->∃a,as[i]? =some a/\v=Cv a:=fun i v hv=>by
    have hv':AB[i]? =some v:=by simpa using hv
    have hi:i < as.length:=by rw[BV];exact (Fo.mp hv').1
    have hx:(as.map V.ref)[i]? =some (V.ref as[i]):=by rw[CM,DU hi];rfl
    obtain⟨u,hu,ru⟩:=Vals.get rv hx
    rw[hv'] at hu
    have eu:v=u:=CL hu
    subst eu
    exact⟨as[i],DU hi,ru⟩
   refine sq (len:=fun i=>ns.getD i 0) (I1.ok.hd hcalm) Cr.isList (by rw[Cp,<-BV];exact BX) (fun i v hv=>?_) fun v h' tk hv hk=>?_
   . obtain⟨a,ha,rfl⟩:=get i v hv
     obtain⟨n,hn,ys,hys,hyl⟩:=nH hP ha
     obtain⟨DT,Ny,x8,hz2⟩:=I1.list hys
     have Cw:=Vals.length Ny
     refine⟨a,DT.toArray,rfl,x8.isList,?_,?_⟩
     . rw[Cp,<-Cw,hyl]
       show n=ns.getD i 0
       rw[Gg,hn]
       rfl
     . rw[Cp,<-Cw]
       have:=UZ
       lia
   . obtain⟨a,ha,rfl⟩:=get _ v hv
     refine⟨.ref a,H1,I1.kept (t':=tk) hk,rfl,q a ?_⟩
     have e1:AB.toArray.size - 1=as.length - 1:=by rw[Cp,BV]
     rw[e1] at ha
     exact ha
 . rw[he];rfl
 . rw[he];rfl
theorem lQ {K:AW} {a b:AA} {xs ys:List V} {n:Nat} {g:TG} {tt:TT} {te:TE} {vs:List Nat} {σ:St} {H1:Hp} {D:AA} {Qd:Hp->Prop} (hn:n=min xs.length ys.length) (Pv:Nat->Hp->Prop) (h0:Pv 0 (upd H1 D (.lst []))) (hl:∀i H,i<=n->Pv i H->AQ K H a xs/\AQ K H b ys)
 (hs:∀i x y T H,xs[i]? =some x->ys[i]? =some y->Pv i H->H T=none->g (.ref T) (wipe σ vs) (upd H T (.tup [x,y])) fun σ2 H2=>wipe σ2 vs=wipe σ vs/\tt σ2 H2 fun b H3=>
  if b=true then te σ2 H3 fun y H4=>∃acc,H4 D=some (.lst acc)/\acc.length < AZ/\Pv (i+1) (upd H4 D (.lst (acc++[y]))) else Pv (i+1) H3) (hd:∀H,Pv n H->Qd H):
 ∃W:Nat->Nat->Hp->Prop,(∃m,W 0 m (upd H1 D (.lst [])))/\∀i m H,W i m H->
  ((Oj K a b).stop i H/\Qd H)\/((Oj K a b).go i H/\∃Nx:Hp->Prop,(∀H',Nx H'->∃m',m' < m/\W (i+1) m' H')/\∀x H',(Oj K a b).HW i H x H'->g x (wipe σ vs) H' fun σ2 H2=>wipe σ2 vs=wipe σ vs/\tt σ2 H2 fun b H3=>
    if b=true then te σ2 H3 fun y H4=>∃acc,H4 D=some (.lst acc)/\acc.length < AZ/\Nx (upd H4 D (.lst (acc++[y]))) else Nx H3):=by
 refine⟨fun i m H=>m=n - i/\i<=n/\Pv i H,⟨n,by simp,Ci _,h0⟩,?_⟩
 rintro i m H ⟨rfl,hi,p⟩
 obtain⟨q1,q2⟩:=hl i H hi p
 by_cases A1:i < n
 . have hlt1:i < xs.length:=by lia
   have hlt2:i < ys.length:=by lia
   refine .inr ⟨⟨xs,ys,xs[i],ys[i],q1,q2,DU hlt1,DU hlt2⟩,Pv (i+1),fun H' p'=>⟨n - (i+1),by lia,rfl,A1,p'⟩,fun x H' y=>?_⟩
   obtain⟨T,u,v,e1,e2,e3,y1,y2⟩:=y
   subst e1 e3
   exact hs i u v T H (y1 xs q1) (y2 ys q2) p e2
 . have e:i=n:=by lia
   subst e
   exact .inl ⟨⟨xs,ys,q1,q2,by lia⟩,hd H p⟩
theorem zK {lo c:Int} {n:Nat} {g:TG} {tt:TT} {te:TE} {vs:List Nat} {σ:St} {H1:Hp} {D:AA} {Qd:Hp->Prop} (Pv:Nat->Hp->Prop) (h0:Pv 0 (upd H1 D (.lst [])))
 (hs:∀i H,i < n->Pv i H->g (.int (lo+(i:Nat)*c)) (wipe σ vs) H fun σ2 H2=>wipe σ2 vs=wipe σ vs/\tt σ2 H2 fun b H3=>
  if b=true then te σ2 H3 fun y H4=>∃acc,H4 D=some (.lst acc)/\acc.length < AZ/\Pv (i+1) (upd H4 D (.lst (acc++[y]))) else Pv (i+1) H3) (hd:∀H,Pv n H->Qd H):
 ∃W:Nat->Nat->Hp->Prop,(∃m,W 0 m (upd H1 D (.lst [])))/\∀i m H,W i m H->
  ((J9 lo c n).stop i H/\Qd H)\/((J9 lo c n).go i H/\∃Nx:Hp->Prop,(∀H',Nx H'->∃m',m' < m/\W (i+1) m' H')/\∀x H',(J9 lo c n).HW i H x H'->g x (wipe σ vs) H' fun σ2 H2=>wipe σ2 vs=wipe σ vs/\tt σ2 H2 fun b H3=>
    if b=true then te σ2 H3 fun y H4=>∃acc,H4 D=some (.lst acc)/\acc.length < AZ/\Nx (upd H4 D (.lst (acc++[y]))) else Nx H3):=by
 refine⟨fun i m H=>m=n - i/\i<=n/\Pv i H,⟨n,by simp,Ci _,h0⟩,?_⟩
 rintro i m H ⟨rfl,hi,p⟩
 by_cases A1:i < n
 . refine .inr ⟨A1,Pv (i+1),fun H' p'=>⟨n - (i+1),by lia,rfl,A1,p'⟩,fun x H' y=>?_⟩
   obtain⟨e,y⟩:=y
   subst e y
   exact hs i _ A1 p
 . have e:i=n:=by lia
   subst e
   exact .inl ⟨Aj _,hd H p⟩
def Og (K:AW) (a:AA) (c:Int):It:=
 ⟨fun i H=>∃(xs:List V) (x:V),AQ K H a xs/\xs[i]? =some x,fun i H v H'=>∃T x,v= .ref T/\H T=none/\H'=upd H T (.tup [.int (c+(i:Nat)),x])/\∀xs,AQ K H a xs->xs[i]? =some x,fun i H=>∃xs:List V,AQ K H a xs/\xs.length<=i⟩
theorem AEV {P:Av} {w:Am} {K:AW} {elts:List Az} {kk:Nat} {tpos:Bt} (a e it:AA) (c:Int):
 Turn P w K (.Tuple elts kk tpos) (Og K a c) [e,it] e (fun i h=>(∃old,IZ h e it (c+(i:Nat)) old)/\h.IsListIter it a i/\e≠it) where
 mem:=by simp
 obj:=fun i h st b hb=>by
  obtain⟨⟨old,he⟩,⟨o,ho,hc,hd⟩,_⟩:=st
  have e':b=e\/b=it:=by simpa using hb
  rcases e' with z | z
  . rw[z];exact⟨_,he,fun v q=>nomatch q⟩
  . rw[z];exact⟨o,ho,fun v q=>by rw[hd] at q;cases q⟩
 keep:=fun i h h' st k=>let ⟨⟨old,he⟩,hi,BX⟩:=st;⟨⟨old,k e (by simp) _ he⟩,hi.at fun o q=>k it (by simp) o q,BX⟩
 item:=by
  intro X hP hw hK hc i pins s σ H E I hf st hg
  subst hP hw hK
  obtain⟨⟨old,he⟩,CJ,BX⟩:=st
  obtain⟨xs,x,hq,hx⟩:=hg
  obtain⟨AB,rv,p,hz⟩:=I.list hq
  obtain⟨u,hu,ru⟩:=rv.get hx
  have hel:e < s.heap.objs.size:=Bs he
  have hil:it < s.heap.objs.size:=by obtain⟨_,q,_⟩:=CJ;exact Bs q
  refine AAL he CJ p.isList (x:=u) (by simpa using hu) BX fun h' ho hit' hT hsz hk=>?_
  refine⟨_,rfl,wpAny_letOwnedTupleGo_enum (s:={ s with heap:=h',toks:=s.toks+1 }) ho fun h'' he' sb=>?_⟩
  have hT2:h''.get? s.heap.objs.size=some { cls:=.type "tuple",data:=.seq #[.int (c+(i:Nat)) s.toks,u] }:=(sb.2 _ (Mi hel)).trans hT
  have new:DB X.prog X.w (upd H s.heap.objs.size (.tup [.int (c+(i:Nat)),x])) h'' s.heap.objs.size (.tup [.int (c+(i:Nat)),x]):=
   ⟨by show 2<=AZ;decide,[.int (c+(i:Nat)) s.toks,u],.cons ⟨_,rfl⟩ (.cons ru .nil),⟨_,hT2,rfl,_,rfl⟩⟩
  have I1:Inv X pins σ (upd H s.heap.objs.size (.tup [.int (c+(i:Nat)),x])) { s with heap:=h'',toks:=s.toks+1 }:=
   I.pZ (ch:=[e,it]) (fun b ob hb q=>(sb.2 b (fun z=>hb (by simp[z]))).trans (hk b ob (fun z=>hb (by simp[z])) (fun z=>hb (by simp[z])) q)) hf (Aj _) new
  refine⟨.ref s.heap.objs.size,_,I1,rfl,⟨_,x,rfl,I.hok.fresh (Aj _),rfl,fun ys hy=>by rw[I.Ub hy hq];exact hx⟩,⟨⟨u,?_⟩,hit'.at fun o q=>(sb.2 it (Ne.symm BX)).trans q,BX⟩,fun b hb=>?_⟩
  . have e1:c+((i+1:Nat):Int)=c+(i:Int)+1:=by lia
    rw[e1];exact he'
  . have hb':b < s.heap.objs.size:=by
     have e':b=e\/b=it:=by simpa using hb
     rcases e' with z | z
     . rw[z];exact hel
     . rw[z];exact hil
    rw[AV (C4 hb')]
    exact (hf b hb).1
 done:=by
  intro X hP hw hK hc i pins s σ H E I hf st hg
  subst hP hw hK
  obtain⟨⟨old,he⟩,CJ,BX⟩:=st
  obtain⟨xs,hq,hx⟩:=hg
  obtain⟨AB,rv,p,hz⟩:=I.list hq
  obtain⟨f0,f1,f2,f3,f4,f5⟩:=hf it (by simp)
  have hl:=rv.length
  exact AAK (I.ok.hd hc) he CJ p.isList (by simp;lia) fun h' eb=>⟨rfl,I.turned (t':=s.toks) (fun b o hb q=>eb b o hb q) f0 f1 f3 f4 f5⟩
 self:=fun A i s Q E st h=>let ⟨⟨_,he⟩,_⟩:=st;wpAny_pyIter_enum he h
end
section
variable {M:Model} {A:Bf} {E:AF->AI->Prop} {s:AI} {env:Dh}
theorem sf {pos:Bt} {T:String} {e:Az} {rest:List Az} {kws:List Keyword} {Q:AF->AI->Prop}
 (h:AU M A (spliced (backTo pos (Bo (e::rest) env))) (fun vs s1=>AU M A (evalAll ((backToKw pos (Gs kws env)).map (·.2)))
  (fun kvs s2=>AU M A (call (.type T) vs (((backToKw pos (Gs kws env)).filterMap (·.1)).zip kvs)) Q E s2) E s1) E s)
 (he:backTo pos (Bo (e::rest) env)=(false,eval e env)::backTo pos (Bo rest env):=by rfl)
 (hplain:(backTo pos (Bo (e::rest) env)).any (·.1)=false:=by rfl)
 (Cm:(backToKw pos (Gs kws env)).all (·.1.isSome)=true:=by rfl)
 (hkw:(backToKw pos (Gs kws env)).any (·.1.isNone)=false:=by rfl):
 AU M A (callWith pos (.type T) [] (backTo pos (Bo (e::rest) env)) (backToKw pos (Gs kws env))) Q E s:=by
 unfold callWith
 refine AJ (HV (FR (Q:=fun a s1=>AU M A (call (.type T) ([]++a.pos) a.kw) Q E s1) ?_ (fun a s1 h1=>AJ (qK ?_)) fun _ _ x=>x))
 . rw[he] at h ⊢
   exact PyProof.Rows.evalArgs_kwB Cm h
 . simp only[hplain,hkw,dR]
   refine AJ (Ai ?_)
   exact AJ (FR h1 (fun r s2 hr=>AJ (HV (wpAny_point (Ai hr)))) fun _ _ x=>x)
end
section
variable {X:Cx}
def yT (K:AW) (ta:TA) (ts:TE):TI:=fun σ H R=>ta σ H fun vs H1=>ts σ H1 fun y H2=>∃a xs c,vs=[.ref a]/\y= .int c/\ -(2 ^ 62)<=c/\c < 2 ^ 62/\AQ K H2 a xs/\R (Og K a c) H2
theorem ABy {e es:Az} {ta:TA} {ts:TE} {p pos tpos kpos:Bt} {elts:List Az} {kk:Nat} (hg:Gl X "enumerate") (hm:X.mg "enumerate"=none) (ha:PA X [e] ta) (hs:PE X es ts) (he:Bo [e] X.env=[(false,eval e X.env)]:=by rfl):
 PI X (.Tuple elts kk tpos) (.Call (.Name "enumerate" p) [e] [⟨some "start",es,kpos⟩] pos) (yT X.K ta ts):=by
 intro pins s σ H R I h
 have hkw:(backToKw pos (Gs [⟨some "start",es,kpos⟩] X.env)).filterMap (·.1)=[Eh "start"]:=rfl
 refine K5 (JF I hg hm boot_enumerate (sf (Bh (ha pos pins s σ H _ I h) fun us s1 vs H1 I1 r1 q1=>e8 (Bh (hs pins s1 σ H1 _ I1 q1) fun u s2 y H2 I2 r2 q2=>e9 ?_)) ?_ ?_))
 . obtain⟨a,xs,c,ex,ey,c1,c2,hq,q⟩:=q2
   subst ex ey
   obtain⟨t,rfl⟩:=r2
   rw[Vals.MC r1,hkw]
   obtain⟨AB,rv,p',hz⟩:=I2.list hq
   have hfit:Builtin.SmallTypes.fitsIndex c=true:=by
    unfold Builtin.SmallTypes.fitsIndex
    rw[CB,decide_eq_true_eq,decide_eq_true_eq]
    lia
   refine si p'.isList hfit fun h' he CJ hsz hk=>wpAny_pyIter_enum he ?_
   have I3:Inv X pins σ H2 { s2 with heap:=h' }:=I2.kept (t':=s2.toks) hk
   refine⟨s2.heap.objs.size+1,[s2.heap.objs.size+1,s2.heap.objs.size],_,_,H2,rfl,I3,AEV a (s2.heap.objs.size+1) s2.heap.objs.size c,⟨⟨.none,?_⟩,CJ,Nat.succ_ne_self _⟩,fun b hb=>?_,q⟩
   . have e0:c+((0:Nat):Int)=c:=by lia
     rw[e0]
     exact he
   . have e':b=s2.heap.objs.size+1\/b=s2.heap.objs.size:=by simpa using hb
     have hle:s2.heap.objs.size<=b:=by
      rcases e' with z | z
      . rw[z];exact KP _ _
      . rw[z];exact Aj _
     exact I2.Iu hle (I2.hok.fresh hle)
 . rw[he];rfl
 . rw[he];rfl
end
theorem vF {K:AW} {a:AA} {c:Int} {xs:List V} {g:TG} {tb:TS} {D:Ends} {σ:St} {H:Hp} (Pv:Nat->St->Hp->Prop) (h0:Pv 0 σ H) (hl:∀i σ H,i<=xs.length->Pv i σ H->AQ K H a xs)
 (hs:∀i x T σ H,xs[i]? =some x->Pv i σ H->H T=none->g (.ref T) σ (upd H T (.tup [.int (c+(i:Nat)),x])) fun σ2 H2=>tb { D with nx:=Pv (i+1),ct:=Pv (i+1),bk:=D.nx } σ2 H2) (hd:∀σ H,Pv xs.length σ H->D.nx σ H):
 ∃W:Nat->Nat->St->Hp->Prop,(∃m,W 0 m σ H)/\∀i m σ H,W i m σ H->
  ((Og K a c).stop i H/\D.nx σ H)\/((Og K a c).go i H/\∃N:St->Hp->Prop,(∀σ' H',N σ' H'->∃m',m' < m/\W (i+1) m' σ' H')/\∀x H',(Og K a c).HW i H x H'->g x σ H' fun σ2 H2=>tb { D with nx:=N,ct:=N,bk:=D.nx } σ2 H2):=by
 refine⟨fun i m σ H=>m=xs.length - i/\i<=xs.length/\Pv i σ H,⟨xs.length,by simp,Ci _,h0⟩,?_⟩
 rintro i m σ H ⟨rfl,hi,p⟩
 have q1:=hl i σ H hi p
 by_cases A1:i < xs.length
 . refine .inr ⟨⟨xs,xs[i],q1,DU A1⟩,Pv (i+1),fun σ' H' p'=>⟨xs.length - (i+1),by lia,rfl,A1,p'⟩,fun x H' y=>?_⟩
   obtain⟨T,u,e1,e2,e3,y1⟩:=y
   subst e1 e3
   exact hs i u T σ H (y1 xs q1) p e2
 . have e:i=xs.length:=by lia
   subst e
   exact .inl ⟨⟨xs,q1,Aj _⟩,hd σ H p⟩
end L2
namespace My
open PySem PySem.Spec PyProof.Rows L2
def top (i:Nat):Au:=PySem.Challenge.pw_knownwhendesk_s01_answers.main.body.getD i (.Pass ⟨0,0,0,0⟩)
abbrev Ent:=Vbedak.Entry
def nI (n:Nat):V:=.int (n:Int)
def HF (e:Ent):List (AG×V):=[("clock",nI e.clock),("source",nI e.src),("key",nI e.key),("from_minute",nI e.a),("up_to",nI e.b),("value",nI e.val)]
theorem M6 (e:Ent):(HF e).lookup ("clock":AG)=some (nI e.clock):=rfl
theorem YV (e:Ent):(HF e).lookup ("source":AG)=some (nI e.src):=rfl
theorem Tj (e:Ent):(HF e).lookup ("key":AG)=some (nI e.key):=rfl
theorem Ti (e:Ent):(HF e).lookup ("from_minute":AG)=some (nI e.a):=rfl
theorem Tn (e:Ent):(HF e).lookup ("up_to":AG)=some (nI e.b):=rfl
theorem YW (e:Ent):(HF e).lookup ("value":AG)=some (nI e.val):=rfl
def CY (C:AA) (H:Hp) (a:AA) (e:Ent):Prop:=∃dx,H a=some (.ins C dx (HF e))
theorem CY.same {C:AA} {H H':Hp} {a:AA} {e:Ent} (h:CY C H a e) (s:Same H H'):CY C H' a e:=let ⟨dx,q⟩:=h;⟨dx,s _ _ q⟩
structure FY (K:AW) (C:AA):Prop where
 cl:FU K C
 n1:DH K C "clock"
 n2:DH K C "source"
 n3:DH K C "key"
 n4:DH K C "from_minute"
 n5:DH K C "up_to"
 n6:DH K C "value"
theorem Ao {H:Hp} {p:AA} {o:HO} (h:H p=none):Same H (upd H p o):=fun b u e=>by rw[AV (BF e h)];exact e
section
variable {P:Av} {w:Am} {K:AW} {mg:AG->Option AF} {base:Ae} {C:AA}
abbrev Rf:Au:=inClass (top 1) 0
abbrev MF:Au:=top 2
abbrev Rn:Au:=top 3
abbrev VZ:Au:=top 4
abbrev Vp:Au:=top 5
abbrev Vn:Au:=top 7
def cH (C:AA):Sp:=fun vs H Q _=>∃(p dx:AA) (e:Ent),vs=[.ref p,nI e.clock,nI e.src,nI e.key,nI e.a,nI e.b,nI e.val]/\H p=some (.ins C dx [])/\Q .non (upd H p (.ins C dx (HF e)))
theorem AC1:BD ["self","clock","source","key","from_minute","up_to","value"] ["self","clock","source","key","from_minute","up_to","value"] (As Rf):={}
theorem mx {f:AA} {fd:A2} (F:A0 K "__init__" "Entry.__init__" Rf f fd) (T:FY K C):Aa P w K mg base Ag 1 f fd ["self","clock","source","key","from_minute","up_to","value"] (cH C):=by
 refine F.ok AC1 (fun vs H Q E h=>?_) (fun Al A outer s H vs Q E hr h=>?_)
 . obtain⟨p,dx,e,rfl,_⟩:=h
   rfl
 . obtain⟨p,dx,e,rfl,hp,k⟩:=h
   refine⟨_,AX (EC (pv 0) (pv 1) rfl) (AX (EC (pv 0) (pv 2) rfl) (AX (EC (pv 0) (pv 3) rfl) (AX (EC (pv 0) (pv 4) rfl) (AX (EC (pv 0) (pv 5) rfl) (Ac (EC (pv 0) (pv 6) rfl)))))),?_⟩
   refine⟨_,rfl,_,rfl,p,C,dx,[],rfl,hp,T.cl,T.n1,(by show 0 < 1000;decide),?_⟩
   refine⟨_,rfl,_,rfl,p,C,dx,_,rfl,AO,T.cl,T.n2,(by show 1 < 1000;decide),?_⟩
   refine⟨_,rfl,_,rfl,p,C,dx,_,rfl,AO,T.cl,T.n3,(by show 2 < 1000;decide),?_⟩
   refine⟨_,rfl,_,rfl,p,C,dx,_,rfl,AO,T.cl,T.n4,(by show 3 < 1000;decide),?_⟩
   refine⟨_,rfl,_,rfl,p,C,dx,_,rfl,AO,T.cl,T.n5,(by show 4 < 1000;decide),?_⟩
   refine⟨_,rfl,_,rfl,p,C,dx,_,rfl,AO,T.cl,T.n6,(by show 5 < 1000;decide),?_⟩
   rw[FQ,FQ,FQ,FQ,FQ]
   exact k
def stI (e:Ent):List Int:=[(e.clock:Int),(e.src:Int)]
def J1 (C:AA):Sp:=fun vs H Q _=>∃(p:AA) (e:Ent),vs=[.ref p]/\CY C H p e/\∀q,H q=none->Q (.ref q) (upd H q (.tup ((stI e).map V.int)))
theorem ADB:BD ["entry"] ["entry"] (As MF):={}
theorem Ul {f:AA} {fd:A2} (F:A0 K "stamp_of" "stamp_of" MF f fd) (T:FY K C):Aa P w K mg base Ag 1 f fd ["entry"] (J1 C):=by
 refine F.ok ADB (fun vs H Q E h=>?_) (fun Al A outer s H vs Q E hr h=>?_)
 . obtain⟨p,e,rfl,_⟩:=h
   rfl
 . obtain⟨p,e,rfl,⟨dx,he⟩,k⟩:=h
   refine⟨_,Ac (A4 (Ex (AH (Ay (pv 0) rfl) (AH (Ay (pv 0) rfl) AK)))),?_⟩
   refine⟨_,rfl,p,C,dx,_,_,rfl,he,T.cl,T.n1,M6 e,_,rfl,p,C,dx,_,_,rfl,he,T.cl,T.n2,YV e,(by show 2<=AZ;decide),fun t ht=>?_⟩
   exact k t ht
def cf (C:AA):Sp:=fun vs H Q _=>∃(p:AA) (e:Ent) (k m:Nat),vs=[.ref p,nI k,nI m]/\CY C H p e/\Q (.bl (fj e k m)) H
theorem ADE:BD ["entry","key","minute"] ["entry","key","minute"] (As Rn):={}
theorem Hz (a b:Nat):decide (nI a=nI b)=(a==b):=by
 unfold nI
 rw[GF,Gz]
 simp
 lia
theorem iS (a b:Nat):decide ((a:Int)<=(b:Int))=decide (a<=b):=by simp
theorem dec_lt (a b:Nat):decide ((a:Int) < (b:Int))=decide (a < b):=by simp
theorem my {f:AA} {fd:A2} (F:A0 K "tells_of" "tells_of" Rn f fd) (T:FY K C):Aa P w K mg base Ag 1 f fd ["entry","key","minute"] (cf C):=by
 refine F.ok ADE (fun vs H Q E h=>?_) (fun Al A outer s H vs Q E hr h=>?_)
 . obtain⟨p,e,k,m,rfl,_⟩:=h
   rfl
 . obtain⟨p,e,k,m,rfl,⟨dx,he⟩,q⟩:=h
   refine⟨_,Ac (A4 (Us (IG Fh (Ay (pv 0) rfl) (pv 1) (Cy _)) (Nr (nP Jt L7 (Ay (pv 0) rfl) (pv 2) (Ay (pv 0) rfl))))),?_⟩
   refine⟨_,rfl,p,C,dx,_,_,rfl,he,T.cl,T.n3,Tj e,_,rfl,rfl,_,rfl,?_⟩
   unfold fj at q
   rw[Hz]
   cases h1:(e.key==k) with
   | false=>
    rw[h1] at q
    exact BJ q
   | true=>
    rw[h1] at q
    refine A9 ⟨_,rfl,p,C,dx,_,_,rfl,he,T.cl,T.n4,Ti e,_,rfl,_,_,rfl,rfl,_,rfl,?_⟩
    rw[iS]
    cases h2:decide (e.a<=m) with
    | false=>
     rw[h2] at q
     exact BJ q
    | true=>
     rw[h2] at q
     refine A9 ⟨_,rfl,p,C,dx,_,_,rfl,he,T.cl,T.n5,Tn e,_,_,rfl,rfl,?_⟩
     show Q (.bl (decide ((m:Int) < (e.b:Int)))) H
     rw[dec_lt]
     exact q
structure G5 (K:AW) (C:AA) (H:Hp) (l:AA) (as:List AA) (es:List Ent):Prop where
 lst:AQ K H l (as.map V.ref)
 ent:Ar (CY C H) as es
theorem G5.same {H H':Hp} {l:AA} {as:List AA} {es:List Ent} (h:G5 K C H l as es) (s:Same H H'):G5 K C H' l as es:=⟨s.seq h.lst,Paired.Be h.ent fun a e q=>q.same s⟩
def Found (as:List AA) (es:List Ent) (o:Option Ent) (v:V):Prop:=match o with
 | none=>v= .non
 | some e=>∃(i:Nat) (a:AA),as[i]? =some a/\es[i]? =some e/\v= .ref a
def Kz (K:AW) (C:AA):Sp:=fun vs H Q _=>∃(l:AA) (as:List AA) (es:List Ent) (k m:Nat),vs=[.ref l,nI k,nI m]/\G5 K C H l as es/\
 ∀(v:V) (H':Hp),Same H H'->Found as es (F7 es k m) v->Q v H'
theorem Vz:BD ["entries","key","minute","found","entry"] ["entries","key","minute"] (As VZ):={}
theorem Paired.DJ {α β:Type} {R:α->β->Prop}:∀{l:List α} {m:List β} {i:Nat} {x:α},Ar R l m->l[i]? =some x->∃y,m[i]? =some y/\R x y
 | _,_,_,_,.nil,e=>by simp at e
 | _,_,0,_,.cons r _,e=>by simp at e;subst e;exact⟨_,rfl,r⟩
 | _,_,i+1,x,.cons _ t,e=>by
  obtain⟨y,h1,h2⟩:=Paired.DJ (i:=i) (x:=x) t (by simpa using e)
  exact⟨y,by simpa using h1,h2⟩
theorem EA {as:List AA} {i:Nat} {x:V} (h:(as.map V.ref)[i]? =some x):∃a,as[i]? =some a/\x= .ref a:=by
 rw[CM] at h
 cases e:as[i]? with
 | none=>
  rw[e] at h
  cases h
 | some a=>
  rw[e] at h
  exact⟨a,rfl,(CL h).symm⟩
theorem C6 {α:Type} {l:List α} {i:Nat} {x:α} (h:l[i]? =some x):l.take (i+1)=l.take i++[x]:=by
 rw[XU,h]
 rfl
theorem lV (x y:Ent):HT.lexLt (stI x) (stI y)=S4 x y:=by
 unfold stI S4
 rw[HT.UY,HT.UY,HT.lU]
 rw[Gz]
 by_cases h:x.clock=y.clock
 . have h':(x.clock:Int)=(y.clock:Int):=by lia
   rw[if_pos h']
   by_cases h2:x.src=y.src
   . have h2':(x.src:Int)=(y.src:Int):=by lia
     rw[if_pos h2']
     simp[h,h2]
   . have h2':¬(x.src:Int)=(y.src:Int):=by lia
     rw[if_neg h2']
     simp[h]
 . have h':¬(x.clock:Int)=(y.clock:Int):=by lia
   rw[if_neg h']
   simp[h]
theorem ABF {f fs ft:AA} {fd fds Qc:A2} (F:A0 K "latest" "latest" VZ f fd) (T:FY K C)
 (Fs:A0 K "stamp_of" "stamp_of" MF fs fds) (bs:Binds K fds ["entry"] []) (ms:mg "stamp_of"=some (.ref fs))
 (Ft:A0 K "tells_of" "tells_of" Rn ft Qc) (bt:Binds K Qc ["entry","key","minute"] []) (mt:mg "tells_of"=some (.ref ft)):Aa P w K mg base Ag 2 f fd ["entries","key","minute"] (Kz K C):=by
 have GS:Aa P w K mg base Ag 1 fs fds ["entry"] (J1 C):=Ul Fs T
 have GT:Aa P w K mg base Ag 1 ft Qc ["entry","key","minute"] (cf C):=my Ft T
 refine F.ok Vz (fun vs H Q E h=>?_) (fun Al A outer s H vs Q E hr h=>?_)
 . obtain⟨l,as,es,k,m,rfl,_⟩:=h
   rfl
 . obtain⟨l,as,es,k,m,rfl,hE,q⟩:=h
   refine⟨_,AX (A5 (i:=3) Vz.nd rfl (Ad rfl) nT)
    (AX (El PassesOwn.never rfl (Dl (pv 0)) (CW (i:=4) Vz.nd rfl (Ad rfl))
     (Ac (C9 (Gw (FN GT hr rfl mt Ft.kp bt .nil CV (AH (pv 4) (AH (pv 1) (AH (pv 2) AK)))))
      (Ac (C9 (PW.pt (RV (Ku (Ur (pv 3))) (Uy (DY (ABj hr.AEi) (FN GS hr rfl ms Fs.kp bs .nil CV (AH (pv 4) AK)) (FN GS hr rfl ms Fs.kp bs .nil CV (AH (pv 3) AK)) (Cy _)))))
       (Ac (A5 (i:=3) Vz.nd rfl (Ad rfl) (pv 4))) DG)) DG)))
    (Ac (A4 (pv 3)))),?_⟩
   refine⟨_,rfl,l,rfl,⟨_,hE.lst⟩,Ir (K:=K) (a:=l) (xs:=as.map V.ref) (fun i σ H'=>∃(v:V) (z:Option V),σ=[some (.ref l),some (nI k),some (nI m),some v,z]/\Same H H'/\Found as es (F7 (es.take i) k m) v)
    ⟨.non,none,rfl,Same.refl H,rfl⟩ (fun i σ H' _ ⟨_,_,_,s1,_⟩=>s1.seq hE.lst) ?_ ?_⟩
   . rintro i y σ H' hi ⟨v,z,rfl,s1,hF⟩
     obtain⟨a,ha,rfl⟩:=EA hi
     obtain⟨e,he,FH⟩:=Paired.DJ hE.ent ha
     have UB:=FH.same s1
     have DS:=C6 he
     refine⟨_,rfl,_,rfl,_,rfl,a,e,k,m,rfl,UB,_,rfl,?_⟩
     cases hc:fj e k m with
     | false=>
      refine BJ ⟨v,some (.ref a),rfl,s1,?_⟩
      rw[DS,Vm.pW,if_neg (by rw[hc];exact Bw)]
      exact hF
     | true=>
      refine A9 ?_
      have IB:F7 (es.take (i+1)) k m=Vm.keep (F7 (es.take i) k m) e:=by rw[DS,Vm.pW,if_pos hc]
      refine⟨_,rfl,_,rfl,?_⟩
      cases ht:F7 (es.take i) k m with
      | none=>
       rw[ht] at hF IB
       have ev:v= .non:=hF
       subst ev
       refine A9 (A9 ⟨_,rfl,.ref a,some (.ref a),rfl,s1,?_⟩)
       rw[IB]
       exact⟨i,a,ha,he,rfl⟩
      | some e2=>
       rw[ht] at hF IB
       obtain⟨j,a2,ha2,he2,ev⟩:=hF
       subst ev
       obtain⟨e2',xI,xJ⟩:=Paired.DJ hE.ent ha2
       have ee:e2'=e2:=CL (xI.symm.trans he2)
       subst ee
       refine BJ ?_
       refine⟨_,rfl,a,e,rfl,UB,fun q1 hq1=>?_⟩
       have s2:=Ao (o:=.tup ((stI e).map V.int)) hq1
       refine⟨_,rfl,a2,e2',rfl,(xJ.same s1).same s2,fun q2 hq2=>?_⟩
       have s3:=Ao (o:=.tup ((stI e2').map V.int)) hq2
       have s4:=(s1.trans s2).trans s3
       refine⟨q1,q2,stI e,stI e2',rfl,rfl,Ap.of (s3 _ _ AO),Ap.of AO,_,rfl,?_⟩
       rw[lV]
       by_cases hb:S4 e2' e=true
       . rw[hb]
         refine A9 ⟨_,rfl,.ref a,some (.ref a),rfl,s4,?_⟩
         rw[IB]
         show Found as es (if S4 e2' e=true then some e else some e2') _
         rw[if_pos hb]
         exact⟨i,a,ha,he,rfl⟩
       . rw[Bool.eq_false_iff.mpr hb]
         refine BJ ⟨.ref a2,some (.ref a),rfl,s4,?_⟩
         rw[IB]
         show Found as es (if S4 e2' e=true then some e else some e2') _
         rw[if_neg hb]
         exact⟨j,a2,ha2,he2,rfl⟩
   . rintro σ H' ⟨v,z,rfl,s1,hF⟩
     refine⟨_,rfl,q v H' s1 ?_⟩
     have hl:es.take (as.map V.ref).length=es:=DN (by rw[AR,Paired.len hE.ent];exact Aj _)
     rw[hl] at hF
     exact hF
def fh (C:AA) (H:Hp) (o:Option Ent) (v:V):Prop:=match o with
 | none=>v= .non
 | some e=>∃a,v= .ref a/\CY C H a e
theorem Found.at {as:List AA} {es:List Ent} {H:Hp} {o:Option Ent} {v:V} (h:Found as es o v) (p:Ar (CY C H) as es):fh C H o v:=by
 cases o with
 | none=>exact h
 | some e=>
  obtain⟨i,a,h1,h2,rfl⟩:=h
  obtain⟨e',h3,h4⟩:=Paired.DJ p h1
  have ee:e'=e:=CL (h3.symm.trans h2)
  subst ee
  exact⟨a,rfl,h4⟩
def K0 (K:AW) (C:AA):Sp:=fun vs H Q _=>∃(l:AA) (as:List AA) (es:List Ent) (k m:Nat),vs=[.ref l,nI k,nI m]/\G5 K C H l as es/\∀H':Hp,Same H H'->Q (nI (A3 es k m)) H'
theorem oo:BD ["entries","key","minute","found"] ["entries","key","minute"] (As Vp):={}
theorem ABd {f fl:AA} {fd jF:A2} (F:A0 K "value_at" "value_at" Vp f fd) (T:FY K C)
 (GL:Aa P w K mg base Ag 2 fl jF ["entries","key","minute"] (Kz K C)) (kl:D9 K (.ref fl)=true) (bl:Binds K jF ["entries","key","minute"] []) (ml:mg "latest"=some (.ref fl)):
 Aa P w K mg base Ag 3 f fd ["entries","key","minute"] (K0 K C):=by
 refine F.ok oo (fun vs H Q E h=>?_) (fun Al A outer s H vs Q E hr h=>?_)
 . obtain⟨l,as,es,k,m,rfl,_⟩:=h
   rfl
 . obtain⟨l,as,es,k,m,rfl,hE,q⟩:=h
   refine⟨_,AX (A5 (i:=3) oo.nd rfl (Ad rfl) (FN GL hr rfl ml kl bl .nil CV (AH (pv 0) (AH (pv 1) (AH (pv 2) AK)))))
    (AX (C9 (Ku (Ur (pv 3))) (Ac (A4 Ax)) DG) (Ac (A4 (Ay (pv 3) rfl)))),?_⟩
   refine⟨_,rfl,_,rfl,_,rfl,l,as,es,k,m,rfl,hE,fun v H' s1 hF=>?_⟩
   have hF':=hF.at (hE.same s1).ent
   have hv:A3 es k m=match F7 es k m with | none=>0 | some x=>x.val:=rfl
   cases ht:F7 es k m with
   | none=>
    rw[ht] at hF' hv
    have ev:v= .non:=hF'
    subst ev
    refine⟨_,rfl,_,rfl,A9 ?_⟩
    have q':=q H' s1
    rw[hv] at q'
    exact q'
   | some e=>
    rw[ht] at hF' hv
    obtain⟨a,ev,dx,ha⟩:=hF'
    subst ev
    refine⟨_,rfl,_,rfl,BJ ?_⟩
    have q':=q H' s1
    rw[hv] at q'
    exact⟨_,rfl,a,C,dx,_,_,rfl,ha,T.cl,T.n6,YW e,q'⟩
def OM (C:AA):Sp:=fun vs H Q _=>∃(v:V) (o:Option Ent),vs=[v]/\fh C H o v/\∀p,H p=none->Q (.ref p) (upd H p (.lst ((Mt o).map V.int)))
theorem ADG:BD ["entry"] ["entry"] (As Vn):={}
theorem ABb {f:AA} {fd:A2} (F:A0 K "entry_told" "entry_told" Vn f fd) (T:FY K C):Aa P w K mg base Ag 1 f fd ["entry"] (OM C):=by
 refine F.ok ADG (fun vs H Q E h=>?_) (fun Al A outer s H vs Q E hr h=>?_)
 . obtain⟨v,o,rfl,_⟩:=h
   rfl
 . obtain⟨v,o,rfl,ho,q⟩:=h
   refine⟨_,AX (C9 (Ku (Ur (pv 0))) (Ac (A4 (DE (AH Ax (AH Ax (AH Ax AK)))))) DG)
    (Ac (A4 (DE (AH (Ay (pv 0) rfl) (AH (Ay (pv 0) rfl) (AH (Ay (pv 0) rfl) AK)))))),?_⟩
   cases o with
   | none=>
    have ev:v= .non:=ho
    subst ev
    exact⟨_,rfl,_,rfl,A9 ⟨(by show 3<=AZ;decide),fun p hp=>q p hp⟩⟩
   | some e=>
    obtain⟨a,ev,dx,ha⟩:=ho
    subst ev
    refine⟨_,rfl,_,rfl,BJ ?_⟩
    exact⟨_,rfl,a,C,dx,_,_,rfl,ha,T.cl,T.n6,YW e,_,rfl,a,C,dx,_,_,rfl,ha,T.cl,T.n1,M6 e,_,rfl,a,C,dx,_,_,rfl,ha,T.cl,T.n2,YV e,(by show 3<=AZ;decide),fun p hp=>q p hp⟩
end
theorem lx:∀(l acc:List Int) (y:Int),y∈l.foldl FK acc↔y∈acc\/y∈l
 | [],acc,y=>by simp
 | x::r,acc,y=>by
  rw[FV,lx r _ y,BK]
  unfold FK
  by_cases h:x∈acc
  . rw[if_pos h]
    constructor
    . rintro (q | q)
      . exact .inl q
      . exact .inr (.inr q)
    . rintro (q | q | q)
      . exact .inl q
      . subst q;exact .inl h
      . exact .inr q
  . rw[if_neg h,D8,DZ]
    constructor
    . rintro ((q | q) | q)
      . exact .inl q
      . exact .inr (.inl q)
      . exact .inr (.inr q)
    . rintro (q | q | q)
      . exact .inl (.inl q)
      . exact .inl (.inr q)
      . exact .inr q
theorem ly:∀(l acc:List Int),acc.Nodup->(l.foldl FK acc).Nodup
 | [],acc,h=>h
 | x::r,acc,h=>by
  rw[FV]
  refine ly r _ ?_
  unfold FK
  by_cases hx:x∈acc
  . rw[if_pos hx];exact h
  . rw[if_neg hx];exact Z2 h hx
theorem oz {ns:List Int} {ms cs:List Nat} (hp:ns.Perm ((ms.map fun n:Nat=>(n:Int)).foldl FK [])) (hs:ns.Pairwise (· <= ·)) (hu:Vm.Up cs) (hm:∀y,y∈ms↔y∈cs):ns=cs.map fun n:Nat=>(n:Int):=by
 have hmem:∀y:Int,y∈ns↔ ∃n:Nat,n∈cs/\y=(n:Int):=fun y=>by
  rw[hp.mem_iff,lx]
  simp only[XR,false_or,Dc]
  constructor
  . rintro⟨n,h1,h2⟩
    exact⟨n,(hm n).mp h1,h2.symm⟩
  . rintro⟨n,h1,h2⟩
    exact⟨n,(hm n).mpr h1,h2.symm⟩
 have hnd:ns.Nodup:=hp.nodup_iff.mpr (ly _ [] XQ)
 have xl:ns=(ns.map XA).map fun n:Nat=>(n:Int):=by
  rw[Dq]
  refine (List.map_id ns).symm.trans (JW fun y hy=>?_)
  obtain⟨n,_,rfl⟩:=(hmem y).mp hy
  rfl
 have hup:Vm.Up (ns.map XA):=by
  have go:∀l:List Int,l.Pairwise (· <= ·)->l.Nodup->(∀y∈l,0<=y)->Vm.Up (l.map XA):=by
   intro l
   induction l with
   | nil=>intro _ _ _;exact LJ
   | cons x r ih=>
    intro h1 h2 h3
    obtain⟨a1,a2⟩:=Dr.mp h1
    obtain⟨b1,b2⟩:=Ib.mp h2
    refine Dr.mpr ⟨fun y hy=>?_,ih a2 b2 fun y hy=>h3 y (B2 _ hy)⟩
    obtain⟨z,hz,rfl⟩:=Dc.mp hy
    have q1:=a1 z hz
    have q2:=h3 x Bl
    have q3:x≠z:=fun e=>b1 (e▸hz)
    lia
  exact go ns hs hnd fun y hy=>by
   obtain⟨n,_,rfl⟩:=(hmem y).mp hy
   lia
 have hc:ns.map XA=cs:=Vm.pj hup hu fun y=>by
  rw[Dc]
  constructor
  . rintro⟨z,hz,rfl⟩
    obtain⟨n,hn,rfl⟩:=(hmem z).mp hz
    exact hn
  . intro hy
    exact⟨(y:Int),(hmem _).mpr ⟨y,hy,rfl⟩,rfl⟩
 rw[xl,hc]
theorem Ud (l:List Nat):l.map nI=(l.map fun n:Nat=>(n:Int)).map V.int:=by
 rw[Dq]
 rfl
section
variable {P:Av} {w:Am} {K:AW} {mg:AG->Option AF} {base:Ae} {C:AA}
abbrev Rm:Au:=top 25
theorem gp:bootBuiltins "set"=some (.type "set"):=by decide+kernel
def OL (K:AW) (C:AA):Sp:=fun vs H Q _=>∃(l:AA) (as:List AA) (es:List Ent) (k a b:Nat),vs=[.ref l,nI k,nI a,nI b]/\G5 K C H l as es/\a < b/\es.length<=450/\
 ∀(H':Hp) (p:AA),Same H H'->H p=none->H' p=some (.lst ((F5 es k a b).map nI))->Q (.ref p) H'
theorem OD:BD ["entries","key","a","b","minutes","entry","edges","minute"] ["entries","key","a","b"] (As Rm):={}
structure JY (k a b:Nat) (es:List Ent) (ms:List Nat):Prop where
 len:ms.length<=1+2*es.length
 mem:∀y,y∈ms↔y=a\/ ∃e∈es,e.key=k/\(y=e.a\/y=e.b)/\a < y/\y < b
theorem JY.skip {k a b:Nat} {es:List Ent} {ms:List Nat} (h:JY k a b es ms) {e:Ent} (hk:¬e.key=k):JY k a b (es++[e]) ms:=by
 refine⟨?_,fun y=>?_⟩
 . have:=h.len
   rw[BZ,FW]
   lia
 . rw[h.mem y]
   constructor
   . rintro (q | ⟨e',h1,h2⟩)
     . exact .inl q
     . exact .inr ⟨e',Ht _ h1,h2⟩
   . rintro (q | ⟨e',h1,h2,h3⟩)
     . exact .inl q
     . rcases D8.mp h1 with z | z
       . exact .inr ⟨e',z,h2,h3⟩
       . rw[DZ.mp z] at h2
         exact absurd h2 hk
theorem JY.more {k a b:Nat} {es:List Ent} {ms:List Nat} (h:JY k a b es ms) {e:Ent} (hk:e.key=k):JY k a b (es++[e]) (ms++[e.a,e.b].filter fun m=>decide (a < m)&&decide (m < b)):=by
 refine⟨?_,fun y=>?_⟩
 . have h1:=h.len
   have h2:=Gh (fun m=>decide (a < m)&&decide (m < b)) [e.a,e.b]
   have h3:[e.a,e.b].length=2:=rfl
   rw[BZ,BZ,FW]
   lia
 . rw[D8,h.mem y,Ia]
   simp only[BK,XR,or_false,CB,decide_eq_true_eq]
   constructor
   . rintro ((q | ⟨e',h1,h2⟩) | ⟨h1,h2,h3⟩)
     . exact .inl q
     . exact .inr ⟨e',Ht _ h1,h2⟩
     . exact .inr ⟨e,DM _ (DZ.mpr rfl),hk,h1,h2,h3⟩
   . rintro (q | ⟨e',h1,h2,h3,h4,h5⟩)
     . exact .inl (.inl q)
     . rcases D8.mp h1 with z | z
       . exact .inl (.inr ⟨e',z,h2,h3,h4,h5⟩)
       . rw[DZ.mp z] at h3
         exact .inr ⟨h3,h4,h5⟩
theorem JY.cuts {k a b:Nat} {es:List Ent} {ms:List Nat} (h:JY k a b es ms) (Bk:a < b):∀y,y∈ms↔y∈F5 es k a b:=fun y=>by
 rw[h.mem y,Vm.Ka es k a b Bk y]
 constructor
 . rintro (q | ⟨e,h1,h2,h3,h4,h5⟩)
   . exact .inl q
   . exact .inr ⟨e,h1,h2,h3,Ic h4,h5⟩
 . rintro (q | ⟨e,h1,h2,h3,h4,h5⟩)
   . exact .inl q
   . rcases Ow a y with z | z
     . exact .inr ⟨e,h1,h2,h3,z,h5⟩
     . exact .inl (by lia)
theorem ABV {f:AA} {fd:A2} (F:A0 K "starts" "starts" Rm f fd) (T:FY K C) (m1:mg "sorted"=none) (m2:mg "set"=none):Aa P w K mg base Ag 1 f fd ["entries","key","a","b"] (OL K C):=by
 refine F.ok OD (fun vs H Q E h=>?_) (fun Al A outer s H vs Q E hr h=>?_)
 . obtain⟨l,as,es,k,a,b,rfl,_⟩:=h
   rfl
 . obtain⟨l,as,es,k,a,b,rfl,hE,Bk,BV,q⟩:=h
   refine⟨_,AX (A5 (i:=4) OD.nd rfl (Ad rfl) (DE (AH (pv 2) AK)))
    (AX (El PassesOwn.never rfl (Dl (pv 0)) (CW (i:=5) OD.nd rfl (Ad rfl))
     (Ac (C9 (DY Fh (Ay (pv 5) rfl) (pv 1) (Cy _))
      (AX (A5 (i:=6) OD.nd rfl (Ad rfl) (Ex (AH (Ay (pv 5) rfl) (AH (Ay (pv 5) rfl) AK))))
       (Ac (E8 (F0 F2 Xg fG AAE (pv 4)
        (AH (GP rfl OD.nd (Uu (pv 6)) (Ep (own:=[("minute",7)]) (by show EL ["entries","key","a","b","minutes","entry","edges","minute"] (As Rm) _ _=true;decide+kernel)) (fun _ _ _ _ _=>CW (i:=7) OD.nd rfl (Ad rfl))
         (fun _ _ _ _ _=>MB (n8 L7 L7 (pv 2) (pv 7) (pv 3))) (fun _ _ _ _ _=>pv 7)) AK))))) DG)))
    (Ac (A4 (Eb (iI rfl) (by rfl) m1 eh (AH (Z9 (iH rfl) rfl m2 gp (AH (pv 4) AK)) AK))))),?_⟩
   refine⟨_,rfl,(by show 1<=AZ;decide),fun p hp=>?_⟩
   have s0:Same H (upd H p (.lst [nI a])):=Ao hp
   have Cw:es.length=as.length:=(Paired.len hE.ent).symm
   refine⟨_,rfl,l,rfl,⟨_,s0.seq hE.lst⟩,Ir (K:=K) (a:=l) (xs:=as.map V.ref) (fun i σ H'=>∃(u v z:Option V) (ms:List Nat),σ=[some (.ref l),some (nI k),some (nI a),some (nI b),some (.ref p),u,v,z]/\Same H H'/\
    H' p=some (.lst (ms.map nI))/\JY k a b (es.take i) ms)
    ⟨none,none,none,[a],rfl,s0,AO,⟨Aj _,fun y=>by simp⟩⟩ (fun i σ H' _ ⟨_,_,_,_,_,s1,_⟩=>s1.seq hE.lst) ?_ ?_⟩
   . rintro i y σ H' hi ⟨u,v,z,ms,rfl,s1,hq,hM⟩
     obtain⟨c,hc,rfl⟩:=EA hi
     obtain⟨e,he,UC⟩:=Paired.DJ hE.ent hc
     obtain⟨dx,ZE⟩:=UC.same s1
     have DS:=C6 he
     have hi':i < es.length:=(Fo.mp he).1
     refine⟨_,rfl,c,C,dx,_,_,rfl,ZE,T.cl,T.n3,Tj e,_,rfl,rfl,_,rfl,?_⟩
     rw[Hz]
     cases hk:(e.key==k) with
     | false=>
      refine BJ ⟨some (.ref c),v,z,ms,rfl,s1,hq,?_⟩
      rw[DS]
      exact hM.skip fun w=>by rw[w,beq_self_eq_true] at hk;cases hk
     | true=>
      have hk':e.key=k:=eq_of_beq hk
      refine A9 ?_
      refine⟨_,rfl,c,C,dx,_,_,rfl,ZE,T.cl,T.n4,Ti e,_,rfl,c,C,dx,_,_,rfl,ZE,T.cl,T.n5,Tn e,(by show 2<=AZ;decide),fun t ht=>?_⟩
      have s2:Same H' (upd H' t (.tup [nI e.a,nI e.b])):=Ao ht
      refine⟨_,rfl,.inl ⟨rfl,_,AQ.of (s2 _ _ hq)⟩,?_⟩
      refine⟨_,rfl,t,rfl,⟨_,Ap.of AO⟩,fun D hD=>zL (K:=K) (a:=t) (xs:=[nI e.a,nI e.b])
       (fun j H3=>H3 D=some (.lst ((([e.a,e.b].take j).filter fun m=>decide (a < m)&&decide (m < b)).map nI))/\Same (upd H' t (.tup [nI e.a,nI e.b])) H3)
       ⟨AO,Ao hD⟩ (fun j H3 _ ⟨_,s3⟩=>Ap.of (s3 _ _ AO)) ?_ ?_⟩
      . rintro j x H3 hx ⟨Ce,s3⟩
        obtain⟨m,hm,rfl⟩:∃m,[e.a,e.b][j]? =some m/\x=nI m:=by
         match j,hx with
         | 0,hx=>exact⟨e.a,rfl,(CL hx).symm⟩
         | 1,hx=>exact⟨e.b,rfl,(CL hx).symm⟩
         | j+2,hx=>simp at hx
        have hj:[e.a,e.b].take (j+1)=[e.a,e.b].take j++[m]:=C6 hm
        refine⟨rfl,_,rfl,_,rfl,_,_,rfl,rfl,_,rfl,?_⟩
        show if decide ((a:Int) < (m:Int))=true then _ else _
        rw[dec_lt]
        have step0:¬(decide (a < m)&&decide (m < b))=true->(([e.a,e.b].take (j+1)).filter fun m=>decide (a < m)&&decide (m < b))=([e.a,e.b].take j).filter fun m=>decide (a < m)&&decide (m < b):=fun h=>by
         rw[hj,Ef,Dv (p:=fun m=>decide (a < m)&&decide (m < b)) h,Dx,EG]
        cases h1:decide (a < m) with
        | false=>
         refine BJ ⟨_,rfl,BJ ⟨?_,s3⟩⟩
         rw[step0 (by rw[h1];exact Bw)]
         exact Ce
        | true=>
         refine A9 ⟨_,rfl,_,_,rfl,rfl,_,rfl,?_⟩
         show if decide ((m:Int) < (b:Int))=true then _ else _
         rw[dec_lt]
         cases h2:decide (m < b) with
         | false=>
          refine BJ ⟨?_,s3⟩
          rw[step0 (by rw[h1,h2];exact Bw)]
          exact Ce
         | true=>
          refine A9 ⟨_,rfl,_,Ce,?_,?_,fun bb o eo=>?_⟩
          . rw[AR]
            have q1:=Gh (fun m=>decide (a < m)&&decide (m < b)) ([e.a,e.b].take j)
            have q2:([e.a,e.b].take j).length<=2:=by rw[Ct];exact eP _ _
            exact Fp (BP q1 q2) (by decide)
          . rw[AO,hj,Ef,Eg (p:=fun m=>decide (a < m)&&decide (m < b)) (by rw[h1,h2];rfl),Dx,Ba]
            rfl
          . rw[AV (BF eo hD)]
            exact s3 _ _ eo
      . rintro H3 ⟨Ce,s3⟩
        have Hi:H3 D=some (.lst (([e.a,e.b].filter fun m=>decide (a < m)&&decide (m < b)).map nI)):=Ce
        have kF:=hM.len
        have hfl:=Gh (fun m=>decide (a < m)&&decide (m < b)) [e.a,e.b]
        have h22:[e.a,e.b].length=2:=rfl
        refine⟨p,D,_,_,rfl,rfl,s3 _ _ (s2 _ _ hq),Hi,?_,?_⟩
        . rw[AR,AR]
          rw[Ct] at kF
          have:AZ=16777216:=Dn
          lia
        . refine⟨some (.ref c),some (.ref t),z,ms++[e.a,e.b].filter fun m=>decide (a < m)&&decide (m < b),rfl,fun bb o eo=>?_,?_,?_⟩
          . rw[AV (BF eo hp)]
            exact s3 _ _ (s2 _ _ (s1 _ _ eo))
          . rw[AO,Ba]
          . rw[DS]
            exact hM.more hk'
   . rintro σ H' ⟨u,v,z,ms,rfl,s1,hq,hM⟩
     rw[AR,<-Cw,LQ] at hM
     have kF:=hM.len
     rw[Ud] at hq
     refine⟨_,rfl,p,_,rfl,AQ.of hq,?_,fun ps HL pm hps=>?_⟩
     . rw[AR]
       unfold scanBound
       lia
     . have s2:Same H' (upd H' ps (Hv P w ps HL)):=Ao hps
       refine⟨ps,HL,rfl,AO,fun r ns p1 p2 hr=>?_⟩
       have s3:Same (upd H' ps (Hv P w ps HL)) (upd (upd H' ps (Hv P w ps HL)) r (.lst (ns.map V.int))):=Ao hr
       refine q _ r ((s1.trans s2).trans s3) ((s1.trans s2).free hr) ?_
       rw[AO,oz (p1.trans pm) p2 (Vm.Kb es k a b) (hM.cuts Bk),Ud]
end
abbrev PV:=Sum Nat (Nat×Nat)
def KW (K:AW) (H:Hp) (v:V):PV->Prop
 | .inl n=>v=nI n
 | .inr (a,b)=>∃p,v= .ref p/\Ap K H p ([(a:Int),(b:Int)].map V.int)
def EH (K:AW) (H:Hp) (p:AA) (x:Nat×PV):Prop:=∃v,Ap K H p [nI x.1,v]/\KW K H v x.2
theorem Ap.same {K:AW} {H H':Hp} {a:AA} {xs:List V} (h:Ap K H a xs) (e:Same H H'):Ap K H' a xs:=by
 rcases h with (h | ⟨o,h⟩) | h
 . exact .inl (.inl (e _ _ h))
 . exact .inl (.inr ⟨o,e _ _ h⟩)
 . exact .inr h
theorem KW.same {K:AW} {H H':Hp} {v:V} {x:PV} (h:KW K H v x) (e:Same H H'):KW K H' v x:=by
 cases x with
 | inl n=>exact h
 | inr ab=>
  obtain⟨p,h1,h2⟩:=h
  exact⟨p,h1,Ap.same h2 e⟩
theorem EH.same {K:AW} {H H':Hp} {p:AA} {x:Nat×PV} (h:EH K H p x) (e:Same H H'):EH K H' p x:=by
 obtain⟨v,h1,h2⟩:=h
 exact⟨v,Ap.same h1 e,h2.same e⟩
def qc (l:List (Nat×PV)):Prop:=(∀x∈l,∃n,x.2= .inl n)\/ ∀x∈l,∃ab,x.2= .inr ab
theorem ACm (p:Nat×PV):Vm.C3 [] p=[p]:=rfl
theorem oO (l:List (Nat×PV)) (q p:Nat×PV):Vm.C3 (l++[q]) p=if q.2=p.2 then l++[q] else (l++[q])++[p]:=by
 unfold Vm.C3
 rw[eF]
theorem ADq {acc:List (Nat×PV)} {p x:Nat×PV} (h:x∈Vm.C3 acc p):x∈acc\/x=p:=by
 rcases d3 acc with h0 | ⟨l,q,h0⟩
 . subst h0
   rw[ACm] at h
   exact .inr (DZ.mp h)
 . subst h0
   rw[MZ,oO] at h
   rw[MZ]
   split at h
   . exact .inl h
   . rcases D8.mp h with z | z
     . exact .inl z
     . exact .inr (DZ.mp z)
theorem ACo {l acc:List (Nat×PV)} {x:Nat×PV} (h:x∈l.foldl Vm.C3 acc):x∈acc\/x∈l:=by
 induction l generalizing acc with
 | nil=>exact .inl h
 | cons p r ih=>
  rcases ih h with q | q
  . rcases ADq q with z | z
    . exact .inl z
    . exact .inr (by rw[z];exact Bl)
  . exact .inr (B2 _ q)
theorem oQ (l acc:List (Nat×PV)):(l.foldl Vm.C3 acc).length<=acc.length+l.length:=by
 induction l generalizing acc with
 | nil=>exact Aj _
 | cons p r ih=>
  rw[FV,BO]
  refine BP (ih _) ?_
  have:(Vm.C3 acc p).length<=acc.length+1:=by
   unfold Vm.C3
   split
   . rw[BZ];exact Aj _
   . split
     . exact Gi _
     . rw[BZ];exact Aj _
  omega
theorem Paired.snoc {α β:Type} {R:α->β->Prop} {a:α} {b:β} (h:R a b):∀{l:List α} {m:List β},Ar R l m->Ar R (l++[a]) (m++[b])
 | _,_,.nil=>.cons h .nil
 | _,_,.cons r t=>.cons r (Paired.snoc h t)
theorem Paired.last {α β:Type} {R:α->β->Prop} {l:List α} {m:List β} {y:β} (h:Ar R l (m++[y])):∃l' x,l=l'++[x]/\Ar R l' m/\R x y:=by
 induction m generalizing l with
 | nil=>
  cases h with
  | cons r t=>
   cases t
   exact⟨[],_,rfl,.nil,r⟩
 | cons z m ih=>
  cases h with
  | cons r t=>
   obtain⟨l',x,e,q1,q2⟩:=ih t
   subst e
   exact⟨_::l',x,rfl,.cons r q1,q2⟩
section
variable {P:Av} {w:Am} {K:AW} {mg:AG->Option AF} {base:Ae} {C:AA}
abbrev VS:Au:=top 26
def Rz (K:AW):Sp:=fun vs H Q _=>∃(l:AA) (as:List AA) (xs:List (Nat×PV)),vs=[.ref l]/\AQ K H l (as.map V.ref)/\Ar (EH K H) as xs/\qc xs/\xs.length<=1000/\
 ∀(H':Hp) (p:AA) (bs:List AA),Same H H'->H p=none->H' p=some (.lst (bs.map V.ref))->Ar (EH K H') bs (Vm.runs xs)->Q (.ref p) H'
theorem bh:BD ["pieces","runs","piece"] ["pieces"] (As VS):={}
theorem ABB {f:AA} {fd:A2} (F:A0 K "joined" "joined" VS f fd) (m1:mg "len"=none):Aa P w K mg base Ag 1 f fd ["pieces"] (Rz K):=by
 refine F.ok bh (fun vs H Q E h=>?_) (fun Al A outer s H vs Q E hr h=>?_)
 . obtain⟨l,as,xs,rfl,_⟩:=h
   rfl
 . obtain⟨l,as,xs,rfl,hL,hP,hK,BV,q⟩:=h
   refine⟨_,AX (A5 (i:=1) bh.nd rfl (Ad rfl) (DE AK))
    (AX (El PassesOwn.never rfl (Dl (pv 0)) (CW (i:=2) bh.nd rfl (Ad rfl))
     (Ac (C9 (PW.pt (RV (DY Fh (Eb F9 (by rfl) m1 F3 (AH (pv 1) AK)) Ax (Cy _))
      (Uy (DY (C7.or L8 (ABm hr.units)) (Br D5 (Br Df (pv 1) (RN SD Ax)) Ax) (Br D5 (pv 2) Ax) (Cy _)))))
      (Ac (E8 (F0 F2 Hd He HJ (pv 1) (AH (pv 2) AK)))) DG)))
    (Ac (A4 (pv 1)))),?_⟩
   refine⟨Ci _,fun p hp=>?_⟩
   have s0:Same H (upd H p (.lst [])):=Ao hp
   have Cw:=Paired.len hP
   refine⟨_,rfl,l,rfl,⟨_,s0.seq hL⟩,Ir (K:=K) (a:=l) (xs:=as.map V.ref) (fun i σ H'=>∃(z:Option V) (bs:List AA),σ=[some (.ref l),some (.ref p),z]/\Same H H'/\
    H' p=some (.lst (bs.map V.ref))/\Ar (EH K H') bs ((xs.take i).foldl Vm.C3 []))
    ⟨none,[],rfl,s0,AO,.nil⟩ (fun i σ H' _ ⟨_,_,_,s1,_⟩=>s1.seq hL) ?_ ?_⟩
   . rintro i y σ H' hi ⟨z,bs,rfl,s1,hq,hR⟩
     obtain⟨c,hc,rfl⟩:=EA hi
     obtain⟨x,hx,hPx⟩:=Paired.DJ hP hc
     obtain⟨v,hv1,hv2⟩:=hPx.same s1
     have DS:(xs.take (i+1)).foldl Vm.C3 []=Vm.C3 ((xs.take i).foldl Vm.C3 []) x:=by rw[C6 hx,Sg];rfl
     have hrl:((xs.take i).foldl Vm.C3 []).length<=1000:=by
      refine BP (oQ _ _) ?_
      rw[D7,LR,Ct]
      exact BP (eP _ _) BV
     have Jk:=Paired.len hR
     have app:Vm.C3 ((xs.take i).foldl Vm.C3 []) x=(xs.take i).foldl Vm.C3 []++[x]->
      (∃z' bs',[some (V.ref l),some (V.ref p),some (V.ref c)]=[some (V.ref l),some (V.ref p),z']/\Same H (upd H' p (.lst (bs.map V.ref++[.ref c])))/\
       (upd H' p (.lst (bs.map V.ref++[.ref c]))) p=some (.lst (KJ V.ref bs'))/\Ar (EH K (upd H' p (.lst (bs.map V.ref++[.ref c])))) bs' ((xs.take (i+1)).foldl Vm.C3 [])):=fun e=>by
      have st:∀{b:AA} {y:Nat×PV},EH K H' b y->EH K (upd H' p (.lst (bs.map V.ref++[.ref c]))) b y:=fun {b y} h=>by
       have tup:∀{d:AA} {ys:List V},Ap K H' d ys->Ap K (upd H' p (.lst (bs.map V.ref++[.ref c]))) d ys:=fun {d ys} h=>by
        rcases h with (h | ⟨o,h⟩) | h
        . exact .inl (.inl (by rw[AV (B9 h hq (by intro e;cases e))];exact h))
        . exact .inl (.inr ⟨o,by rw[AV (B9 h hq (by intro e;cases e))];exact h⟩)
        . exact .inr h
       obtain⟨v,h1,h2⟩:=h
       refine⟨v,tup h1,?_⟩
       cases hy:y.2 with
       | inl n=>rw[hy] at h2;exact h2
       | inr ab=>
        rw[hy] at h2
        obtain⟨d,h3,h4⟩:=h2
        exact⟨d,h3,tup h4⟩
      refine⟨some (.ref c),bs++[c],rfl,fun b o eo=>?_,?_,?_⟩
      . rw[AV (BF eo hp)]
        exact s1 _ _ eo
      . rw[AO,Ba]
        rfl
      . rw[DS,e]
        exact Paired.snoc (st ⟨v,hv1,hv2⟩) (Paired.Be hR fun _ _ h=>st h)
     refine⟨_,rfl,p,_,rfl,.inl (AQ.of hq),rfl,_,rfl,?_⟩
     rcases d3 ((xs.take i).foldl Vm.C3 []) with h0 | ⟨R0,y0,h0⟩
     . have hb0:bs=[]:=Hb.mp (by rw[Jk,h0];rfl)
       subst hb0
       refine A9 (A9 ?_)
       refine⟨_,rfl,.inl ⟨rfl,_,AQ.of hq⟩,_,rfl,p,_,_,rfl,rfl,hq,(by show 0 < AZ;decide),?_⟩
       exact app (by rw[h0];rfl)
     . rw[h0,MZ] at hR
       obtain⟨TB,b0,rfl,ji,hb0⟩:=Paired.last hR
       obtain⟨v0,yG,UO⟩:=hb0
       have hstep:Vm.C3 ((xs.take i).foldl Vm.C3 []) x=if y0.2=x.2 then (xs.take i).foldl Vm.C3 [] else (xs.take i).foldl Vm.C3 []++[x]:=by
        rw[h0,MZ,oO]
       have BX:¬((((TB++[b0]).map V.ref).length:Int)=0):=by
        rw[AR,BZ]
        simp
        omega
       show if decide (V.int (((TB++[b0]).map V.ref).length:Int)=V.int 0)=true then _ else _
       rw[decide_eq_false (fun e=>BX (V.int.inj e))]
       refine BJ ?_
       refine⟨_,rfl,1,rfl,p,_,_,_,rfl,rfl,AQ.of hq,(by rw[Ba];exact Xu _ _),b0,_,_,_,rfl,rfl,yG,rfl,_,rfl,c,_,_,_,rfl,rfl,hv1,rfl,?_⟩
       have Nc:x∈xs:=G7 hx
       have kz:y0∈xs:=by
        have z1:y0∈(xs.take i).foldl Vm.C3 []:=by rw[h0,MZ];exact DM _ (DZ.mpr rfl)
        rcases ACo z1 with z2 | z2
        . cases z2
        . exact List.mem_of_mem_take z2
       have skip:y0.2=x.2->∃z' bs',[some (V.ref l),some (V.ref p),some (V.ref c)]=[some (V.ref l),some (V.ref p),z']/\Same H H'/\H' p=some (.lst (KJ V.ref bs'))/\Ar (EH K H') bs' ((xs.take (i+1)).foldl Vm.C3 []):=fun e=>
        ⟨some (.ref c),TB++[b0],rfl,s1,hq,by rw[DS,hstep,if_pos e,h0,MZ];exact hR⟩
       have hsz:((TB++[b0]).map V.ref).length < AZ:=by
        rw[AR,Jk]
        exact Fp hrl (by decide)
       rcases hK with hK | hK
       . obtain⟨n0,e0⟩:=hK y0 kz
         obtain⟨n,en⟩:=hK x Nc
         rw[e0] at UO
         rw[en] at hv2
         have YY:v0=nI n0:=UO
         have ev:v=nI n:=hv2
         subst YY ev
         refine .inl ⟨rfl,_,rfl,?_⟩
         rw[Hz]
         by_cases e:n0=n
         . subst e
           rw[beq_self_eq_true]
           exact BJ (skip (by rw[e0,en]))
         . rw[beq_eq_false_iff_ne.mpr e]
           refine A9 ⟨_,rfl,.inl ⟨rfl,_,AQ.of hq⟩,_,rfl,p,_,_,rfl,rfl,hq,hsz,?_⟩
           exact app (by rw[hstep,if_neg (by rw[e0,en];exact fun z=>e (Xp z))])
       . obtain⟨⟨a0,Xv⟩,e0⟩:=hK y0 kz
         obtain⟨⟨a1,b1⟩,en⟩:=hK x Nc
         rw[e0] at UO
         rw[en] at hv2
         obtain⟨d0,YY,hd0⟩:=UO
         obtain⟨d,ev,hd⟩:=hv2
         subst YY ev
         refine .inr ⟨d0,d,_,_,rfl,rfl,hd0,hd,_,rfl,?_⟩
         by_cases e:(a0,Xv)=(a1,b1)
         . have e1:a0=a1:=congrArg O2 e
           have e2:Xv=b1:=congrArg Sv e
           subst e1 e2
           rw[decide_eq_true rfl]
           exact BJ (skip (by rw[e0,en]))
         . have e':¬([(a0:Int),(Xv:Int)]=[(a1:Int),(b1:Int)]):=fun z=>by
            rw[List.cons.injEq,List.cons.injEq] at z
            exact e (by rw[Prod.mk.injEq];omega)
           rw[decide_eq_false e']
           refine A9 ⟨_,rfl,.inl ⟨rfl,_,AQ.of hq⟩,_,rfl,p,_,_,rfl,rfl,hq,hsz,?_⟩
           exact app (by rw[hstep,if_neg (by rw[e0,en];exact fun z=>e (Mm z))])
   . rintro σ H' ⟨z,bs,rfl,s1,hq,hR⟩
     refine⟨_,rfl,q H' p bs s1 hp hq ?_⟩
     rw[AR,Cw,LQ,Vm.Tw] at hR
     exact hR
end
theorem aX {α β:Type} [DecidableEq α] [DecidableEq β] (f:α->β) (hf:∀x y,f x=f y->x=y) (v:α):∀l:List (Nat×α),Vm.runsFrom (f v) (l.map fun p=>(p.1,f p.2))=(Vm.runsFrom v l).map fun p=>(p.1,f p.2)
 | []=>rfl
 | p::r=>by
  show (if f v=f p.2 then Vm.runsFrom (f v) (r.map fun p=>(p.1,f p.2)) else (p.1,f p.2)::Vm.runsFrom (f p.2) (r.map fun p=>(p.1,f p.2)))=(if v=p.2 then Vm.runsFrom v r else p::Vm.runsFrom p.2 r).map fun p=>(p.1,f p.2)
  by_cases h:v=p.2
  . rw[if_pos (by rw[h]),if_pos h,aX f hf v r]
  . rw[if_neg (fun z=>h (hf _ _ z)),if_neg h,aX f hf p.2 r]
    rfl
theorem oR {α β:Type} [DecidableEq α] [DecidableEq β] (f:α->β) (hf:∀x y,f x=f y->x=y) (l:List (Nat×α)):Vm.runs (l.map fun p=>(p.1,f p.2))=(Vm.runs l).map fun p=>(p.1,f p.2):=by
 cases l with
 | nil=>rfl
 | cons p r=>
  show (p.1,f p.2)::Vm.runsFrom (f p.2) (r.map fun p=>(p.1,f p.2))=_
  rw[aX f hf p.2 r]
  rfl
theorem Mz (es:List Ent) (k a b:Nat) (h:a < b):(F5 es k a b).length<=1+2*es.length:=by
 have hn:(F5 es k a b).Nodup:=(Vm.Kb es k a b).imp fun {x y} h=>C4 h
 have hs:=Vm.sub_len (m:=a::es.flatMap fun e=>[e.a,e.b]) hn fun y hy=>by
  rcases (Vm.Ka es k a b h y).mp hy with q | ⟨e,h1,_,h3,_⟩
  . rw[q];exact Bl
  . refine B2 _ (List.mem_flatMap.mpr ⟨e,h1,?_⟩)
    rcases h3 with z | z
    . rw[z];exact Bl
    . rw[z];exact B2 _ Bl
 have hl:∀l:List Ent,(l.flatMap fun e=>[e.a,e.b]).length=2*l.length:=by
  intro l
  induction l with
  | nil=>rfl
  | cons e r ih=>
   have e2:((e::r).flatMap fun e=>[e.a,e.b]).length=2+(r.flatMap fun e=>[e.a,e.b]).length:=by
    rw[List.flatMap_cons,BZ]
    rfl
   rw[e2,ih,BO]
   lia
 rw[BO,hl] at hs
 lia
section
variable {P:Av} {w:Am} {K:AW} {mg:AG->Option AF} {base:Ae} {C:AA}
abbrev Ri:Au:=top 28
def JH (es:List Ent) (k a b:Nat):List (Nat×PV):=(F6 es k a b).map fun p=>(p.1,.inl p.2)
theorem zS (es:List Ent) (k a b:Nat):Vm.runs ((F5 es k a b).map fun m=>((m,.inl (A3 es k m)):Nat×PV))=JH es k a b:=by
 unfold JH
 rw[Vm.RF,<-oR (fun n=>(Di n:PV)) (fun x y z=>Xp z),Dq]
 rfl
def OJ (K:AW) (C:AA):Sp:=fun vs H Q _=>∃(l:AA) (as:List AA) (es:List Ent) (k a b:Nat),vs=[.ref l,nI k,nI a,nI b]/\G5 K C H l as es/\a < b/\es.length<=450/\
 ∀(H':Hp) (p:AA) (bs:List AA),Same H H'->H p=none->H' p=some (.lst (bs.map V.ref))->Ar (EH K H') bs (JH es k a b)->Q (.ref p) H'
theorem V0:BD ["entries","key","a","b","minutes","minute"] ["entries","key","a","b"] (As Ri):={}
theorem ABG {f fS fV fJ:AA} {fd Ke fdV Ts:A2} (F:A0 K "line_of" "line_of" Ri f fd)
 (GS:Aa P w K mg base Ag 1 fS Ke ["entries","key","a","b"] (OL K C)) (kS:D9 K (.ref fS)=true) (bS:Binds K Ke ["entries","key","a","b"] []) (mS:mg "starts"=some (.ref fS))
 (GV:Aa P w K mg base Ag 3 fV fdV ["entries","key","minute"] (K0 K C)) (kV:D9 K (.ref fV)=true) (bV:Binds K fdV ["entries","key","minute"] []) (mV:mg "value_at"=some (.ref fV))
 (GJ:Aa P w K mg base Ag 1 fJ Ts ["pieces"] (Rz K)) (kJ:D9 K (.ref fJ)=true) (bJ:Binds K Ts ["pieces"] []) (mJ:mg "joined"=some (.ref fJ)):
 Aa P w K mg base Ag 4 f fd ["entries","key","a","b"] (OJ K C):=by
 refine F.ok V0 (fun vs H Q E h=>?_) (fun Al A outer s H vs Q E hr h=>?_)
 . obtain⟨l,as,es,k,a,b,rfl,_⟩:=h
   rfl
 . obtain⟨l,as,es,k,a,b,rfl,hE,Bk,BV,q⟩:=h
   have Bg:BW 1 _:=hr.mono (by decide)
   refine⟨_,AX (A5 (i:=4) V0.nd rfl (Ad rfl) (FN GS Bg rfl mS kS bS .nil CV (AH (pv 0) (AH (pv 1) (AH (pv 2) (AH (pv 3) AK))))))
    (Ac (A4 (FN GJ Bg rfl mJ kJ bJ .nil CV (AH (GP rfl V0.nd (Dl (pv 4)) (Ep (own:=[("minute",5)]) (by show EL ["entries","key","a","b","minutes","minute"] (As Ri) _ _=true;decide+kernel))
     (fun _ _ _ _ _=>CW (i:=5) V0.nd rfl (Ad rfl)) (fun _ _ _ _ _=>HM)
     (fun _ _ _ _ _=>Ex (AH (pv 5) (AH (FN GV hr rfl mV kV bV .nil CV (AH (pv 0) (AH (pv 1) (AH (pv 5) AK)))) AK)))) AK)))),?_⟩
   refine⟨_,rfl,_,rfl,_,rfl,_,rfl,l,as,es,k,a,b,rfl,hE,Bk,BV,fun H1 p s1 hp h1=>?_⟩
   have De:=hE.same s1
   have CH:=Mz es k a b Bk
   refine⟨_,rfl,p,rfl,⟨_,AQ.of h1⟩,fun D hD=>Fx (K:=K) (a:=p) (xs:=(F5 es k a b).map nI)
    (fun i H2=>∃cs:List AA,H2 D=some (.lst (cs.map V.ref))/\Same H1 H2/\Ar (EH K H2) cs (((F5 es k a b).take i).map fun m=>((m,.inl (A3 es k m)):Nat×PV)))
    ⟨[],AO,Ao hD,.nil⟩ (fun i H2 _ ⟨_,_,s2,_⟩=>AQ.of (s2 _ _ h1)) ?_ ?_⟩
   . rintro i x H2 hx ⟨cs,BU,s2,hP⟩
     obtain⟨m,hm,rfl⟩:∃m,(F5 es k a b)[i]? =some m/\x=nI m:=by
      rw[CM] at hx
      cases e:(F5 es k a b)[i]? with
      | none=>rw[e] at hx;cases hx
      | some m=>rw[e] at hx;exact⟨m,rfl,(CL hx).symm⟩
     refine⟨rfl,?_⟩
     unfold Gy
     refine A9 ?_
     refine⟨_,rfl,_,rfl,_,rfl,_,rfl,l,as,es,k,m,rfl,De.same s2,fun H3 s3=>⟨(by show 2<=AZ;decide),fun t ht=>?_⟩⟩
     have s4:Same H3 (upd H3 t (.tup [nI m,nI (A3 es k m)])):=Ao ht
     have s5:=s3.trans s4
     have Ln:cs.length<=901:=by
      rw[Paired.len hP,AR,Ct]
      lia
     refine⟨_,s5 _ _ BU,?_,cs++[t],?_,fun bb o eo=>?_,?_⟩
     . rw[AR]
       exact Fp Ln (by decide)
     . rw[AO,Ba]
       rfl
     . rw[AV (BF eo hD)]
       exact s5 _ _ (s2 _ _ eo)
     . have tup:∀{d:AA} {ys:List V},Ap K (upd H3 t (.tup [nI m,nI (A3 es k m)])) d ys->Ap K (upd (upd H3 t (.tup [nI m,nI (A3 es k m)])) D (.lst (cs.map V.ref++[.ref t]))) d ys:=fun {d ys} h=>by
        have jb:=s5 _ _ BU
        rcases h with (h | ⟨o,h⟩) | h
        . exact .inl (.inl (by rw[AV (B9 h jb (by intro e;cases e))];exact h))
        . exact .inl (.inr ⟨o,by rw[AV (B9 h jb (by intro e;cases e))];exact h⟩)
        . exact .inr h
       have pc:∀(d:AA) (y:Nat×PV),EH K (upd H3 t (.tup [nI m,nI (A3 es k m)])) d y->EH K (upd (upd H3 t (.tup [nI m,nI (A3 es k m)])) D (.lst (cs.map V.ref++[.ref t]))) d y:=fun d y ⟨v,g1,g2⟩=>by
        refine⟨v,tup g1,?_⟩
        cases hy:y.2 with
        | inl n=>rw[hy] at g2;exact g2
        | inr ab=>
         rw[hy] at g2
         obtain⟨d',g3,g4⟩:=g2
         exact⟨d',g3,tup g4⟩
       rw[C6 hm,Ba]
       exact Paired.snoc (pc t (m,.inl (A3 es k m)) ⟨nI (A3 es k m),Ap.of AO,rfl⟩) (Paired.Be hP fun d y g=>pc d y (g.same s5))
   . rintro H2 ⟨cs,BU,s2,hP⟩
     rw[AR,LQ] at hP
     refine⟨D,cs,_,rfl,AQ.of BU,hP,.inl fun x hx=>?_,?_,fun H3 r bs s3 Lv h3 hb=>?_⟩
     . obtain⟨m,_,rfl⟩:=Dc.mp hx
       exact⟨_,rfl⟩
     . rw[AR]
       lia
     . rw[zS] at hb
       exact q H3 r bs ((s1.trans s2).trans s3) ((s1.trans s2).free Lv) h3 hb
end
end My
namespace L2
open PySem PySem.Spec PyProof.Rows
def Gd (P:Av) (w:Am) (K:AW) (mg:AG->Option AF) (base:Ae) (k:Nat) (x:AG) (ps:List AG) (sp:Sp):Prop:=
 ∃f fd,mg x=some (.ref f)/\D9 K (.ref f)=true/\Binds K fd ps []/\Aa P w K mg base Ag k f fd ps sp
def Gm (P:Av) (w:Am) (K:AW) (mg:AG->Option AF) (base:Ae) (C:AA) (k:Nat) (m:AG) (ps:List AG) (sp:Sp):Prop:=
 ∃f fd,Meth K C m f/\Binds K fd ps []/\Aa P w K mg base Ag k f fd ps sp
section
variable {X:Cx} {k:Nat} {x m:AG} {C:AA} {ps:List AG} {sp:Sp} {e o:Az} {es:List Az} {t:TA} {ta:TE} {p pos Ej:Bt}
theorem Bm (g:Gd X.prog X.w X.K X.mg X.base k x ps sp) (hr:BW k X.A) (hg:Gl X x) (ha:PA X (e::es) t) (hdb:(x==("__debug__":AG))=false:=by decide) (he:Bo (e::es) X.env=(false,eval e X.env)::Bo es X.env:=by rfl)
 (Cr:(backTo pos (Bo es X.env)).any (·.1)=false:=by rfl):PE X (.Call (.Name x p) (e::es) [] pos) (cv sp [] E0 t):=by
 obtain⟨f,fd,m1,k1,b1,F⟩:=g
 exact FN F hr hg m1 k1 b1 .nil CV ha hdb he Cr
theorem Gu {pl:Eo Bool} (g:Gm X.prog X.w X.K X.mg X.base C k m ps sp) (c:FU X.K C) (he:PE X o ta) (hr:BW k X.A) (ha:PA X (e::es) t)
 (BG:Bo (e::es) X.env=(false,eval e X.env)::Bo es X.env:=by rfl) (Cr:(backTo pos (Bo es X.env)).any (·.1)=false:=by rfl)
 (ht:eval (.Call (.Attribute o m Ej) (e::es) [] pos) X.env=(do
  let ov <-eval o X.env
  standAt Ej.atName
  let (f,first) <-holding [ov] (getMethod ov m pl)
  callWith pos f first (backTo pos (Bo (e::es) X.env)) (backToKw pos (Gs [] X.env))):=by rfl):
 PE X (.Call (.Attribute o m Ej) (e::es) [] pos) (Wn C m sp [] E0 ta t):=by
 obtain⟨f,fd,m1,b1,F⟩:=g
 exact IH he c m1 F hr b1 .nil CV ha BG Cr ht
theorem Ut {pl:Eo Bool} (g:Gm X.prog X.w X.K X.mg X.base C k m ps sp) (c:FU X.K C) (he:PE X o ta) (hr:BW k X.A)
 (ht:eval (.Call (.Attribute o m Ej) [] [] pos) X.env=(do
  let ov <-eval o X.env
  standAt Ej.atName
  let (f,first) <-holding [ov] (getMethod ov m pl)
  callWith pos f first (backTo pos (Bo [] X.env)) (backToKw pos (Gs [] X.env))):=by rfl):
 PE X (.Call (.Attribute o m Ej) [] [] pos) (Wn C m sp [] E0 ta R7):=by
 obtain⟨f,fd,m1,b1,F⟩:=g
 exact RM he c m1 F hr b1 .nil CV ht
end
end L2
namespace My
open PySem PySem.Spec PyProof.Rows L2
section
variable {P:Av} {w:Am} {K:AW} {mg:AG->Option AF} {base:Ae} {C:AA}
abbrev N3:Au:=top 27
abbrev U8:Au:=top 30
structure Hr (C:AA) (H:Hp) (l:AA) (as:List AA) (es:List Ent):Prop where
 lst:H l=some (.lst (as.map V.ref))
 ent:Ar (CY C H) as es
theorem Hr.at {H:Hp} {l:AA} {as:List AA} {es:List Ent} (h:Hr C H l as es):G5 K C H l as es:=⟨AQ.of h.lst,h.ent⟩
theorem Hr.same {H H':Hp} {l:AA} {as:List AA} {es:List Ent} (h:Hr C H l as es) (s:Same H H'):Hr C H' l as es:=⟨s _ _ h.lst,Paired.Be h.ent fun a e q=>q.same s⟩
def J6 (K:AW) (H:Hp) (p:AA) (x:S3):Prop:=Ap K H p [nI x.1,nI x.2.1,nI x.2.2.1,nI x.2.2.2]
theorem Paired.append {α β:Type} {R:α->β->Prop}:∀{l l':List α} {m m':List β},Ar R l m->Ar R l' m'->Ar R (l++l') (m++m')
 | _,_,_,_,.nil,h=>h
 | _,_,_,_,.cons r t,h=>.cons r (Paired.append t h)
theorem Paired.tY {α β:Type} {R:α->β->Prop}:∀{l:List α} {m:List β},Ar R l m->Ar R (l.drop 1) (m.drop 1)
 | _,_,.nil=>.nil
 | _,_,.cons _ t=>t
theorem YF (xs:List V):HD xs (some 1) none=xs.drop 1:=by
 unfold HD
 rw[show HT.FO xs.length 0 (some 1)=min 1 xs.length from HT.N2 xs.length 0 1,HT.oV]
 cases xs with
 | nil=>rfl
 | cons x r=>
  rw[show min 1 (x::r).length=1 from Ox (by simp)]
  exact DN (by simp)
theorem EH.upd {H:Hp} {p b:AA} {xs ys:List V} {y:Nat×PV} (hp:H p=some (.lst xs)) (h:EH K H b y):EH K (L2.upd H p (.lst ys)) b y:=by
 have tup:∀{d:AA} {zs:List V},Ap K H d zs->Ap K (L2.upd H p (.lst ys)) d zs:=fun {d zs} h=>by
  rcases h with (h | ⟨o,h⟩) | h
  . exact .inl (.inl (by rw[AV (B9 h hp (by intro e;cases e))];exact h))
  . exact .inl (.inr ⟨o,by rw[AV (B9 h hp (by intro e;cases e))];exact h⟩)
  . exact .inr h
 obtain⟨v,h1,h2⟩:=h
 refine⟨v,tup h1,?_⟩
 cases hy:y.2 with
 | inl n=>rw[hy] at h2;exact h2
 | inr ab=>
  rw[hy] at h2
  obtain⟨d,h3,h4⟩:=h2
  exact⟨d,h3,tup h4⟩
theorem J6.upd {H:Hp} {p b:AA} {xs ys:List V} {y:S3} (hp:H p=some (.lst xs)) (h:J6 K H b y):J6 K (L2.upd H p (.lst ys)) b y:=by
 rcases h with (h | ⟨o,h⟩) | h
 . exact .inl (.inl (by rw[AV (B9 h hp (by intro e;cases e))];exact h))
 . exact .inl (.inr ⟨o,by rw[AV (B9 h hp (by intro e;cases e))];exact h⟩)
 . exact .inr h
theorem T3 {l:List Nat} {i:Nat} {x:V} (h:(l.map nI)[i]? =some x):∃m,l[i]? =some m/\x=nI m:=by
 rw[CM] at h
 cases e:l[i]? with
 | none=>rw[e] at h;cases h
 | some m=>rw[e] at h;exact⟨m,rfl,(CL h).symm⟩
def JN (b:Nat) (xs:List (Nat×PV)):List (Nat×Nat×PV):=(xs.zip ((xs.drop 1).map (·.1)++[b])).map fun x=>(x.1.1,x.2,x.1.2)
def Ii (K:AW) (H:Hp) (p:AA) (y:Nat×Nat×PV):Prop:=∃v,Ap K H p [nI y.1,nI y.2.1,v]/\KW K H v y.2.2
theorem Ii.same {H H':Hp} {p:AA} {y:Nat×Nat×PV} (h:Ii K H p y) (e:Same H H'):Ii K H' p y:=by
 obtain⟨v,h1,h2⟩:=h
 exact⟨v,Ap.same h1 e,h2.same e⟩
theorem K1 {H:Hp} {p d:AA} {xs ys zs:List V} (hp:H p=some (.lst xs)) (h:Ap K H d zs):Ap K (L2.upd H p (.lst ys)) d zs:=by
 rcases h with (h | ⟨o,h⟩) | h
 . exact .inl (.inl (by rw[AV (B9 h hp (by intro e;cases e))];exact h))
 . exact .inl (.inr ⟨o,by rw[AV (B9 h hp (by intro e;cases e))];exact h⟩)
 . exact .inr h
theorem KW.upd {H:Hp} {p:AA} {xs ys:List V} {v:V} {y:PV} (hp:H p=some (.lst xs)) (h:KW K H v y):KW K (L2.upd H p (.lst ys)) v y:=by
 cases y with
 | inl n=>exact h
 | inr ab=>
  obtain⟨d,h3,h4⟩:=h
  exact⟨d,h3,K1 hp h4⟩
theorem Ii.upd {H:Hp} {p b:AA} {xs ys:List V} {y:Nat×Nat×PV} (hp:H p=some (.lst xs)) (h:Ii K H b y):Ii K (L2.upd H p (.lst ys)) b y:=by
 obtain⟨v,h1,h2⟩:=h
 exact⟨v,K1 hp h1,h2.upd hp⟩
theorem ADh (b:Nat) (xs:List (Nat×PV)) (h:1<=xs.length):(JN b xs).length=xs.length:=by
 unfold JN
 rw[AR,LM,BZ,AR,Md,FW]
 lia
def Wa (K:AW):Sp:=fun vs H Q _=>∃(r:AA) (bs:List AA) (R:List (Nat×PV)) (b:Nat),vs=[.ref r,nI b]/\AQ K H r (bs.map V.ref)/\Ar (EH K H) bs R/\1<=R.length/\R.length<=1000/\
 ∀(H':Hp) (p:AA) (cs:List AA),Same H H'->H p=none->H' p=some (.lst (cs.map V.ref))->Ar (Ii K H') cs (JN b R)->Q (.ref p) H'
theorem MJ:BD ["runs","b","ends","run","end"] ["runs","b"] (As N3):={}
theorem ABW {f:AA} {fd:A2} (F:A0 K "stretches" "stretches" N3 f fd) (m1:mg "zip"=none):Aa P w K mg base Ag 1 f fd ["runs","b"] (Wa K):=by
 refine F.ok MJ (fun vs H Q E h=>?_) (fun Al A outer s H vs Q E hr h=>?_)
 . obtain⟨r,bs,R,b,rfl,_⟩:=h
   rfl
 . obtain⟨r,bs,R,b,rfl,hL,hb,T7,hrl,q⟩:=h
   refine⟨_,AX (A5 (i:=2) MJ.nd rfl (Ad rfl) (DF Js (GP rfl MJ.nd (Dl (Nt OI (pv 0) (II Ax) MA)) (Ep (own:=[("run",3)]) (by show EL ["runs","b","ends","run","end"] (As N3) _ _=true;decide+kernel))
    (fun _ _ _ _ _=>CW (i:=3) MJ.nd rfl (Ad rfl)) (fun _ _ _ _ _=>HM) (fun _ _ _ _ _=>Br (r:=JK K) D5 (pv 3) Ax (fun _ _=>rfl))) (DE (AH (pv 1) AK))))
    (Ac (A4 (GP (g:=Yl K 2 (Qh (Kg 3) (Qh (Kg 4) Yk))) rfl MJ.nd (nX rfl m1 (AH (pv 0) (AH (pv 2) AK))) (Ep (own:=[("run",3),("end",4)]) (by show EL ["runs","b","ends","run","end"] (As N3) _ _=true;decide+kernel))
     (fun _ _ _ _ _=>aD rfl (Nu (CW (i:=3) MJ.nd rfl (Ad rfl)) (Nu (CW (i:=4) MJ.nd rfl (Ad rfl)) aE))) (fun _ _ _ _ _=>HM)
     (fun _ _ _ _ _=>Ex (AH (Br (r:=JK K) D5 (pv 3) Ax) (AH (pv 4) (AH (Br (r:=JK K) D5 (pv 3) Ax) AK))))))),?_⟩
   have Jk:=Paired.len hb
   refine⟨_,rfl,_,rfl,r,_,rfl,hL,fun u hu=>?_⟩
   rw[YF]
   have su:Same H (upd H u (.lst ((bs.map V.ref).drop 1))):=Ao hu
   refine⟨u,rfl,⟨_,AQ.of AO⟩,fun D hD=>Fx (K:=K) (a:=u) (xs:=(bs.map V.ref).drop 1)
    (fun i H4=>H4 D=some (.lst ((((R.drop 1).map (·.1)).take i).map nI))/\Same (upd H u (.lst ((bs.map V.ref).drop 1))) H4)
    ⟨AO,Ao hD⟩ (fun i H4 _ ⟨_,s4⟩=>AQ.of (s4 _ _ AO)) ?_ ?_⟩
   . rintro i x H4 hx ⟨Hi,s4⟩
     rw[<-Mh] at hx
     obtain⟨b1,hb1,rfl⟩:=EA hx
     obtain⟨y,hy,hPy⟩:=Paired.DJ (Paired.tY hb) hb1
     obtain⟨v,hv1,hv2⟩:=(hPy.same su).same s4
     refine⟨rfl,?_⟩
     unfold Gy
     refine A9 ⟨_,rfl,b1,_,_,_,rfl,rfl,hv1,rfl,_,Hi,?_,?_,fun bb o eo=>?_⟩
     . rw[AR,Ct,AR,Md]
       have:AZ=16777216:=Dn
       lia
     . have hR':((R.drop 1).map (·.1))[i]? =some y.1:=by rw[CM,hy];rfl
       rw[AO,C6 hR',Ba]
       rfl
     . rw[AV (BF eo hD)]
       exact s4 _ _ eo
   . rintro H4 ⟨Hi,s4⟩
     have kH:((R.drop 1).map (·.1)).take ((bs.map V.ref).drop 1).length=(R.drop 1).map (·.1):=DN (by rw[AR,Md,Md,AR];lia)
     rw[kH] at Hi
     refine⟨_,rfl,(by show 1<=AZ;decide),fun e he=>?_⟩
     have se:Same H4 (upd H4 e (.lst [nI b])):=Ao he
     refine⟨D,e,_,_,rfl,rfl,se _ _ Hi,AO,?_,fun g hg=>?_⟩
     . rw[AR,AR,Md]
       show R.length - 1+1<=AZ
       have:AZ=16777216:=Dn
       lia
     have sg:Same (upd H4 e (.lst [nI b])) (upd (upd H4 e (.lst [nI b])) g (.lst (((R.drop 1).map (·.1)).map nI++[nI b]))):=Ao hg
     have N0:=((su.trans s4).trans se).trans sg
     have uF:((R.drop 1).map (·.1)).map nI++[nI b]=((R.drop 1).map (·.1)++[b]).map nI:=by rw[Ba];rfl
     have UD:=(AO (H:=upd H4 e (.lst [nI b])) (a:=g) (o:=.lst (((R.drop 1).map (·.1)).map nI++[nI b]))).trans (congrArg (fun l=>some (HO.lst l)) uF)
     generalize je:upd (upd H4 e (.lst [nI b])) g (.lst (((R.drop 1).map (·.1)).map nI++[nI b]))=H5 at N0 UD
     have hel:((R.drop 1).map (·.1)++[b]).length=R.length:=by
      rw[BZ,AR,Md,FW]
      lia
     have jA:∀i (y0:Nat×PV) (en:Nat),R[i]? =some y0->((R.drop 1).map (·.1)++[b])[i]? =some en->(JN b R)[i]? =some (y0.1,en,y0.2):=fun i y0 en h1 h2=>by
      unfold JN
      rw[CM,(XM (z:=(y0,en))).mpr ⟨h1,h2⟩]
      rfl
     have hsl:=ADh b R T7
     generalize hends:(R.drop 1).map (·.1)++[b]=ends at UD hel jA
     refine⟨_,rfl,_,rfl,r,g,_,_,rfl,N0.seq hL,AQ.of UD,fun D2 BU=>lQ (K:=K) (a:=r) (b:=g) (xs:=bs.map V.ref) (ys:=ends.map nI) (n:=R.length) (by rw[AR,AR,Jk,hel,eQ])
      (fun i H'=>∃cs:List AA,H' D2=some (.lst (cs.map V.ref))/\Same H5 H'/\Ar (Ii K H') cs ((JN b R).take i))
      ⟨[],AO,Ao BU,.nil⟩ (fun i H' _ ⟨_,_,s6,_⟩=>⟨s6.seq (N0.seq hL),AQ.of (s6 _ _ UD)⟩) ?_ ?_⟩
     . rintro i x1 x2 T H6 hx1 hx2 ⟨cs,Qo,s6,Kj⟩ hT
       obtain⟨b1,hb1,rfl⟩:=EA hx1
       obtain⟨en,EV,rfl⟩:=T3 hx2
       obtain⟨y0,ji,hPy⟩:=Paired.DJ hb hb1
       have sT:Same H6 (upd H6 T (.tup [.ref b1,nI en])):=Ao hT
       obtain⟨v,hv1,hv2⟩:=((hPy.same N0).same s6).same sT
       refine⟨T,_,rfl,Ap.of AO,rfl,_,_,rfl,_,_,rfl,rfl,rfl,?_⟩
       unfold Gy
       refine A9 ⟨_,rfl,b1,_,_,_,rfl,rfl,hv1,rfl,_,rfl,_,rfl,b1,_,_,_,rfl,rfl,hv1,rfl,(by show 3<=AZ;decide),fun t ht=>?_⟩
       have st:Same (upd H6 T (.tup [.ref b1,nI en])) (upd (upd H6 T (.tup [.ref b1,nI en])) t (.tup [nI y0.1,nI en,v])):=Ao ht
       have bG:=sT.trans st
       have hDt:=bG _ _ Qo
       have CH:cs.length<=1000:=by
        rw[Paired.len Kj,Ct]
        lia
       refine⟨_,hDt,?_,cs++[t],?_,fun bb o eo=>?_,?_⟩
       . rw[AR]
         exact Fp CH (by decide)
       . rw[AO,Ba]
         rfl
       . rw[AV (BF eo BU)]
         exact bG _ _ (s6 _ _ eo)
       . rw[C6 (jA i y0 en ji EV)]
         exact Paired.snoc (Ii.upd hDt (y:=(y0.1,en,y0.2)) ⟨v,Ap.of AO,hv2.same st⟩) (Paired.Be Kj fun d y' g'=>Ii.upd hDt (g'.same bG))
     . rintro H6 ⟨cs,Qo,s6,Kj⟩
       rw[<-hsl,LQ] at Kj
       exact q H6 D2 cs (N0.trans s6) (N0.free BU) Qo Kj
theorem ADj (b:Nat) (R0:List (Nat×Vm.P2)):JN b (R0.map fun x=>((x.1,.inr x.2):Nat×PV))=(Vm.spans b R0).map fun x=>(x.1,x.2.1,.inr x.2.2):=by
 unfold JN
 rw[Vm.Wh,<-Mh,Dq,Dq,List.zip_map_left,Dq]
 rfl
def Rx (K:AW) (C:AA):Sp:=fun vs H Q _=>∃(l1 l2:AA) (as1 as2:List AA) (B8 DX:List Ent) (k a b:Nat),vs=[.ref l1,.ref l2,nI k,nI a,nI b]/\Hr C H l1 as1 B8/\Hr C H l2 as2 DX/\a < b/\B8.length<=100/\DX.length<=100/\
 ∀(H':Hp) (p:AA) (bs:List AA),Same H H'->H p=none->H' p=some (.lst (bs.map V.ref))->Ar (J6 K H') bs (LZ B8 DX k a b)->Q (.ref p) H'
theorem N9:BD ["one","other","key","a","b","pieces","minute","changes","stretch","both"] ["one","other","key","a","b"] (As U8):={}
theorem AAk {f:AA} {fd:A2} (F:A0 K "changes_between" "changes_between" U8 f fd) (gS:Gd P w K mg base 1 "starts" ["entries","key","a","b"] (OL K C)) (gV:Gd P w K mg base 3 "value_at" ["entries","key","minute"] (K0 K C))
 (gJ:Gd P w K mg base 1 "joined" ["pieces"] (Rz K)) (gT:Gd P w K mg base 1 "stretches" ["runs","b"] (Wa K)):Aa P w K mg base Ag 4 f fd ["one","other","key","a","b"] (Rx K C):=by
 refine F.ok N9 (fun vs H Q E h=>?_) (fun Al A outer s H vs Q E hr h=>?_)
 . obtain⟨l1,l2,as1,as2,B8,DX,k,a,b,rfl,_⟩:=h
   rfl
 . obtain⟨l1,l2,as1,as2,B8,DX,k,a,b,rfl,De,IA,Bk,hn1,hn2,q⟩:=h
   have Bg:BW 1 _:=hr.mono (by decide)
   refine⟨_,AX (A5 (i:=5) N9.nd rfl (Ad rfl) (DE AK))
    (AX (El PassesOwn.never rfl (Dl (Bm gS Bg rfl (AH (DF Js (pv 0) (pv 1)) (AH (pv 2) (AH (pv 3) (AH (pv 4) AK)))))) (CW (i:=6) N9.nd rfl (Ad rfl))
     (Ac (E8 (F0 F2 Hd He HJ (pv 5)
      (AH (Ex (AH (pv 6) (AH (Ex (AH (Bm gV hr rfl (AH (pv 0) (AH (pv 2) (AH (pv 6) AK))))
       (AH (Bm gV hr rfl (AH (pv 1) (AH (pv 2) (AH (pv 6) AK)))) AK))) AK))) AK)))))
    (AX (A5 (i:=7) N9.nd rfl (Ad rfl) (DE AK))
    (AX (El PassesOwn.never rfl (Dl (Bm gT Bg rfl (AH (Bm gJ Bg rfl (AH (pv 5) AK)) (AH (pv 4) AK)))) (CW (i:=8) N9.nd rfl (Ad rfl))
     (AX (A5 (i:=9) N9.nd rfl (Ad rfl) (Br D5 (pv 8) Ax))
      (Ac (C9 (DY L8 (Br D5 (pv 9) Ax) (Br D5 (pv 9) Ax) (Cy _))
       (Ac (E8 (F0 F2 Hd He HJ (pv 7)
        (AH (Ex (AH (Br D5 (pv 8) Ax) (AH (Br D5 (pv 8) Ax) (AH (Br D5 (pv 9) Ax) (AH (Br D5 (pv 9) Ax) AK))))) AK)))) DG))))
    (Ac (A4 (pv 7)))))),?_⟩
   refine⟨Ci _,fun p hp=>?_⟩
   have s0:Same H (upd H p (.lst [])):=Ao hp
   have jc:=De.same s0
   have jd:=IA.same s0
   have hl1:=Paired.len De.ent
   have Cw:=Paired.len IA.ent
   refine⟨_,rfl,_,rfl,l1,l2,_,_,rfl,rfl,jc.lst,jd.lst,?_,fun c hc=>?_⟩
   . rw[AR,AR]
     have:AZ=16777216:=Dn
     lia
   have sc:Same (upd H p (.lst [])) (upd (upd H p (.lst [])) c (.lst (as1.map V.ref++as2.map V.ref))):=Ao hc
   have wm:G5 K C (upd (upd H p (.lst [])) c (.lst (as1.map V.ref++as2.map V.ref))) c (as1++as2) (B8++DX):=
    ⟨AQ.of (by rw[AO,Ba]),Paired.append (jc.same sc).ent (jd.same sc).ent⟩
   refine⟨_,rfl,_,rfl,_,rfl,c,as1++as2,B8++DX,k,a,b,rfl,wm,Bk,(by rw[BZ];lia),fun H1 mm s1 hmm h1=>?_⟩
   have s01:Same H H1:=(s0.trans sc).trans s1
   have hq1:H1 p=some (.lst []):=s1 _ _ (sc _ _ AO)
   have CH:=Mz (B8++DX) k a b Bk
   rw[BZ] at CH
   have hmp:mm≠p:=fun e=>by
    rw[e] at h1
    rw[hq1] at h1
    have h1':=HO.lst.inj (CL h1)
    obtain⟨r,hr0⟩:=Vm.TQ (B8++DX) k a b Bk
    rw[hr0] at h1'
    cases h1'
   generalize hcs:F5 (B8++DX) k a b=cs at h1 CH
   refine⟨mm,rfl,⟨_,AQ.of h1⟩,Ir (K:=K) (a:=mm) (xs:=cs.map nI) (fun i σ H'=>∃(z:Option V) (ds:List AA),σ=[some (.ref l1),some (.ref l2),some (nI k),some (nI a),some (nI b),some (.ref p),z,none,none,none]/\Same H H'/\
    H' mm=some (.lst (cs.map nI))/\H' p=some (.lst (ds.map V.ref))/\Ar (EH K H') ds ((cs.take i).map fun m=>((m,.inr (A3 B8 k m,A3 DX k m)):Nat×PV)))
    ⟨none,[],rfl,s01,h1,hq1,.nil⟩ (fun i σ H' _ ⟨_,_,_,_,h2,_⟩=>AQ.of h2) ?_ ?_⟩
   . rintro i x σ H2 hx ⟨z,ds,rfl,s2,h2,hq2,hP⟩
     obtain⟨m,hm,rfl⟩:=T3 hx
     refine⟨_,rfl,.inl ⟨rfl,_,AQ.of hq2⟩,_,rfl,_,rfl,_,rfl,_,rfl,l1,as1,B8,k,m,rfl,(De.same s2).at,fun H3 s3=>?_⟩
     refine⟨_,rfl,_,rfl,_,rfl,l2,as2,DX,k,m,rfl,((IA.same s2).same s3).at,fun H4 s4=>⟨(by show 2<=AZ;decide),fun t1 ht1=>⟨(by show 2<=AZ;decide),fun t2 ht2=>?_⟩⟩⟩
     have s5:Same H4 (upd H4 t1 (.tup [nI (A3 B8 k m),nI (A3 DX k m)])):=Ao ht1
     have s6:Same (upd H4 t1 (.tup [nI (A3 B8 k m),nI (A3 DX k m)])) (upd (upd H4 t1 (.tup [nI (A3 B8 k m),nI (A3 DX k m)])) t2 (.tup [nI m,.ref t1])):=Ao ht2
     have s7:=((s3.trans s4).trans s5).trans s6
     have ZP:=s7 _ _ hq2
     have hdl:ds.length<=401:=by
      rw[Paired.len hP,AR,Ct]
      lia
     refine⟨p,_,_,rfl,rfl,ZP,?_,some (nI m),ds++[t2],rfl,fun bb o eo=>?_,?_,?_,?_⟩
     . rw[AR]
       exact Fp hdl (by decide)
     . rw[AV (BF eo hp)]
       exact s7 _ _ (s2 _ _ eo)
     . rw[AV hmp]
       exact s7 _ _ h2
     . rw[AO,Ba]
       rfl
     . rw[C6 hm,Ba]
       refine Paired.snoc (EH.upd ZP (y:=(m,.inr (A3 B8 k m,A3 DX k m))) ⟨.ref t1,Ap.of AO,t1,rfl,Ap.of (s6 _ _ AO)⟩) (Paired.Be hP fun d y g=>EH.upd ZP (g.same s7))
   . rintro σ H2 ⟨z,ds,rfl,s2,h2,hq2,hP⟩
     rw[AR,LQ] at hP
     have ke:Vm.runs (cs.map fun m=>((m,.inr (A3 B8 k m,A3 DX k m)):Nat×PV))=(Vm.runs (cs.map fun m=>((m,(A3 B8 k m,A3 DX k m)):Nat×Vm.P2))).map fun x=>(x.1,.inr x.2):=by
      rw[<-oR (fun n=>(B7 n:PV)) (fun x y z=>Mm z),Dq]
      rfl
     have hch:LZ B8 DX k a b=(Vm.spans b (Vm.runs (cs.map fun m=>((m,(A3 B8 k m,A3 DX k m)):Nat×Vm.P2)))).filter Vm.En:=by rw[Vm.iB,hcs]
     have hrl:(Vm.runs (cs.map fun m=>((m,(A3 B8 k m,A3 DX k m)):Nat×Vm.P2))).length<=401:=by
      have e1:Vm.runs (cs.map fun m=>((m,.inr (A3 B8 k m,A3 DX k m)):Nat×PV))=(cs.map fun m=>((m,.inr (A3 B8 k m,A3 DX k m)):Nat×PV)).foldl Vm.C3 []:=(Vm.Tw _).symm
      have e2:=congrArg D6 (ke.symm.trans e1)
      rw[AR] at e2
      rw[e2]
      refine BP (oQ _ _) ?_
      rw[D7,AR]
      lia
     have T7:1<=(Vm.runs (cs.map fun m=>((m,(A3 B8 k m,A3 DX k m)):Nat×Vm.P2))).length:=by
      obtain⟨r0,hr0⟩:=Vm.TQ (B8++DX) k a b Bk
      rw[hcs] at hr0
      rw[hr0,CP]
      show 1<=(_::Vm.runsFrom _ _).length
      rw[BO]
      exact Nat.le_add_left _ _
     refine⟨Ci _,fun y hy=>?_⟩
     have sy:Same H2 (upd H2 y (.lst [])):=Ao hy
     refine⟨_,rfl,p,ds,_,rfl,AQ.of (sy _ _ hq2),Paired.Be hP fun d x g=>g.same sy,.inr fun x hx=>?_,?_,fun H3 r bs s3 Lv h3 hb=>?_⟩
     . obtain⟨m,_,rfl⟩:=Dc.mp hx
       exact⟨_,rfl⟩
     . rw[AR]
       lia
     rw[ke] at hb
     generalize Vm.runs (cs.map fun m=>((m,(A3 B8 k m,A3 DX k m)):Nat×Vm.P2))=R0 at hb hch hrl T7
     have Ec:Same H H3:=(s2.trans sy).trans s3
     have kx:H3 y=some (.lst []):=s3 _ _ AO
     refine⟨_,rfl,r,bs,_,b,rfl,AQ.of h3,hb,(by rw[AR];exact T7),(by rw[AR];lia),fun H4 T iJ s4 hT hT4 hc4=>?_⟩
     rw[ADj] at hc4
     have Za:H4 y=some (.lst []):=s4 _ _ kx
     have hTy:T≠y:=fun e=>by rw[e,kx] at hT;cases hT
     have hsl:(Vm.spans b R0).length<=401:=by
      rw[Vm.Wh,AR,LM]
      lia
     have Y9:=Paired.len hc4
     rw[AR] at Y9
     generalize hS:Vm.spans b R0=SS at hc4 hch hsl Y9
     refine⟨T,rfl,⟨_,AQ.of hT4⟩,Ir (K:=K) (a:=T) (xs:=iJ.map V.ref)
      (fun i σ H'=>∃(z1 z2:Option V) (zs:List AA),σ=[some (.ref l1),some (.ref l2),some (nI k),some (nI a),some (nI b),some (.ref p),z,some (.ref y),z1,z2]/\(∀bb o,H4 bb=some o->bb≠y->H' bb=some o)/\
       H' y=some (.lst (zs.map V.ref))/\Ar (J6 K H') zs ((SS.take i).filter Vm.En))
      ⟨none,none,[],rfl,fun bb o e _=>e,Za,.nil⟩ (fun i σ H' _ ⟨_,_,_,_,s8,_⟩=>AQ.of (s8 _ _ hT4 hTy)) ?_ ?_⟩
     . rintro i x σ H5 hx ⟨z1,z2,zs,rfl,s8,Q6,hz8⟩
       obtain⟨b1,hb1,rfl⟩:=EA hx
       obtain⟨yy,IC,v,hv1,hv2⟩:=Paired.DJ hc4 hb1
       rw[CM] at IC
       cases hSi:SS[i]? with
       | none=>rw[hSi] at IC;cases IC
       | some c0=>
        rw[hSi] at IC
        have ey:(c0.1,c0.2.1,B7 c0.2.2)=yy:=CL IC
        subst ey
        obtain⟨d,ev,hd⟩:=hv2
        subst ev
        have tp:∀{a:AA} {xs:List V},Ap K H4 a xs->Ap K H5 a xs:=fun {a xs} h=>by
         rcases h with (h | ⟨o,h⟩) | h
         . exact .inl (.inl (s8 _ _ h (B9 h Za (by intro e;cases e))))
         . exact .inl (.inr ⟨o,s8 _ _ h (B9 h Za (by intro e;cases e))⟩)
         . exact .inr h
        have ZV:=tp hv1
        have UA:=tp hd
        have htk:=C6 hSi
        refine⟨_,rfl,b1,_,_,_,rfl,rfl,ZV,rfl,?_⟩
        refine⟨_,rfl,d,_,_,_,rfl,rfl,UA,rfl,_,rfl,d,_,_,_,rfl,rfl,UA,rfl,rfl,_,rfl,?_⟩
        show if (!decide (nI c0.2.2.1=nI c0.2.2.2))=true then _ else _
        rw[Hz]
        have Q8:zs.length<=401:=by
         rw[Paired.len hz8]
         refine BP (Gh _ _) ?_
         rw[Ct]
         lia
        by_cases Tc:c0.2.2.1=c0.2.2.2
        . rw[Tc,beq_self_eq_true]
          refine BJ ⟨_,_,zs,rfl,s8,Q6,?_⟩
          rw[htk,Ef,Dv (by unfold Vm.En;simp[Tc]),Dx,EG]
          exact hz8
        . rw[beq_eq_false_iff_ne.mpr Tc]
          refine A9 ?_
          refine⟨_,rfl,.inl ⟨rfl,_,AQ.of Q6⟩,_,rfl,b1,_,_,_,rfl,rfl,ZV,rfl,_,rfl,b1,_,_,_,rfl,rfl,ZV,rfl,_,rfl,d,_,_,_,rfl,rfl,UA,rfl,_,rfl,d,_,_,_,rfl,rfl,UA,rfl,(by show 4<=AZ;decide),fun t ht=>?_⟩
          have st:Same H5 (upd H5 t (.tup [nI c0.1,nI c0.2.1,nI c0.2.2.1,nI c0.2.2.2])):=Ao ht
          have Zb:=st _ _ Q6
          refine⟨y,_,_,rfl,rfl,Zb,?_,_,_,zs++[t],rfl,fun bb o eo BX=>?_,?_,?_⟩
          . rw[AR]
            exact Fp Q8 (by decide)
          . rw[AV BX]
            exact st _ _ (s8 _ _ eo BX)
          . rw[AO,Ba]
            rfl
          . rw[htk,Ef,Eg (by unfold Vm.En;simp[Tc]),Dx]
            exact Paired.snoc (J6.upd Zb (y:=c0) (Ap.of AO)) (Paired.Be hz8 fun d' y' g'=>J6.upd Zb (Ap.same g' st))
     . rintro σ H5 ⟨z1,z2,zs,rfl,s8,Q6,hz8⟩
       have IK:Same H H5:=fun bb o e=>s8 _ _ (s4 _ _ (Ec _ _ e)) fun z=>by rw[z] at e;rw[s2.free hy] at e;cases e
       refine⟨_,rfl,q H5 y zs IK (s2.free hy) Q6 ?_⟩
       have DK:SS.take (iJ.map V.ref).length=SS:=DN (by rw[AR,Y9];exact Aj _)
       rw[DK] at hz8
       rw[hch]
       exact hz8
abbrev U9:Au:=top 69
def LX (K:AW) (H:Hp) (p:AA) (ns:List Int):Prop:=Ap K H p (ns.map V.int)\/AQ K H p (ns.map V.int)
theorem LX.same {K:AW} {H H':Hp} {p:AA} {ns:List Int} (h:LX K H p ns) (s:Same H H'):LX K H' p ns:=h.elim (fun q=>.inl (Ap.same q s)) fun q=>.inr (s.seq q)
def IL (K:AW):Sp:=fun vs H Q _=>∃(l:AA) (bs:List AA) (nss:List (List Int)),vs=[.ref l]/\AQ K H l (bs.map V.ref)/\Ar (LX K H) bs nss/\nss.flatten.length<=1000000/\
 ∀(H':Hp) (p:AA),Same H H'->H p=none->H' p=some (.lst (((nss.length:Int)::nss.flatten).map V.int))->Q (.ref p) H'
theorem bO:BD ["rows","numbers","row"] ["rows"] (As U9):={}
theorem vB (nss:List (List Int)) (i:Nat):(nss.take i).flatten.length<=nss.flatten.length:=by
 have e:nss.flatten=(nss.take i).flatten++(nss.drop i).flatten:=by rw[<-List.flatten_append,List.take_append_drop]
 rw[e,BZ]
 exact KP _ _
theorem AAp {f:AA} {fd:A2} (F:A0 K "counted" "counted" U9 f fd) (m1:mg "len"=none):Aa P w K mg base Ag 1 f fd ["rows"] (IL K):=by
 refine F.ok bO (fun vs H Q E h=>?_) (fun Al A outer s H vs Q E hr h=>?_)
 . obtain⟨l,bs,nss,rfl,_⟩:=h
   rfl
 . obtain⟨l,bs,nss,rfl,hL,hP,BV,q⟩:=h
   refine⟨_,AX (A5 (i:=1) bO.nd rfl (Ad rfl) (DE (AH (Eb F9 (by rfl) m1 F3 (AH (pv 0) AK)) AK)))
    (AX (El PassesOwn.never rfl (Dl (pv 0)) (CW (i:=2) bO.nd rfl (Ad rfl))
     (Ac (E8 (F0 F2 Xg fG mI (pv 1) (AH (pv 2) AK)))))
    (Ac (A4 (pv 1)))),?_⟩
   have Jk:=Paired.len hP
   refine⟨_,rfl,l,_,rfl,.inl hL,(by show 1<=AZ;decide),fun p hp=>?_⟩
   rw[AR,Jk]
   have s0:Same H (upd H p (.lst [.int (nss.length:Int)])):=Ao hp
   refine⟨_,rfl,l,rfl,⟨_,s0.seq hL⟩,Ir (K:=K) (a:=l) (xs:=bs.map V.ref) (fun i σ H'=>∃z:Option V,σ=[some (.ref l),some (.ref p),z]/\Same H H'/\H' p=some (.lst (((nss.length:Int)::(nss.take i).flatten).map V.int)))
    ⟨none,rfl,s0,AO⟩ (fun i σ H' _ ⟨_,_,s1,_⟩=>s1.seq hL) ?_ ?_⟩
   . rintro i y σ H' hi ⟨z,rfl,s1,hq⟩
     obtain⟨c,hc,rfl⟩:=EA hi
     obtain⟨ns,hns,hrow⟩:=Paired.DJ hP hc
     have htk:(nss.take (i+1)).flatten=(nss.take i).flatten++ns:=by rw[C6 hns,List.flatten_append,Oq,List.flatten_nil,EG]
     have A1:=vB nss (i+1)
     rw[htk,BZ] at A1
     refine⟨_,rfl,.inl ⟨rfl,_,AQ.of hq⟩,_,rfl,p,c,_,_,rfl,rfl,hq,hrow.same s1,?_,some (.ref c),rfl,fun b o eo=>?_,?_⟩
     . rw[AR,AR,BO]
       have:AZ=16777216:=Dn
       lia
     . rw[AV (BF eo hp)]
       exact s1 _ _ eo
     . rw[AO,htk,<-Ba]
       rfl
   . rintro σ H' ⟨z,rfl,s1,hq⟩
     rw[AR,Jk,LQ] at hq
     exact⟨_,rfl,q H' p s1 hp hq⟩
theorem aW {H:Hp}:∀{bs:List AA} {xs:List (Nat×Nat)},Ar (EH K H) bs (xs.map fun p=>((p.1,.inl p.2):Nat×PV))->Ar (LX K H) bs (xs.map fun x=>[(x.1:Int),(x.2:Int)])
 | _,[],h=>by cases h;exact .nil
 | _,x::xs,h=>by
  cases h with
  | cons r t=>
   obtain⟨v,h1,h2⟩:=r
   have ev:v=nI x.2:=h2
   subst ev
   exact .cons (.inl h1) (aW t)
theorem aV {H:Hp}:∀{bs:List AA} {xs:List S3},Ar (J6 K H) bs xs->Ar (LX K H) bs (xs.map fun x=>[(x.1:Int),(x.2.1:Int),(x.2.2.1:Int),(x.2.2.2:Int)])
 | _,_,.nil=>.nil
 | _,_,.cons r t=>.cons (.inl r) (aV t)
theorem nM (l:List (Nat×Nat)):Ms l=(((l.map fun x=>[(x.1:Int),(x.2:Int)]).length:Nat):Int)::(l.map fun x=>[(x.1:Int),(x.2:Int)]).flatten:=by
 unfold Ms
 rw[AR,d8]
 rfl
theorem hW (l:List S3):Mr l=(((l.map fun x=>[(x.1:Int),(x.2.1:Int),(x.2.2.1:Int),(x.2.2.2:Int)]).length:Nat):Int)::(l.map fun x=>[(x.1:Int),(x.2.1:Int),(x.2.2.1:Int),(x.2.2.2:Int)]).flatten:=by
 unfold Mr
 rw[AR,d8]
 rfl
abbrev Vh:Au:=top 6
abbrev Vr:Au:=top 8
abbrev Rj:Au:=top 29
def cn (C:AA):Sp:=fun vs H Q _=>∃(p:AA) (e:Ent),vs=[.ref p]/\CY C H p e/\∀q,H q=none->Q (.ref q) (upd H q (.lst ((La e).map V.int)))
theorem ADH:BD ["entry"] ["entry"] (As Vr):={}
theorem ABf {f:AA} {fd:A2} (F:A0 K "whole_entry" "whole_entry" Vr f fd) (T:FY K C):Aa P w K mg base Ag 1 f fd ["entry"] (cn C):=by
 refine F.ok ADH (fun vs H Q E h=>?_) (fun Al A outer s H vs Q E hr h=>?_)
 . obtain⟨p,e,rfl,_⟩:=h
   rfl
 . obtain⟨p,e,rfl,⟨dx,he⟩,k⟩:=h
   refine⟨_,Ac (A4 (DE (AH (Ay (pv 0) rfl) (AH (Ay (pv 0) rfl) (AH (Ay (pv 0) rfl) (AH (Ay (pv 0) rfl) (AH (Ay (pv 0) rfl) (AH (Ay (pv 0) rfl) AK)))))))),?_⟩
   exact⟨_,rfl,p,C,dx,_,_,rfl,he,T.cl,T.n1,M6 e,_,rfl,p,C,dx,_,_,rfl,he,T.cl,T.n2,YV e,_,rfl,p,C,dx,_,_,rfl,he,T.cl,T.n3,Tj e,
    _,rfl,p,C,dx,_,_,rfl,he,T.cl,T.n4,Ti e,_,rfl,p,C,dx,_,_,rfl,he,T.cl,T.n5,Tn e,_,rfl,p,C,dx,_,_,rfl,he,T.cl,T.n6,YW e,(by show 6<=AZ;decide),fun t ht=>k t ht⟩
def stK (e:Ent):List Key:=[.inl (e.clock:Int),.inl (e.src:Int)]
theorem ADo {x y:Ent} (h:stK x=stK y):Vm.stp x=Vm.stp y:=by
 unfold stK at h
 injection h with h1 h2
 injection h2 with h2 _
 injection h1 with h1
 injection h2 with h2
 unfold Vm.stp
 rw[show x.clock=y.clock by lia,show x.src=y.src by lia]
def Sy (es part:List Ent) (st:List Key):Prop:=∃x∈part,∃m,(m=x.a\/m=x.b)/\∃y,F7 es x.key m=some y/\st=stK y
theorem ADJ (es:List Ent) (e:Ent):Sy es es (stK e)↔Vm.Seen es (Vm.stp e):=by
 constructor
 . rintro⟨x,hx,m,hm,y,hy,e1⟩
   exact⟨x,hx,m,hm,y,hy,(ADo e1).symm⟩
 . rintro⟨x,hx,m,hm,y,hy,e1⟩
   refine⟨x,hx,m,hm,y,hy,?_⟩
   unfold Vm.stp at e1
   injection e1 with e1 e2
   unfold stK
   rw[e1,e2]
def cZ (K:AW) (C:AA):Sp:=fun vs H Q _=>∃(l:AA) (as:List AA) (es:List Ent),vs=[.ref l]/\G5 K C H l as es/\es.length<=1000/\
 ∀(H':Hp) (p:AA) (kvs:List (List Key×V)),Same H H'->H p=none->H' p=some (.dT kvs)->(∀st,(Bq kvs st).isSome=true↔Sy es es st)->Q (.ref p) H'
theorem Rt:BD ["entries","found","entry","minute","by"] ["entries"] (As Vh):={}
theorem aK (kvs:List (List Key×V)) (k:List Key) (v:V):(putK kvs k v).length<=kvs.length+1:=by
 unfold putK
 split
 . rw[AR];exact Gi _
 . rw[BZ];exact Aj _
theorem ABS {f:AA} {fd:A2} (F:A0 K "stamps_known_by" "stamps_known_by" Vh f fd) (T:FY K C) (gL:Gd P w K mg base 2 "latest" ["entries","key","minute"] (Kz K C)) (gS:Gd P w K mg base 1 "stamp_of" ["entry"] (J1 C)):
 Aa P w K mg base Ag 3 f fd ["entries"] (cZ K C):=by
 refine F.ok Rt (fun vs H Q E h=>?_) (fun Al A outer s H vs Q E hr h=>?_)
 . obtain⟨l,as,es,rfl,_⟩:=h
   rfl
 . obtain⟨l,as,es,rfl,hE,BV,q⟩:=h
   have hu:=DC hr
   have Bg:BW 1 _:=hr.mono (by decide)
   refine⟨_,AX (A5 (i:=1) Rt.nd rfl (Ad rfl) nQ)
    (AX (El PassesOwn.never rfl (Dl (pv 0)) (CW (i:=2) Rt.nd rfl (Ad rfl))
     (Ac (El PassesOwn.never rfl (Uu (Ex (AH (Ay (pv 2) rfl) (AH (Ay (pv 2) rfl) AK)))) (CW (i:=3) Rt.nd rfl (Ad rfl))
      (AX (A5 (i:=4) Rt.nd rfl (Ad rfl) (Bm gL hr rfl (AH (pv 0) (AH (Ay (pv 2) rfl) (AH (pv 3) AK)))))
       (Ac (C9 (Ku (ABp (pv 4))) (Ac (RQ hu (pv 1) (Bm gS Bg rfl (AH (pv 4) AK)) Ju rfl)) DG))))))
    (Ac (A4 (pv 1)))),?_⟩
   intro p hp
   have s0:Same H (upd H p (.dT [])):=Ao hp
   have Cw:=Paired.len hE.ent
   refine⟨_,rfl,l,rfl,⟨_,s0.seq hE.lst⟩,Ir (K:=K) (a:=l) (xs:=as.map V.ref) (fun i σ H'=>∃(z1 z2 z3:Option V) (kvs:List (List Key×V)),σ=[some (.ref l),some (.ref p),z1,z2,z3]/\Same H H'/\H' p=some (.dT kvs)/\kvs.length<=2*i/\
    ∀st,(Bq kvs st).isSome=true↔Sy es (es.take i) st)
    ⟨none,none,none,[],rfl,s0,AO,Ci _,fun st=>⟨(fun h=>nomatch h),fun ⟨x,hx,_⟩=>by rw[Ou] at hx;exact nomatch hx⟩⟩ (fun i σ H' _ ⟨_,_,_,_,_,s1,_⟩=>s1.seq hE.lst) ?_ ?_⟩
   . rintro i y σ H1 hi ⟨z1,z2,z3,kvs,rfl,s1,C5,hkl,hk⟩
     obtain⟨c,hc,rfl⟩:=EA hi
     obtain⟨e,he,UC⟩:=Paired.DJ hE.ent hc
     obtain⟨dx,jz⟩:=UC.same s1
     have DS:=C6 he
     have hilt:i < es.length:=(Fo.mp he).1
     refine⟨_,rfl,c,C,dx,_,_,rfl,jz,T.cl,T.n4,Ti e,_,rfl,c,C,dx,_,_,rfl,jz,T.cl,T.n5,Tn e,(by show 2<=AZ;decide),fun t ht=>?_⟩
     have st:Same H1 (upd H1 t (.tup [nI e.a,nI e.b])):=Ao ht
     have htp:t≠p:=fun z=>by rw[z,C5] at ht;cases ht
     refine⟨t,rfl,⟨_,Ap.of AO⟩,Yf (K:=K) (a:=t) (xs:=[nI e.a,nI e.b]) (fun j σ H'=>∃(z2 z3:Option V) (kvs:List (List Key×V)),σ=[some (.ref l),some (.ref p),some (.ref c),z2,z3]/\Same H H'/\H' t=some (.tup [nI e.a,nI e.b])/\H' p=some (.dT kvs)/\kvs.length<=2*i+j/\
      ∀st,(Bq kvs st).isSome=true↔Sy es (es.take i) st\/ ∃m,m∈[e.a,e.b].take j/\∃y,F7 es e.key m=some y/\st=stK y)
      ⟨z2,z3,kvs,rfl,s1.trans st,AO,st _ _ C5,hkl,fun st=>by rw[hk st];simp⟩ (fun j σ H' _ ⟨_,_,_,_,_,h2,_⟩=>Ap.of h2) ?_ ?_⟩
     . rintro j x σ H2 hx ⟨z2,z3,kvs,rfl,s2,ht2,hp2,ZG,hk2⟩
       obtain⟨m,hm,rfl⟩:∃m,[e.a,e.b][j]? =some m/\x=nI m:=by
        match j,hx with
        | 0,hx=>exact⟨e.a,rfl,(CL hx).symm⟩
        | 1,hx=>exact⟨e.b,rfl,(CL hx).symm⟩
        | j+2,hx=>simp at hx
       have htk:[e.a,e.b].take (j+1)=[e.a,e.b].take j++[m]:=C6 hm
       have hj2:j < 2:=(Fo.mp hm).1
       obtain⟨QY,xK⟩:=UC.same s2
       refine⟨_,rfl,_,rfl,c,C,QY,_,_,rfl,xK,T.cl,T.n3,Tj e,_,rfl,l,as,es,e.key,m,rfl,hE.same s2,fun v H3 s3 hF=>?_⟩
       have hF':=hF.at (hE.same (s2.trans s3)).ent
       refine⟨_,rfl,_,rfl,?_⟩
       cases IB:F7 es e.key m with
       | none=>
        rw[IB] at hF'
        have ev:v= .non:=hF'
        subst ev
        refine BJ ⟨_,_,kvs,rfl,s2.trans s3,s3 _ _ ht2,s3 _ _ hp2,XZ ZG,fun st=>?_⟩
        rw[hk2 st,htk]
        constructor
        . rintro (h | ⟨m',h1,h2⟩)
          . exact .inl h
          . exact .inr ⟨m',Ht _ h1,h2⟩
        . rintro (h | ⟨m',h1,y,h2,h3⟩)
          . exact .inl h
          . rcases D8.mp h1 with z | z
            . exact .inr ⟨m',z,y,h2,h3⟩
            . rw[DZ.mp z,IB] at h2;cases h2
       | some y=>
        rw[IB] at hF'
        obtain⟨a2,ev,ha2⟩:=hF'
        subst ev
        refine A9 ?_
        refine⟨_,rfl,_,rfl,a2,y,rfl,ha2,fun b hb=>?_⟩
        have sb:Same H3 (upd H3 b (.tup ((stI y).map V.int))):=Ao hb
        have hp3:=sb _ _ (s3 _ _ hp2)
        refine⟨p,_,rfl,IX.t (k:=stK y) hp3 AO ?_,_,_,putK kvs (stK y) (.bl true),rfl,fun b' o e'=>?_,?_,AO,?_,fun st=>?_⟩
        . have:AZ=16777216:=Dn
          lia
        . rw[AV (BF e' hp)]
          exact sb _ _ (s3 _ _ (s2 _ _ e'))
        . rw[AV htp]
          exact sb _ _ (s3 _ _ ht2)
        . have:=aK kvs (stK y) (.bl true)
          lia
        . rw[cz,htk]
          by_cases est:st=stK y
          . rw[if_pos est]
            constructor
            . intro _
              exact .inr ⟨m,DM _ (DZ.mpr rfl),y,IB,est⟩
            . intro _;rfl
          . rw[if_neg est,hk2 st]
            constructor
            . rintro (h | ⟨m',h1,h2⟩)
              . exact .inl h
              . exact .inr ⟨m',Ht _ h1,h2⟩
            . rintro (h | ⟨m',h1,y',h2,h3⟩)
              . exact .inl h
              . rcases D8.mp h1 with z | z
                . exact .inr ⟨m',z,y',h2,h3⟩
                . rw[DZ.mp z,IB] at h2
                  cases h2
                  exact absurd h3 est
     . rintro σ H2 ⟨z2,z3,kvs,rfl,s2,ht2,hp2,ZG,hk2⟩
       refine⟨_,_,_,kvs,rfl,s2,hp2,?_,fun st=>?_⟩
       . have AEy:kvs.length<=2*i+2:=ZG
         lia
       . rw[hk2 st,DS]
         constructor
         . rintro (⟨x,hx,h⟩ | ⟨m,h1,y,h2,h3⟩)
           . exact⟨x,Ht _ hx,h⟩
           . refine⟨e,DM _ (DZ.mpr rfl),m,?_,y,h2,h3⟩
             have h1':m∈[e.a,e.b]:=h1
             rcases BK.mp h1' with z | z
             . exact .inl z
             . exact .inr (DZ.mp z)
         . rintro⟨x,hx,m,hm,y,h2,h3⟩
           rcases D8.mp hx with z | z
           . exact .inl ⟨x,z,m,hm,y,h2,h3⟩
           . rw[DZ.mp z] at hm h2
             refine .inr ⟨m,?_,y,h2,h3⟩
             show m∈[e.a,e.b]
             rcases hm with z | z
             . rw[z];exact Bl
             . rw[z];exact B2 _ Bl
   . rintro σ H1 ⟨z1,z2,z3,kvs,rfl,s1,C5,hkl,hk⟩
     have DK:es.take (as.map V.ref).length=es:=DN (by rw[AR,Cw];exact Aj _)
     rw[DK] at hk
     exact⟨_,rfl,q H1 p kvs s1 hp C5 hk⟩
def UJ (es:List Ent) (k a b v:Nat):Nat:=((Vbedak.stretches b (fun m=>(A3 es k m,0)) (F5 es k a b)).filter fun x=>x.2.2.1==v).foldl (fun n x=>n+(x.2.1 - x.1)) 0
def cU (K:AW) (C:AA):Sp:=fun vs H Q _=>∃(l:AA) (as:List AA) (es:List Ent) (k a b v:Nat),vs=[.ref l,nI k,nI a,nI b,nI v]/\G5 K C H l as es/\a < b/\es.length<=450/\∀H',Same H H'->Q (nI (UJ es k a b v)) H'
theorem V1:BD ["entries","key","a","b","value","told","stretch"] ["entries","key","a","b","value"] (As Rj):={}
theorem zR (es:List Ent) (k a b:Nat) (h:a < b):1<=(JH es k a b).length/\(JH es k a b).length<=1+2*es.length:=by
 unfold JH
 rw[AR,Vm.RF]
 obtain⟨r,hr⟩:=Vm.TQ es k a b h
 have hl:=Mz es k a b h
 have hs:=(Vm.oS ((F5 es k a b).map fun m=>(m,A3 es k m))).length_le
 rw[AR] at hs
 refine⟨?_,by lia⟩
 rw[hr,CP]
 show 1<=(_::Vm.runsFrom _ _).length
 rw[BO]
 exact Nat.le_add_left _ _
theorem ADi (es:List Ent) (k a b:Nat):JN b (JH es k a b)=(((F6 es k a b).zip (((F6 es k a b).drop 1).map (·.1)++[b])).map fun x=>((x.1.1,x.2,x.1.2):Nat×Nat×Nat)).map fun y=>(y.1,y.2.1,.inl y.2.2):=by
 unfold JN JH
 rw[<-Mh,Dq,List.zip_map_left,Dq,Dq]
 rfl
theorem ABK {f:AA} {fd:A2} (F:A0 K "minutes_with" "minutes_with" Rj f fd) (m1:mg "sum"=none) (gL:Gd P w K mg base 4 "line_of" ["entries","key","a","b"] (OJ K C)) (gT:Gd P w K mg base 1 "stretches" ["runs","b"] (Wa K)):
 Aa P w K mg base Ag 5 f fd ["entries","key","a","b","value"] (cU K C):=by
 refine F.ok V1 (fun vs H Q E h=>?_) (fun Al A outer s H vs Q E hr h=>?_)
 . obtain⟨l,as,es,k,a,b,v,rfl,_⟩:=h
   rfl
 . obtain⟨l,as,es,k,a,b,v,rfl,hE,Bk,BV,q⟩:=h
   have Bg:BW 1 _:=hr.mono (by decide)
   refine⟨_,AX (A5 (i:=5) V1.nd rfl (Ad rfl) (Bm gT Bg rfl (AH (Bm gL hr rfl (AH (pv 0) (AH (pv 1) (AH (pv 2) (AH (pv 3) AK))))) (AH (pv 3) AK))))
    (Ac (A4 (Eb (tK rfl) (by rfl) m1 PyProof.Rows.boot_sum (AH (GP rfl V1.nd (Dl (pv 5)) (Ep (own:=[("stretch",6)]) (by show EL ["entries","key","a","b","value","told","stretch"] (As Rj) _ _=true;decide+kernel))
     (fun _ _ _ _ _=>CW (i:=6) V1.nd rfl (Ad rfl)) (fun _ _ _ _ _=>MB (DY Fh (Br (r:=JK K) D5 (pv 6) Ax) (pv 4) (Cy _)))
     (fun _ _ _ _ _=>DF RK (Br (r:=JK K) D5 (pv 6) Ax) (Br (r:=JK K) D5 (pv 6) Ax))) AK)))),?_⟩
   obtain⟨hl1,Cw⟩:=zR es k a b Bk
   refine⟨_,rfl,_,rfl,_,rfl,_,rfl,l,as,es,k,a,b,rfl,hE,Bk,BV,fun H1 r bs s1 ZQ h1 hb=>?_⟩
   refine⟨_,rfl,r,bs,_,b,rfl,AQ.of h1,hb,hl1,(by lia),fun H2 T cs s2 hT h2 hc=>?_⟩
   rw[ADi] at hc
   have j7:=Vm.xr es k a b v Bk
   obtain⟨hup,hle⟩:=Vm.zT es k a b Bk
   have yS:=Vm.qO b _ hup hle
   have hSl:(((F6 es k a b).zip (((F6 es k a b).drop 1).map (·.1)++[b])).map fun x=>((x.1.1,x.2,x.1.2):Nat×Nat×Nat)).length<=1000:=by
    rw[AR,LM]
    have e1:(JH es k a b).length=(F6 es k a b).length:=by unfold JH;rw[AR]
    lia
   have jk:∀x∈((F6 es k a b).zip (((F6 es k a b).drop 1).map (·.1)++[b])).map (fun x=>((x.1.1,x.2,x.1.2):Nat×Nat×Nat)),x.1<=x.2.1:=fun x hx=>by
    obtain⟨y,hy,rfl⟩:=Dc.mp hx
    exact yS y hy
   generalize ((F6 es k a b).zip (((F6 es k a b).drop 1).map (·.1)++[b])).map (fun x=>((x.1.1,x.2,x.1.2):Nat×Nat×Nat))=SS at hc j7 hSl jk
   have CH:=Paired.len hc
   rw[AR] at CH
   refine⟨_,rfl,T,rfl,⟨_,AQ.of h2⟩,fun D hD=>Fx (K:=K) (a:=T) (xs:=cs.map V.ref)
    (fun i H'=>H' D=some (.lst ((((SS.take i).filter fun x=>x.2.2==v).map fun x=>((x.2.1:Int) - (x.1:Int))).map V.int))/\Same H2 H')
    ⟨AO,Ao hD⟩ (fun i H' _ ⟨_,s3⟩=>AQ.of (s3 _ _ h2)) ?_ ?_⟩
   . rintro i x H3 hx ⟨Ce,s3⟩
     obtain⟨b1,hb1,rfl⟩:=EA hx
     obtain⟨yy,IC,u,hu1,hu2⟩:=Paired.DJ hc hb1
     rw[CM] at IC
     cases hSi:SS[i]? with
     | none=>rw[hSi] at IC;cases IC
     | some y0=>
      rw[hSi] at IC
      have ey:(y0.1,y0.2.1,Di y0.2.2)=yy:=CL IC
      subst ey
      have eu:u=nI y0.2.2:=hu2
      subst eu
      have ZU:=Ap.same hu1 s3
      have htk:=C6 hSi
      refine⟨rfl,_,rfl,b1,_,_,_,rfl,rfl,ZU,rfl,_,rfl,rfl,_,rfl,?_⟩
      rw[Hz]
      cases hv:(y0.2.2==v) with
      | false=>
       refine BJ ⟨?_,s3⟩
       rw[htk,Ef,Dv (p:=fun x:Nat×Nat×Nat=>x.2.2==v) (by rw[hv];exact Bw),Dx,EG]
       exact Ce
      | true=>
       refine A9 ⟨_,rfl,b1,_,_,_,rfl,rfl,ZU,rfl,_,rfl,b1,_,_,_,rfl,rfl,ZU,rfl,_,_,rfl,rfl,_,Ce,?_,?_,fun b' o e=>?_⟩
       . rw[AR,AR]
         have q1:=Gh (fun x:Nat×Nat×Nat=>x.2.2==v) (SS.take i)
         rw[Ct] at q1
         have:AZ=16777216:=Dn
         lia
       . rw[AO,htk,Ef,Eg (p:=fun x:Nat×Nat×Nat=>x.2.2==v) hv,Dx,Ba,Ba]
         rfl
       . rw[AV (BF e hD)]
         exact s3 _ _ e
   . rintro H3 ⟨Ce,s3⟩
     have DK:SS.take (cs.map V.ref).length=SS:=DN (by rw[AR,CH];exact Aj _)
     rw[DK] at Ce
     refine⟨D,_,rfl,AQ.of Ce,?_⟩
     have q':=q H3 ((s1.trans s2).trans s3)
     have e1:UJ es k a b v=((SS.filter fun x=>x.2.2==v).map fun x=>x.2.1 - x.1).sum:=j7
     have e2:((SS.filter fun x=>x.2.2==v).map fun x=>((x.2.1:Int) - (x.1:Int))).sum=((((SS.filter fun x=>x.2.2==v).map fun x=>x.2.1 - x.1).sum:Nat):Int):=by
      refine Vm.pQ _ _ _ fun x hx=>?_
      have:=jk x (Ia.mp hx).1
      lia
     rw[e2,<-e1]
     exact q'
end
def FE (n Af:Nat) (l:AA):List (AG×V):=[("number",nI n),("clock",nI Af),("entries",.ref l)]
theorem hG (n Af:Nat) (l:AA):(FE n Af l).lookup ("number":AG)=some (nI n):=rfl
theorem PH (n Af:Nat) (l:AA):(FE n Af l).lookup ("clock":AG)=some (nI Af):=rfl
theorem Er (n Af:Nat) (l:AA):(FE n Af l).lookup ("entries":AG)=some (.ref l):=rfl
theorem tF (n Af TH:Nat) (l:AA):Dm "clock" (nI TH) (FE n Af l)=FE n TH l:=rfl
structure Dt (CC CE:AA) (H:Hp) (c l:AA) (as:List AA) (n Af:Nat) (es:List Ent):Prop where
 ins:∃dx,H c=some (.ins CC dx (FE n Af l))
 ents:Hr CE H l as es
theorem Dt.same {CC CE:AA} {H H':Hp} {c l:AA} {as:List AA} {n Af:Nat} {es:List Ent} (h:Dt CC CE H c l as n Af es) (s:Same H H'):Dt CC CE H' c l as n Af es:=
 ⟨let ⟨dx,q⟩:=h.ins;⟨dx,s _ _ q⟩,h.ents.same s⟩
structure Cq (K:AW) (C:AA):Prop where
 cl:FU K C
 n1:DH K C "number"
 n2:DH K C "clock"
 n3:DH K C "entries"
section
variable {P:Av} {w:Am} {K:AW} {mg:AG->Option AF} {base:Ae} {CC CE:AA}
abbrev Rc:Au:=inClass (top 10) 0
abbrev bF:Au:=inClass (top 10) 1
abbrev aj:Au:=inClass (top 10) 2
abbrev VL:Au:=inClass (top 10) 3
abbrev au:Au:=inClass (top 10) 7
abbrev a9:Au:=inClass (top 10) 8
def ADg (CC:AA):Sp:=fun vs H Q _=>∃(p dx:AA) (n:Nat),vs=[.ref p,nI n]/\H p=some (.ins CC dx [])/\∀l,H l=none->Q .non (upd (upd H l (.lst [])) p (.ins CC dx (FE n 0 l)))
theorem ACv:BD ["self","number"] ["self","number"] (As Rc):={}
theorem AEj {H:Hp} {a b:AA} {o u:HO} (h:a≠b):upd (upd H a o) b u=upd (upd H b u) a o:=by
 funext c
 by_cases h1:c=a
 . subst h1
   rw[AV h,AO,AO]
 . by_cases h2:c=b
   . subst h2
     rw[AO,AV h1,AO]
   . rw[AV h2,AV h1,AV h1,AV h2]
theorem AAl {f:AA} {fd:A2} (F:A0 K "__init__" "Centre.__init__" Rc f fd) (T:Cq K CC):Aa P w K mg base Ag 1 f fd ["self","number"] (ADg CC):=by
 refine F.ok ACv (fun vs H Q E h=>?_) (fun Al A outer s H vs Q E hr h=>?_)
 . obtain⟨p,dx,n,rfl,_⟩:=h
   rfl
 . obtain⟨p,dx,n,rfl,hp,k⟩:=h
   refine⟨_,AX (EC (pv 0) (pv 1) rfl) (AX (EC (pv 0) Ax rfl) (Ac (EC (pv 0) (DE AK) rfl))),?_⟩
   refine⟨_,rfl,_,rfl,p,CC,dx,[],rfl,hp,T.cl,T.n1,(by show 0 < 1000;decide),?_⟩
   refine⟨_,rfl,p,CC,dx,_,rfl,AO,T.cl,T.n2,(by show 1 < 1000;decide),?_⟩
   refine⟨Ci _,fun l hl=>?_⟩
   rw[FQ] at hl ⊢
   have hlp:l≠p:=fun e=>by rw[e,AO] at hl;cases hl
   rw[AV hlp] at hl
   refine⟨_,rfl,p,CC,dx,_,rfl,(by rw[AV (Ne.symm hlp),AO]),T.cl,T.n3,(by show 2 < 1000;decide),?_⟩
   rw[AEj (Ne.symm hlp),FQ]
   exact k l hl
def J2 (CC CE:AA):Sp:=fun vs H Q _=>∃(c l:AA) (as:List AA) (n Af:Nat) (es:List Ent),vs=[.ref c]/\Dt CC CE H c l as n Af es/\Q (nI es.length) H
theorem ADF:BD ["self"] ["self"] (As bF):={}
theorem ABZ {f:AA} {fd:A2} (F:A0 K "tick_now" "Centre.tick_now" bF f fd) (T:Cq K CC) (m1:mg "len"=none):Aa P w K mg base Ag 1 f fd ["self"] (J2 CC CE):=by
 refine F.ok ADF (fun vs H Q E h=>?_) (fun Al A outer s H vs Q E hr h=>?_)
 . obtain⟨c,l,as,n,Af,es,rfl,_⟩:=h
   rfl
 . obtain⟨c,l,as,n,Af,es,rfl,⟨⟨dx,hc⟩,hE⟩,q⟩:=h
   refine⟨_,Ac (A4 (Eb F9 (by rfl) m1 F3 (AH (Ay (pv 0) rfl) AK))),?_⟩
   refine⟨_,rfl,c,CC,dx,_,_,rfl,hc,T.cl,T.n3,Er n Af l,l,_,rfl,.inl (AQ.of hE.lst),?_⟩
   rw[AR,Paired.len hE.ent]
   exact q
def Ky (CC CE:AA):Sp:=fun vs H Q _=>∃(c l:AA) (as:List AA) (n Af t:Nat) (es:List Ent),vs=[.ref c,nI t]/\Dt CC CE H c l as n Af es/\∀p,H p=none->Q (.ref p) (upd H p (.lst ((as.take t).map V.ref)))
theorem ACs:BD ["self","tick"] ["self","tick"] (As aj):={}
theorem tL (xs:List V) (t:Nat):HD xs none (some (t:Int))=xs.take t:=by
 unfold HD
 rw[HT.oV,HT.N2,List.drop_zero,Nat.sub_zero]
 rcases Nat.le_total t xs.length with h | h
 . rw[Ox h]
 . rw[Nat.min_eq_right h,LQ,DN h]
theorem AAe {f:AA} {fd:A2} (F:A0 K "at_tick" "Centre.at_tick" aj f fd) (T:Cq K CC):Aa P w K mg base Ag 1 f fd ["self","tick"] (Ky CC CE):=by
 refine F.ok ACs (fun vs H Q E h=>?_) (fun Al A outer s H vs Q E hr h=>?_)
 . obtain⟨c,l,as,n,Af,t,es,rfl,_⟩:=h
   rfl
 . obtain⟨c,l,as,n,Af,t,es,rfl,⟨⟨dx,hc⟩,hE⟩,q⟩:=h
   refine⟨_,Ac (A4 (Nt OI (Ay (pv 0) rfl) MA (II (pv 1)))),?_⟩
   refine⟨_,rfl,c,CC,dx,_,_,rfl,hc,T.cl,T.n3,Er n Af l,_,rfl,_,rfl,l,_,rfl,AQ.of hE.lst,fun p hp=>?_⟩
   rw[tL,<-XO]
   exact q p hp
def Ry (CC CE:AA):Sp:=fun vs H Q _=>∃(c l x:AA) (as:List AA) (n Af:Nat) (es:List Ent) (e:Ent),vs=[.ref c,.ref x]/\Dt CC CE H c l as n Af es/\CY CE H x e/\es.length<=1000/\∀H',Same H H'->Q (.bl (Dy es e)) H'
theorem bZ:BD ["self","entry","own"] ["self","entry"] (As VL):={}
theorem qj (es:List Ent) (e:Ent):(es.map stI).any (fun ms=>decide (ms=stI e))=Dy es e:=by
 unfold Dy
 rw[XF]
 congr 1
 funext x
 show decide (stI x=stI e)=Vbedak.sameStamp e x
 unfold stI Vbedak.sameStamp
 rw[Gz]
 simp
 lia
theorem AA3 {f fs:AA} {fd fds:A2} (F:A0 K "has" "Centre.has" VL f fd) (T:Cq K CC) (TE:FY K CE)
 (Fs:A0 K "stamp_of" "stamp_of" MF fs fds) (bs:Binds K fds ["entry"] []) (ms:mg "stamp_of"=some (.ref fs)):Aa P w K mg base Ag 2 f fd ["self","entry"] (Ry CC CE):=by
 have GS:Aa P w K mg base Ag 1 fs fds ["entry"] (J1 CE):=Ul Fs TE
 refine F.ok bZ (fun vs H Q E h=>?_) (fun Al A outer s H vs Q E hr h=>?_)
 . obtain⟨c,l,x,as,n,Af,es,e,rfl,_⟩:=h
   rfl
 . obtain⟨c,l,x,as,n,Af,es,e,rfl,⟨⟨dx,hc⟩,hE⟩,hx,BV,q⟩:=h
   refine⟨_,Ac (A4 (IG (ABk hr.units) (FN GS hr rfl ms Fs.kp bs .nil CV (AH (pv 1) AK))
    (GP rfl bZ.nd (Dl (Ay (pv 0) rfl)) (Ep (own:=[("own",2)]) (by show EL ["self","entry","own"] (As VL) _ _=true;decide+kernel)) (fun _ _ _ _ _=>CW (i:=2) bZ.nd rfl (Ad rfl)) (fun _ _ _ _ _=>HM)
     (fun _ _ _ _ _=>FN GS hr rfl ms Fs.kp bs .nil CV (AH (pv 2) AK))) (by with_unfolding_all rfl))),?_⟩
   refine⟨_,rfl,x,e,rfl,hx,fun t ht=>?_⟩
   have s1:Same H (upd H t (.tup ((stI e).map V.int))):=Ao ht
   have De:=hE.same s1
   refine⟨_,rfl,c,CC,dx,_,_,rfl,s1 _ _ hc,T.cl,T.n3,Er n Af l,l,rfl,⟨_,AQ.of De.lst⟩,fun D hD=>Fx (K:=K) (a:=l) (xs:=as.map V.ref)
    (fun i H2=>∃ds:List AA,H2 D=some (.lst (ds.map V.ref))/\Same (upd H t (.tup ((stI e).map V.int))) H2/\Xq K H2 ds ((es.take i).map stI))
    ⟨[],AO,Ao hD,.nil⟩ (fun i H2 _ ⟨_,_,s2,_⟩=>AQ.of (s2 _ _ De.lst)) ?_ ?_⟩
   . rintro i y H2 hy ⟨ds,BU,s2,hT⟩
     obtain⟨a,ha,rfl⟩:=EA hy
     obtain⟨e2,he2,FH⟩:=Paired.DJ De.ent ha
     refine⟨rfl,?_⟩
     unfold Gy
     refine A9 ⟨_,rfl,a,e2,rfl,FH.same s2,fun t2 ht2=>?_⟩
     have s3:Same H2 (upd H2 t2 (.tup ((stI e2).map V.int))):=Ao ht2
     have Ce:=s3 _ _ BU
     have hdl:ds.length<=1000:=by
      rw[Paired.len hT,AR,Ct]
      lia
     have up:∀(d:AA) (z:List Int),Ap K (upd H2 t2 (.tup ((stI e2).map V.int))) d (z.map V.int)->Ap K (upd (upd H2 t2 (.tup ((stI e2).map V.int))) D (.lst (ds.map V.ref++[.ref t2]))) d (z.map V.int):=fun d z h=>by
      rcases h with (h | ⟨o,h⟩) | h
      . exact .inl (.inl (by rw[AV (B9 h Ce (by intro e;cases e))];exact h))
      . exact .inl (.inr ⟨o,by rw[AV (B9 h Ce (by intro e;cases e))];exact h⟩)
      . exact .inr h
     refine⟨_,Ce,?_,ds++[t2],?_,fun b o eo=>?_,?_⟩
     . rw[AR]
       exact Fp hdl (by decide)
     . rw[AO,Ba]
       rfl
     . rw[AV (BF eo hD)]
       exact s3 _ _ (s2 _ _ eo)
     . rw[C6 he2,Ba]
       have hT':Ar (fun a ms=>Ap K H2 a (ms.map V.int)) ds ((es.take i).map stI):=hT
       exact Paired.snoc (R:=fun a (ms:List Int)=>Ap K _ a (ms.map V.int)) (up t2 (stI e2) (Ap.of AO)) (Paired.Be hT' fun d z h=>up d z (Ap.same h s3))
   . rintro H2 ⟨ds,BU,s2,hT⟩
     have hl:es.take (as.map V.ref).length=es:=DN (by rw[AR,Paired.len hE.ent];exact Aj _)
     rw[hl] at hT
     refine⟨t,D,ds,stI e,_,rfl,rfl,Ap.of (s2 _ _ AO),AQ.of BU,hT,?_⟩
     have q':=q H2 (s1.trans s2)
     rw[<-qj] at q'
     exact q'
end
def SW (H H':Hp) (c l:AA):Prop:=∀b o,H b=some o->b≠c->b≠l->H' b=some o
theorem CY.L4 {CE:AA} {H:Hp} {a l:AA} {e:Ent} {xs:List V} (h:CY CE H a e) (hl:H l=some (.lst xs)):a≠l:=by
 obtain⟨dx,h⟩:=h
 exact B9 h hl (by intro z;cases z)
theorem uR {e:Ent} {n Af:Nat} {l:AA}:¬HF e=FE n Af l:=fun h=>by
 have:=congrArg D6 h
 exact absurd (show (6:Nat)=3 from this) (by decide)
theorem CY.L3 {CC CE:AA} {H:Hp} {a c l dx:AA} {e:Ent} {n Af:Nat} (h:CY CE H a e) (hc:H c=some (.ins CC dx (FE n Af l))):a≠c:=by
 obtain⟨Le,h⟩:=h
 exact B9 h hc (by intro z;injection z with _ _ z3;exact uR z3)
section
variable {P:Av} {w:Am} {K:AW} {mg:AG->Option AF} {base:Ae} {CC CE:AA}
def bz (CC CE:AA):Sp:=fun vs H Q _=>∃(c l:AA) (as:List AA) (n Af k a b v:Nat) (es:List Ent),vs=[.ref c,nI k,nI a,nI b,nI v]/\Dt CC CE H c l as n Af es/\es.length<=1000/\
 ∀(H':Hp) (x:AA),H x=none->Dt CC CE H' c l (as++[x]) n (Af+1) (es++[⟨Af+1,n,k,a,b,v⟩])->CY CE H' x ⟨Af+1,n,k,a,b,v⟩->SW H H' c l->Q (.ref x) H'
theorem oW:BD ["self","key","a","b","value","entry"] ["self","key","a","b","value"] (As au):={}
theorem AAq {f fI:AA} {fd ER:A2} (F:A0 K "write" "Centre.write" au f fd) (T:Cq K CC) (TE:FY K CE) (M:Mk K CE fI) (mE:mg "Entry"=some (.ref CE))
 (FI:A0 K "__init__" "Entry.__init__" Rf fI ER) (bI:Binds K ER ["self","clock","source","key","from_minute","up_to","value"] []):Aa P w K mg base Ag 3 f fd ["self","key","a","b","value"] (bz CC CE):=by
 have GI:Aa P w K mg base Ag 1 fI ER ["self","clock","source","key","from_minute","up_to","value"] (cH CE):=mx FI TE
 refine F.ok oW (fun vs H Q E h=>?_) (fun Al A outer s H vs Q E hr h=>?_)
 . obtain⟨c,l,as,n,Af,k,a,b,v,es,rfl,_⟩:=h
   rfl
 . obtain⟨c,l,as,n,Af,k,a,b,v,es,rfl,⟨⟨dx,hc⟩,hE⟩,BV,q⟩:=h
   refine⟨_,AX (EC (pv 0) (DF Fz (Ay (pv 0) rfl) Ax) rfl)
    (AX (A5 (i:=5) oW.nd rfl (Ad rfl) (L9 M GI hr rfl mE bI .nil CV (AH (Ay (pv 0) rfl) (AH (Ay (pv 0) rfl) (AH (pv 1) (AH (pv 2) (AH (pv 3) (AH (pv 4) AK))))))))
    (AX (E8 (F0 F2 Hd He HJ (Ay (pv 0) rfl) (AH (pv 5) AK)))
    (Ac (A4 (pv 5))))),?_⟩
   refine⟨_,rfl,c,CC,dx,_,_,rfl,hc,T.cl,T.n2,PH n Af l,_,_,rfl,rfl,_,rfl,c,CC,dx,_,rfl,hc,T.cl,T.n2,(by show 3 < 1000;decide),?_⟩
   have YX:Dm "clock" (V.int ((Af:Int)+1)) (FE n Af l)=FE n (Af+1) l:=rfl
   rw[YX]
   have Ln:l≠c:=B9 hE.lst hc (by intro z;cases z)
   refine⟨_,rfl,c,CC,dx,_,_,rfl,AO,T.cl,T.n2,PH n (Af+1) l,_,rfl,c,CC,dx,_,_,rfl,AO,T.cl,T.n1,hG n (Af+1) l,_,rfl,_,rfl,_,rfl,_,rfl,?_⟩
   intro x ex nx Kp ne
   have hxc:x≠c:=fun z=>by rw[z,AO] at nx;cases nx
   have hexc:ex≠c:=fun z=>by rw[z,AO] at Kp;cases Kp
   rw[AV hxc] at nx
   rw[AV hexc] at Kp
   refine⟨x,ex,⟨Af+1,n,k,a,b,v⟩,rfl,AO,rfl,?_⟩
   rw[FQ]
   generalize hH2:upd (upd (upd H c (.ins CC dx (FE n (Af+1) l))) ex (.own x)) x (.ins CE ex (HF ⟨Af+1,n,k,a,b,v⟩))=H2
   have k2:∀b' o,H b'=some o->b'≠c->H2 b'=some o:=fun b' o e h1=>by
    rw[<-hH2,AV (BF e nx),AV (BF e Kp),AV h1]
    exact e
   have hc2:H2 c=some (.ins CC dx (FE n (Af+1) l)):=by rw[<-hH2,AV (Ne.symm hxc),AV (Ne.symm hexc),AO]
   have hx2:H2 x=some (.ins CE ex (HF ⟨Af+1,n,k,a,b,v⟩)):=by rw[<-hH2,AO]
   have Cw:=k2 _ _ hE.lst Ln
   refine⟨_,rfl,c,CC,dx,_,_,rfl,hc2,T.cl,T.n3,Er n (Af+1) l,.inl ⟨rfl,_,AQ.of Cw⟩,_,rfl,l,_,_,rfl,rfl,Cw,?_,_,rfl,?_⟩
   . rw[AR,Paired.len hE.ent]
     exact Fp BV (by decide)
   have hxl:x≠l:=fun z=>by rw[z,hE.lst] at nx;cases nx
   have ent:∀(a':AA) (e':Ent),CY CE H a' e'->CY CE (upd H2 l (.lst (as.map V.ref++[.ref x]))) a' e':=fun a' e' h=>by
    have h1:=h.L4 hE.lst
    have h2:=h.L3 hc
    obtain⟨d',h⟩:=h
    exact⟨d',by rw[AV h1];exact k2 _ _ h h2⟩
   have UQ:CY CE (upd H2 l (.lst (as.map V.ref++[.ref x]))) x ⟨Af+1,n,k,a,b,v⟩:=⟨ex,by rw[AV hxl];exact hx2⟩
   refine q _ x nx ⟨⟨dx,by rw[AV (Ne.symm Ln)];exact hc2⟩,⟨by rw[AO,Ba];rfl,Paired.snoc UQ (Paired.Be hE.ent ent)⟩⟩ UQ fun b' o e h1 h2=>?_
   rw[AV h2]
   exact k2 _ _ e h1
def Wc (CC CE:AA):Sp:=fun vs H Q _=>∃(c l x:AA) (as:List AA) (n Af:Nat) (es:List Ent) (e:Ent),vs=[.ref c,.ref x]/\Dt CC CE H c l as n Af es/\CY CE H x e/\es.length<=1000/\
 ∀(H':Hp) (as':List AA),Dt CC CE H' c l as' n (FD ⟨Af,es⟩ e).clock (FD ⟨Af,es⟩ e).got->SW H H' c l->Q (nI (if Dy es e=true then 0 else 1)) H'
theorem ADC:BD ["self","entry"] ["self","entry"] (As a9):={}
theorem zu (a b:Nat):V.int (if (b:Int) > (a:Int) then (b:Int) else (a:Int))=nI (max a b):=by
 unfold nI
 congr 1
 rcases Nat.le_total a b with h | h
 . rw[Nat.max_eq_right h]
   split <;> lia
 . rw[Nat.max_eq_left h,if_neg (by lia)]
theorem ABY {f fH:AA} {fd Tr:A2} (F:A0 K "take" "Centre.take" a9 f fd) (T:Cq K CC) (TE:FY K CE) (m1:mg "max"=none)
 (GH:Aa P w K mg base Ag 2 fH Tr ["self","entry"] (Ry CC CE)) (bH:Binds K Tr ["self","entry"] []) (mH:Meth K CC "has" fH):Aa P w K mg base Ag 3 f fd ["self","entry"] (Wc CC CE):=by
 refine F.ok ADC (fun vs H Q E h=>?_) (fun Al A outer s H vs Q E hr h=>?_)
 . obtain⟨c,l,x,as,n,Af,es,e,rfl,_⟩:=h
   rfl
 . obtain⟨c,l,x,as,n,Af,es,e,rfl,hC,hx,BV,q⟩:=h
   obtain⟨⟨dx,hc⟩,hE⟩:=id hC
   refine⟨_,AX (C9 (Gw (IH (pv 0) T.cl mH GH hr bH .nil CV (AH (pv 1) AK))) (Ac (A4 Ax)) DG)
    (AX (E8 (F0 F2 Hd He HJ (Ay (pv 0) rfl) (AH (pv 1) AK)))
    (AX (EC (pv 0) (Eb (sk rfl) (by rfl) m1 PyProof.Rows.boot_max (AH (Ay (pv 0) rfl) (AH (Ay (pv 1) rfl) AK))) rfl)
    (Ac (A4 Ax)))),?_⟩
   refine⟨_,rfl,c,dx,_,rfl,hc,rfl,_,rfl,c,l,x,as,n,Af,es,e,rfl,hC,hx,BV,fun H1 s1=>?_⟩
   refine⟨_,rfl,?_⟩
   cases hb:Dy es e with
   | true=>
    have er:FD ⟨Af,es⟩ e=⟨Af,es⟩:=Vm.oH hb
    rw[er,hb] at q
    exact A9 (q H1 as (hC.same s1) fun b o eo _ _=>s1 _ _ eo)
   | false=>
    have hb':¬Dy es e=true:=by rw[hb];exact Bw
    have er:FD ⟨Af,es⟩ e=⟨max Af e.clock,es++[e]⟩:=Vm.oG hb'
    rw[er,hb] at q
    refine BJ ?_
    have hc1:=s1 _ _ hc
    have De:=hE.same s1
    have Ln:l≠c:=B9 hE.lst hc (by intro z;cases z)
    have hx1:=hx.same s1
    have hxl:=hx1.L4 De.lst
    have hxc:=hx1.L3 hc1
    refine⟨_,rfl,c,CC,dx,_,_,rfl,hc1,T.cl,T.n3,Er n Af l,.inl ⟨rfl,_,AQ.of De.lst⟩,_,rfl,l,_,_,rfl,rfl,De.lst,?_,?_⟩
    . rw[AR,Paired.len hE.ent]
      exact Fp BV (by decide)
    have hc2:(upd H1 l (.lst (as.map V.ref++[.ref x]))) c=some (.ins CC dx (FE n Af l)):=by rw[AV (Ne.symm Ln)];exact hc1
    obtain⟨ex,hxx⟩:=hx1
    have hx2:(upd H1 l (.lst (as.map V.ref++[.ref x]))) x=some (.ins CE ex (HF e)):=by rw[AV hxl];exact hxx
    refine⟨_,rfl,c,CC,dx,_,_,rfl,hc2,T.cl,T.n2,PH n Af l,_,rfl,x,CE,ex,_,_,rfl,hx2,TE.cl,TE.n1,M6 e,_,_,rfl,_,rfl,c,CC,dx,_,rfl,hc2,T.cl,T.n2,(by show 3 < 1000;decide),?_⟩
    rw[zu,tF]
    have ent:∀(a':AA) (e':Ent),CY CE H1 a' e'->CY CE (upd (upd H1 l (.lst (as.map V.ref++[.ref x]))) c (.ins CC dx (FE n (max Af e.clock) l))) a' e':=fun a' e' h=>by
     have h1:=h.L4 De.lst
     have h2:=h.L3 hc1
     obtain⟨d',h⟩:=h
     exact⟨d',by rw[AV h2,AV h1];exact h⟩
    refine q _ (as++[x]) ⟨⟨dx,AO⟩,⟨by rw[AV Ln,AO,Ba];rfl,Paired.snoc (ent x e ⟨ex,hxx⟩) (Paired.Be De.ent ent)⟩⟩ fun b o eo h1 h2=>?_
    rw[AV h1,AV h2]
    exact s1 _ _ eo
end
theorem Paired.take {α β:Type} {R:α->β->Prop}:∀{l:List α} {m:List β} (n:Nat),Ar R l m->Ar R (l.take n) (m.take n)
 | _,_,0,_=>by rw[Ou,Ou];exact .nil
 | _,_,_+1,.nil=>.nil
 | _,_,n+1,.cons r t=>.cons r (Paired.take n t)
theorem M7 {C:AA} {H:Hp} {l p:AA} {as:List AA} {es:List Ent} (h:Hr C H l as es) (n:Nat) (hp:H p=none):Hr C (upd H p (.lst ((as.take n).map V.ref))) p (as.take n) (es.take n):=
 ⟨AO,Paired.take n (Paired.Be h.ent fun a e q=>q.same (Ao hp))⟩
section
variable {P:Av} {w:Am} {K:AW} {mg:AG->Option AF} {base:Ae} {CC CE:AA}
abbrev ao:Au:=inClass (top 10) 4
abbrev aq:Au:=inClass (top 10) 5
abbrev a6:Au:=inClass (top 10) 6
abbrev a7:Au:=inClass (top 10) 9
def Rv (CC CE:AA):Sp:=fun vs H Q _=>∃(c l:AA) (as:List AA) (n Af t k m:Nat) (es:List Ent),vs=[.ref c,nI t,nI k,nI m]/\Dt CC CE H c l as n Af es/\∀H',Same H H'->Q (nI (A3 (es.take t) k m)) H'
theorem ACw:BD ["self","tick","key","minute"] ["self","tick","key","minute"] (As ao):={}
theorem AAn {f:AA} {fd:A2} (F:A0 K "knew" "Centre.knew" ao f fd) (T:Cq K CC) (gV:Gd P w K mg base 3 "value_at" ["entries","key","minute"] (K0 K CE)) (gA:Gm P w K mg base CC 1 "at_tick" ["self","tick"] (Ky CC CE)):
 Aa P w K mg base Ag 4 f fd ["self","tick","key","minute"] (Rv CC CE):=by
 refine F.ok ACw (fun vs H Q E h=>?_) (fun Al A outer s H vs Q E hr h=>?_)
 . obtain⟨c,l,as,n,Af,t,k,m,es,rfl,_⟩:=h
   rfl
 . obtain⟨c,l,as,n,Af,t,k,m,es,rfl,hC,q⟩:=h
   obtain⟨⟨dx,hc⟩,hE⟩:=id hC
   have Bg:BW 1 _:=hr.mono (by decide)
   refine⟨_,Ac (A4 (Bm gV hr rfl (AH (Gu gA T.cl (pv 0) Bg (AH (pv 1) AK)) (AH (pv 2) (AH (pv 3) AK))))),?_⟩
   refine⟨_,rfl,c,dx,_,rfl,hc,rfl,_,rfl,c,l,as,n,Af,t,es,rfl,hC,fun p hp=>?_⟩
   have s0:=Ao (o:=.lst ((as.take t).map V.ref)) hp
   have Iv:=M7 hE t hp
   exact⟨_,rfl,_,rfl,p,_,_,k,m,rfl,Iv.at,fun H1 s1=>q H1 (s0.trans s1)⟩
def Rw (CC CE:AA):Sp:=fun vs H Q _=>∃(c l:AA) (as:List AA) (n Af k m:Nat) (es:List Ent),vs=[.ref c,nI k,nI m]/\Dt CC CE H c l as n Af es/\∀H',Same H H'->Q (nI (A3 es k m)) H'
theorem ACx:BD ["self","key","minute"] ["self","key","minute"] (As aq):={}
theorem AAo {f:AA} {fd:A2} (F:A0 K "knows" "Centre.knows" aq f fd) (T:Cq K CC) (gV:Gd P w K mg base 3 "value_at" ["entries","key","minute"] (K0 K CE)):
 Aa P w K mg base Ag 4 f fd ["self","key","minute"] (Rw CC CE):=by
 refine F.ok ACx (fun vs H Q E h=>?_) (fun Al A outer s H vs Q E hr h=>?_)
 . obtain⟨c,l,as,n,Af,k,m,es,rfl,_⟩:=h
   rfl
 . obtain⟨c,l,as,n,Af,k,m,es,rfl,⟨⟨dx,hc⟩,hE⟩,q⟩:=h
   refine⟨_,Ac (A4 (Bm gV hr rfl (AH (Ay (pv 0) rfl) (AH (pv 1) (AH (pv 2) AK))))),?_⟩
   exact⟨_,rfl,c,CC,dx,_,_,rfl,hc,T.cl,T.n3,Er n Af l,_,rfl,_,rfl,l,as,es,k,m,rfl,hE.at,fun H1 s1=>q H1 s1⟩
def firstV (es:List Ent) (k m v:Nat):V:=match (Ca (es.length+1)).find? fun n=>A3 (es.take n) k m==v with
 | none=>.non
 | some n=>nI n
def WO (CC CE:AA):Sp:=fun vs H Q _=>∃(c l:AA) (as:List AA) (n Af k m v:Nat) (es:List Ent),vs=[.ref c,nI k,nI m,nI v]/\Dt CC CE H c l as n Af es/\es.length<=1000/\∀H',Same H H'->Q (firstV es k m v) H'
theorem oZ:BD ["self","key","minute","value","tick"] ["self","key","minute","value"] (As a6):={}
theorem AAz {f:AA} {fd:A2} (F:A0 K "first_tick" "Centre.first_tick" a6 f fd) (T:Cq K CC) (m1:mg "range"=none) (gK:Gm P w K mg base CC 4 "knew" ["self","tick","key","minute"] (Rv CC CE)) (gT:Gm P w K mg base CC 1 "tick_now" ["self"] (J2 CC CE)):
 Aa P w K mg base Ag 5 f fd ["self","key","minute","value"] (WO CC CE):=by
 refine F.ok oZ (fun vs H Q E h=>?_) (fun Al A outer s H vs Q E hr h=>?_)
 . obtain⟨c,l,as,n,Af,k,m,v,es,rfl,_⟩:=h
   rfl
 . obtain⟨c,l,as,n,Af,k,m,v,es,rfl,hC,BV,q⟩:=h
   obtain⟨⟨dx,hc⟩,hE⟩:=id hC
   have Bg:BW 1 _:=hr.mono (by decide)
   refine⟨_,AX (El PassesOwn.never rfl (aH rfl m1 (AH (DF Fz (Ut gT T.cl (pv 0) Bg) Ax) AK)) (CW (i:=4) oZ.nd rfl (Ad rfl))
    (Ac (C9 (DY Fh (Gu gK T.cl (pv 0) hr (AH (pv 4) (AH (pv 1) (AH (pv 2) AK)))) (pv 3) (Cy _)) (Ac (A4 (pv 4))) DG)))
    (Ac (A4 nT)),?_⟩
   refine⟨_,rfl,c,dx,_,rfl,hc,rfl,c,l,as,n,Af,es,rfl,hC,_,_,rfl,rfl,_,rfl,?_,?_,?_⟩
   . show -(2 ^ 62)<=(es.length:Int)+1
     lia
   . show (es.length:Int)+1 < 2 ^ 62
     lia
   have en:((es.length:Int)+1).toNat=es.length+1:=by lia
   show ∃W:Nat->Nat->L2.St->Hp->Prop,_
   rw[en]
   refine Qg (lo:=0) (n:=es.length+1) (fun i σ H'=>∃z:Option V,σ=[some (.ref c),some (nI k),some (nI m),some (nI v),z]/\Same H H'/\∀j,j < i->(A3 (es.take j) k m==v)=false)
    ⟨none,rfl,Same.refl H,fun j hj=>absurd hj (Oy _)⟩ ?_ ?_
   . rintro i σ H' hi ⟨z,rfl,s1,hno⟩
     have e0:V.int (0+(i:Int))=nI i:=by unfold nI;rw[XB]
     rw[e0]
     refine⟨_,rfl,c,dx,_,rfl,s1 _ _ hc,rfl,_,rfl,_,rfl,_,rfl,c,l,as,n,Af,i,k,m,es,rfl,hC.same s1,fun H2 s2=>?_⟩
     refine⟨_,rfl,rfl,_,rfl,?_⟩
     rw[Hz]
     cases hb:(A3 (es.take i) k m==v) with
     | true=>
      refine A9 ⟨_,rfl,?_⟩
      have ef:firstV es k m v=nI i:=by
       unfold firstV
       rw[Vm.uw (fun n=>A3 (es.take n) k m==v) (es.length+1) i hi hno hb]
      have q':=q H2 (s1.trans s2)
      rw[ef] at q'
      exact q'
     | false=>
      refine BJ ⟨some (nI i),rfl,s1.trans s2,fun j hj=>?_⟩
      rcases Ow j i with h1 | h1
      . exact hno j h1
      . have:j=i:=by lia
        rw[this]
        exact hb
   . rintro σ H' ⟨z,rfl,s1,hno⟩
     have ef:firstV es k m v= .non:=by
      unfold firstV
      rw[Vm.find_none (fun n=>A3 (es.take n) k m==v) (es.length+1) hno]
     have q':=q H' s1
     rw[ef] at q'
     exact q'
def newOf (Af n k:Nat) (ts:List (Nat×Nat×Nat)):List Ent:=(ts.zip (Ca ts.length)).map fun p=>⟨Af+1+p.2,n,k,p.1.1,p.1.2.1,p.1.2.2⟩
def Xn (K:AW) (H:Hp) (a:AA) (t:Nat×Nat×Nat):Prop:=AQ K H a [nI t.1,nI t.2.1,nI t.2.2]
def cO (K:AW) (CC CE:AA):Sp:=fun vs H Q _=>∃(c l q0:AA) (as ss:List AA) (n Af k:Nat) (es:List Ent) (ts:List (Nat×Nat×Nat)),vs=[.ref c,nI k,.ref q0]/\Dt CC CE H c l as n Af es/\AQ K H q0 (ss.map V.ref)/\Ar (Xn K H) ss ts/\
 es.length+ts.length<=2000/\Af<=1000000/\∀(H':Hp) (p:AA) (as':List AA),Same H H'->H p=none->Hr CE H' p as' (es++newOf Af n k ts)->Q (.ref p) H'
theorem Vy:BD ["self","key","strokes","would_have","clock","stroke"] ["self","key","strokes"] (As a7):={}
theorem rS:bootBuiltins "list"=some (.type "list"):=by decide+kernel
theorem AAJ (Af n k:Nat) (ts:List (Nat×Nat×Nat)) {i:Nat} {t:Nat×Nat×Nat} (h:ts[i]? =some t):(newOf Af n k ts)[i]? =some ⟨Af+1+i,n,k,t.1,t.2.1,t.2.2⟩:=by
 have hi:i < ts.length:=(Fo.mp h).1
 unfold newOf
 rw[CM,(XM (z:=(t,i))).mpr ⟨h,XJ hi⟩]
 rfl
theorem Z3 (Af n k:Nat) (ts:List (Nat×Nat×Nat)):(newOf Af n k ts).length=ts.length:=by
 unfold newOf
 rw[AR,LM,Mf,eQ]
theorem AA7 {f fI:AA} {fd ER:A2} (F:A0 K "entries_if_written" "Centre.entries_if_written" a7 f fd) (T:Cq K CC) (TE:FY K CE) (M:Mk K CE fI) (mE:mg "Entry"=some (.ref CE)) (m1:mg "list"=none) (m2:mg "enumerate"=none)
 (FI:A0 K "__init__" "Entry.__init__" Rf fI ER) (bI:Binds K ER ["self","clock","source","key","from_minute","up_to","value"] []):Aa P w K mg base Ag 3 f fd ["self","key","strokes"] (cO K CC CE):=by
 have GI:Aa P w K mg base Ag 1 fI ER ["self","clock","source","key","from_minute","up_to","value"] (cH CE):=mx FI TE
 refine F.ok Vy (fun vs H Q E h=>?_) (fun Al A outer s H vs Q E hr h=>?_)
 . obtain⟨c,l,q0,as,ss,n,Af,k,es,ts,rfl,_⟩:=h
   rfl
 . obtain⟨c,l,q0,as,ss,n,Af,k,es,ts,rfl,⟨⟨dx,hc⟩,hE⟩,hS,hP,BV,jw,q⟩:=h
   refine⟨_,AX (A5 (i:=3) Vy.nd rfl (Ad rfl) (Z9 sj rfl m1 rS (AH (Ay (pv 0) rfl) AK)))
    (AX (El PassesOwn.never rfl (ABy rfl m2 (AH (pv 2) AK) (DF Fz (Ay (pv 0) rfl) Ax)) (aD rfl (Nu (CW (i:=4) Vy.nd rfl (Ad rfl)) (Nu (CW (i:=5) Vy.nd rfl (Ad rfl)) aE)))
     (Ac (E8 (F0 F2 Hd He HJ (pv 3)
      (AH (L9 M GI hr rfl mE bI .nil CV (AH (pv 4) (AH (Ay (pv 0) rfl) (AH (pv 1) (AH (Br Df (pv 5) Ax) (AH (Br Df (pv 5) Ax) (AH (Br Df (pv 5) Ax) AK))))))) AK)))))
    (Ac (A4 (pv 3)))),?_⟩
   refine⟨_,rfl,c,CC,dx,_,_,rfl,hc,T.cl,T.n3,Er n Af l,l,_,rfl,.inl (AQ.of hE.lst),fun p hp=>?_⟩
   have s0:Same H (upd H p (.lst (as.map V.ref))):=Ao hp
   have hl1:=Paired.len hE.ent
   have Cw:=Paired.len hP
   refine⟨_,rfl,_,rfl,c,CC,dx,_,_,rfl,s0 _ _ hc,T.cl,T.n2,PH n Af l,_,_,rfl,rfl,q0,_,_,rfl,rfl,?_,?_,s0.seq hS,vF (K:=K) (a:=q0) (xs:=ss.map V.ref)
    (fun i σ H'=>∃(z1 z2:Option V) (as':List AA),σ=[some (.ref c),some (nI k),some (.ref q0),some (.ref p),z1,z2]/\Same H H'/\H' p=some (.lst ((as++as').map V.ref))/\Ar (CY CE H') as' ((newOf Af n k ts).take i))
    ⟨none,none,[],rfl,s0,(by rw[AO,EG]),.nil⟩ (fun i σ H' _ ⟨_,_,_,_,s1,_⟩=>s1.seq hS) ?_ ?_⟩
   . show -(2 ^ 62)<=(Af:Int)+1
     lia
   . show (Af:Int)+1 < 2 ^ 62
     lia
   . rintro i x U σ H1 hx ⟨z1,z2,as',rfl,s1,C5,hA⟩ hU
     obtain⟨a1,ha1,rfl⟩:=EA hx
     obtain⟨t,ht,BG⟩:=Paired.DJ hP ha1
     have uE:V.int ((Af:Int)+1+(i:Int))=nI (Af+1+i):=by unfold nI;congr 1
     have sU:Same H1 (upd H1 U (.tup [.int ((Af:Int)+1+(i:Int)),.ref a1])):=Ao hU
     have hst':AQ K (upd H1 U (.tup [.int ((Af:Int)+1+(i:Int)),.ref a1])) a1 [nI t.1,nI t.2.1,nI t.2.2]:=sU.seq (s1.seq BG)
     have kU:=sU _ _ C5
     refine⟨U,_,rfl,Ap.of AO,rfl,_,_,rfl,_,_,rfl,rfl,?_⟩
     refine⟨_,rfl,.inl ⟨rfl,_,AQ.of kU⟩,_,rfl,_,rfl,c,CC,dx,_,_,rfl,sU _ _ (s1 _ _ hc),T.cl,T.n1,hG n Af l,_,rfl,_,rfl,a1,_,_,_,rfl,rfl,hst',rfl,_,rfl,a1,_,_,_,rfl,rfl,hst',rfl,_,rfl,a1,_,_,_,rfl,rfl,hst',rfl,?_⟩
     intro xx ex nx Kp ne
     refine⟨xx,ex,⟨Af+1+i,n,k,t.1,t.2.1,t.2.2⟩,?_,AO,rfl,?_⟩
     . rw[uE]
       rfl
     rw[FQ]
     generalize hH2:upd (upd (upd H1 U (.tup [.int ((Af:Int)+1+(i:Int)),.ref a1])) ex (.own xx)) xx (.ins CE ex (HF ⟨Af+1+i,n,k,t.1,t.2.1,t.2.2⟩))=H2
     have s2:Same (upd H1 U (.tup [.int ((Af:Int)+1+(i:Int)),.ref a1])) H2:=fun b' o e=>by
      rw[<-hH2,AV (BF e nx),AV (BF e Kp)]
      exact e
     have hx2:CY CE H2 xx ⟨Af+1+i,n,k,t.1,t.2.1,t.2.2⟩:=⟨ex,by rw[<-hH2,AO]⟩
     have hp2:=s2 _ _ kU
     have hal:as'.length<=ts.length:=by
      rw[Paired.len hA,Ct,Z3]
      lia
     have up:∀(d:AA) (e':Ent),CY CE H2 d e'->CY CE (upd H2 p (.lst ((as++as').map V.ref++[.ref xx]))) d e':=fun d e' h=>by
      have h1:=h.L4 hp2
      obtain⟨d',h⟩:=h
      exact⟨d',by rw[AV h1];exact h⟩
     refine⟨p,_,_,rfl,rfl,hp2,?_,some (.int ((Af:Int)+1+(i:Int))),some (.ref a1),as'++[xx],rfl,fun b' o e=>?_,?_,?_⟩
     . rw[AR,BZ]
       have:AZ=16777216:=Dn
       lia
     . rw[AV (BF e hp)]
       exact s2 _ _ (sU _ _ (s1 _ _ e))
     . rw[AO,<-Ha,Ba (l₁:=as++as')]
       rfl
     . rw[C6 (AAJ Af n k ts ht)]
       exact Paired.snoc (up _ _ hx2) (Paired.Be hA fun d e' h=>up d e' ((h.same sU).same s2))
   . rintro σ H1 ⟨z1,z2,as',rfl,s1,C5,hA⟩
     have DK:(newOf Af n k ts).take (ss.map V.ref).length=newOf Af n k ts:=DN (by rw[AR,Z3,Cw];exact Aj _)
     rw[DK] at hA
     exact⟨_,rfl,q H1 p (as++as') s1 hp ⟨C5,Paired.append (Paired.Be hE.ent fun a e h=>h.same s1) hA⟩⟩
end
open Vm (A7)
abbrev Dec:=Vbedak.Decision
abbrev BI:=Vbedak.State
def Je (e:Dec):List (AG×V):=[("number",nI e.num),("centre",nI e.by_),("tick",nI e.tick),("key",nI e.key),("minute",nI e.min)]
def G4 (C:AA) (H:Hp) (a:AA) (e:Dec):Prop:=∃dx,H a=some (.ins C dx (Je e))
theorem G4.same {C:AA} {H H':Hp} {a:AA} {e:Dec} (h:G4 C H a e) (s:Same H H'):G4 C H' a e:=let ⟨dx,q⟩:=h;⟨dx,s _ _ q⟩
def GK (D L:AA) (wr:Nat):List (AG×V):=[("centres",.ref D),("decisions",.ref L),("written",nI wr)]
theorem DW (D L:AA) (wr:Nat):(GK D L wr).lookup ("centres":AG)=some (.ref D):=rfl
theorem TR (D L:AA) (wr:Nat):(GK D L wr).lookup ("decisions":AG)=some (.ref L):=rfl
theorem iV (D L:AA) (wr:Nat):(GK D L wr).lookup ("written":AG)=some (nI wr):=rfl
theorem iP (e:Dec):(Je e).lookup ("number":AG)=some (nI e.num):=rfl
theorem tV (e:Dec):(Je e).lookup ("centre":AG)=some (nI e.by_):=rfl
theorem tW (e:Dec):(Je e).lookup ("tick":AG)=some (nI e.tick):=rfl
theorem iN (e:Dec):(Je e).lookup ("key":AG)=some (nI e.key):=rfl
theorem iO (e:Dec):(Je e).lookup ("minute":AG)=some (nI e.min):=rfl
structure Dk where
 D:AA
 L:AA
 c:Nat->AA
 l:Nat->AA
 a:Nat->List AA
 ds:List AA
structure Cl where
 CE:AA
 CC:AA
 CN:AA
 CD:AA
def iW (k:Dk):List (Key×V):=[(.inl 1,.ref (k.c 1)),(.inl 2,.ref (k.c 2)),(.inl 3,.ref (k.c 3))]
structure Bc (W:Cl) (H:Hp) (d:AA) (k:Dk) (s:BI):Prop where
 ins:∃dx,H d=some (.ins W.CD dx (GK k.D k.L (Fb s)))
 Gp:H k.D=some (.dK (iW k))
 BR:∀i,A7 i->Dt W.CC W.CE H (k.c i) (k.l i) (k.a i) i (CZ s i).clock (Vm.got s i)
 lst:H k.L=some (.lst (k.ds.map V.ref))
 dec:Ar (G4 W.CN H) k.ds s.decisions
 ap:∀i j,A7 i->A7 j->i≠j->k.l i≠k.l j
 Mu:∀i,A7 i->k.l i≠k.L
 good:Vm.Good s
def E2 (k:Dk) (d b:AA):Prop:=b=d\/b=k.D\/b=k.L\/ ∃i,A7 i/\(b=k.c i\/b=k.l i)
theorem Bc.same {W:Cl} {H H':Hp} {d:AA} {k:Dk} {s:BI} (h:Bc W H d k s) (e:Same H H'):Bc W H' d k s:=
 ⟨let ⟨dx,q⟩:=h.ins;⟨dx,e _ _ q⟩,e _ _ h.Gp,fun i hi=>(h.BR i hi).same e,e _ _ h.lst,Paired.Be h.dec fun a x q=>q.same e,h.ap,h.Mu,h.good⟩
theorem YK (k:Dk) {i:Nat} (hi:A7 i):Bq (iW k) (Di (i:Int))=some (.ref (k.c i)):=by
 rcases hi with h | h | h <;> subst h <;> rfl
theorem tE {i j Af TH:Nat} {l l':AA} (h:i≠j):¬FE i Af l=FE j TH l':=fun e=>by
 have e1:nI i=nI j:=congrArg Sv (List.cons.inj e).1
 unfold nI at e1
 have:=V.int.inj e1
 lia
theorem Bc.ro {W:Cl} {H:Hp} {d:AA} {k:Dk} {s:BI} (h:Bc W H d k s) {i j:Nat} (hi:A7 i) (hj:A7 j) (ne:i≠j):k.c i≠k.c j:=by
 obtain⟨dx,h1⟩:=(h.BR i hi).ins
 obtain⟨dy,h2⟩:=(h.BR j hj).ins
 exact B9 h1 h2 (by intro z;injection z with _ _ z3;exact tE ne z3)
theorem Bc.YH {W:Cl} {H:Hp} {d:AA} {k:Dk} {s:BI} (h:Bc W H d k s) {i:Nat} (hi:A7 i):d≠k.c i:=by
 obtain⟨dx,h1⟩:=(h.BR i hi).ins
 obtain⟨dy,h2⟩:=h.ins
 refine B9 h2 h1 ?_
 intro z
 injection z with _ _ z3
 exact absurd (show ("centres":AG)="number" from congrArg O2 (List.cons.inj z3).1) (by decide+kernel)
theorem G4.L3 {C CC:AA} {H:Hp} {a c l dx:AA} {e:Dec} {n Af:Nat} (h:G4 C H a e) (hc:H c=some (.ins CC dx (FE n Af l))):a≠c:=by
 obtain⟨Le,h⟩:=h
 refine B9 h hc ?_
 intro z
 injection z with _ _ z3
 exact absurd (show (5:Nat)=3 from congrArg D6 z3) (by decide)
theorem G4.Ug {C CD:AA} {H:Hp} {a d D L dx:AA} {e:Dec} {wr:Nat} (h:G4 C H a e) (hc:H d=some (.ins CD dx (GK D L wr))):a≠d:=by
 obtain⟨Le,h⟩:=h
 refine B9 h hc ?_
 intro z
 injection z with _ _ z3
 exact absurd (show (5:Nat)=3 from congrArg D6 z3) (by decide)
theorem CY.Ug {C CD:AA} {H:Hp} {a d D L dx:AA} {e:Ent} {wr:Nat} (h:CY C H a e) (hc:H d=some (.ins CD dx (GK D L wr))):a≠d:=by
 obtain⟨Le,h⟩:=h
 refine B9 h hc ?_
 intro z
 injection z with _ _ z3
 exact absurd (show (6:Nat)=3 from congrArg D6 z3) (by decide)
theorem Bc.put {W:Cl} {H H':Hp} {d:AA} {k:Dk} {s s':BI} (h:Bc W H d k s) {i:Nat} (hi:A7 i) {as:List AA} {x:Vbedak.Centre} (hs:s'=Hy s i x) (g:Vm.Good s')
 (hc:Dt W.CC W.CE H' (k.c i) (k.l i) as i x.clock x.got) (hd:∃dx,H' d=some (.ins W.CD dx (GK k.D k.L (Fb s')))) (fr:∀b o,H b=some o->b≠d->b≠k.c i->b≠k.l i->H' b=some o):
 Bc W H' d { k with a:=fun j=>if j=i then as else k.a j } s':=by
 obtain⟨dx0,hc0⟩:=(h.BR i hi).ins
 obtain⟨dd0,hd0⟩:=h.ins
 have hl0:=(h.BR i hi).ents.lst
 have eC:∀j,A7 j->CZ s' j=if j=i then x else CZ s j:=fun j hj=>by rw[hs];exact Vm.Mx h.good.three hi hj x
 refine⟨hd,fr _ _ h.Gp ?_ ?_ ?_,fun j hj=>?_,fr _ _ h.lst ?_ ?_ ?_,?_,h.ap,h.Mu,g⟩
 . exact B9 h.Gp hd0 (by intro z;cases z)
 . exact B9 h.Gp hc0 (by intro z;cases z)
 . exact B9 h.Gp hl0 (by intro z;cases z)
 . show Dt W.CC W.CE H' (k.c j) (k.l j) (if j=i then as else k.a j) j (CZ s' j).clock (CZ s' j).got
   rw[eC j hj]
   by_cases e:j=i
   . subst e
     rw[if_pos rfl,if_pos rfl]
     exact hc
   . rw[if_neg e,if_neg e]
     obtain⟨⟨dx,h1⟩,hE⟩:=h.BR j hj
     refine⟨⟨dx,fr _ _ h1 (Ne.symm (h.YH hj)) (h.ro hj hi e) (B9 h1 hl0 (by intro z;cases z))⟩,⟨fr _ _ hE.lst (B9 hE.lst hd0 (by intro z;cases z)) (B9 hE.lst hc0 (by intro z;cases z)) (h.ap j i hj hi e),Paired.Be hE.ent fun a' e' q=>?_⟩⟩
     have q1:=q.Ug hd0
     have q2:=q.L3 hc0
     have q3:=q.L4 hl0
     obtain⟨dq,q⟩:=q
     exact⟨dq,fr _ _ q q1 q2 q3⟩
 . exact B9 h.lst hd0 (by intro z;cases z)
 . exact B9 h.lst hc0 (by intro z;cases z)
 . exact Ne.symm (h.Mu i hi)
 . have ed:s'.decisions=s.decisions:=by rw[hs];rfl
   rw[ed]
   refine Paired.Be h.dec fun a' e' q=>?_
   have q1:=q.Ug hd0
   have q2:=q.L3 hc0
   obtain⟨dq,q⟩:=q
   exact⟨dq,fr _ _ q q1 q2 (B9 q hl0 (by intro z;cases z))⟩
structure DI (K:AW) (C:AA):Prop where
 cl:FU K C
 n1:DH K C "centres"
 n2:DH K C "decisions"
 n3:DH K C "written"
structure O5 (K:AW) (C:AA):Prop where
 cl:FU K C
 n1:DH K C "number"
 n2:DH K C "centre"
 n3:DH K C "tick"
 n4:DH K C "key"
 n5:DH K C "minute"
section
variable {P:Av} {w:Am} {K:AW} {mg:AG->Option AF} {base:Ae} {W:Cl}
abbrev Vd:Au:=inClass (top 11) 0
abbrev ay:Au:=inClass (top 12) 0
abbrev ak:Au:=inClass (top 12) 1
abbrev az:Au:=inClass (top 12) 2
abbrev aw:Au:=inClass (top 12) 3
abbrev VM:Au:=inClass (top 12) 4
def o8 (C:AA):Sp:=fun vs H Q _=>∃(p dx:AA) (e:Dec),vs=[.ref p,nI e.num,nI e.by_,nI e.tick,nI e.key,nI e.min]/\H p=some (.ins C dx [])/\Q .non (upd H p (.ins C dx (Je e)))
theorem AC9:BD ["self","number","centre","tick","key","minute"] ["self","number","centre","tick","key","minute"] (As Vd):={}
theorem ABM {f C:AA} {fd:A2} (F:A0 K "__init__" "Decision.__init__" Vd f fd) (T:O5 K C):Aa P w K mg base Ag 1 f fd ["self","number","centre","tick","key","minute"] (o8 C):=by
 refine F.ok AC9 (fun vs H Q E h=>?_) (fun Al A outer s H vs Q E hr h=>?_)
 . obtain⟨p,dx,e,rfl,_⟩:=h
   rfl
 . obtain⟨p,dx,e,rfl,hp,k⟩:=h
   refine⟨_,AX (EC (pv 0) (pv 1) rfl) (AX (EC (pv 0) (pv 2) rfl) (AX (EC (pv 0) (pv 3) rfl) (AX (EC (pv 0) (pv 4) rfl) (Ac (EC (pv 0) (pv 5) rfl))))),?_⟩
   refine⟨_,rfl,_,rfl,p,C,dx,[],rfl,hp,T.cl,T.n1,(by show 0 < 1000;decide),?_⟩
   refine⟨_,rfl,_,rfl,p,C,dx,_,rfl,AO,T.cl,T.n2,(by show 1 < 1000;decide),?_⟩
   refine⟨_,rfl,_,rfl,p,C,dx,_,rfl,AO,T.cl,T.n3,(by show 2 < 1000;decide),?_⟩
   refine⟨_,rfl,_,rfl,p,C,dx,_,rfl,AO,T.cl,T.n4,(by show 3 < 1000;decide),?_⟩
   refine⟨_,rfl,_,rfl,p,C,dx,_,rfl,AO,T.cl,T.n5,(by show 4 < 1000;decide),?_⟩
   rw[FQ,FQ,FQ,FQ]
   exact k
def o6 (W:Cl):Sp:=fun vs H Q _=>∃(p dx:AA) (n:Nat),vs=[.ref p,nI n]/\H p=some (.ins W.CC dx [])/\∀(H':Hp) (l:AA),H l=none->Dt W.CC W.CE H' p l [] n 0 []->(∀b o,H b=some o->b≠p->H' b=some o)->Q .non H'
theorem AAm {f:AA} {fd:A2} (F:A0 K "__init__" "Centre.__init__" Rc f fd) (T:Cq K W.CC):Aa P w K mg base Ag 1 f fd ["self","number"] (o6 W):=by
 refine (AAl F T).imp fun vs H Q E h=>?_
 obtain⟨p,dx,n,rfl,hp,k⟩:=h
 refine⟨p,dx,n,rfl,hp,fun l hl=>?_⟩
 have hlp:l≠p:=fun e=>by rw[e,hp] at hl;cases hl
 refine k _ l hl ⟨⟨dx,AO⟩,⟨by rw[AV hlp,AO];rfl,.nil⟩⟩ fun b o e h1=>?_
 rw[AV h1,AV (BF e hl)]
 exact e
def WC (W:Cl):Sp:=fun vs H Q _=>∃(p dx:AA) (fs:List (AG×V)),vs=[.ref p]/\H p=some (.ins W.CD dx fs)/\(fs=[]\/ ∃D L wr,fs=GK D L wr)/\
 ∀(H':Hp) (k:Dk),Bc W H' p k Ds->(∀b o,H b=some o->b≠p->H' b=some o)->(∀b,E2 k p b->b=p\/H b=none)->Q .non H'
theorem ACt:BD ["self"] ["self"] (As ak):={}
theorem AAf {f fI:AA} {fd ER:A2} (F:A0 K "begin" "Desk.begin" ak f fd) (T:DI K W.CD) (TC:Cq K W.CC) (M:Mk K W.CC fI) (mC:mg "Centre"=some (.ref W.CC))
 (FI:A0 K "__init__" "Centre.__init__" Rc fI ER) (bI:Binds K ER ["self","number"] []):Aa P w K mg base Ag 3 f fd ["self"] (WC W):=by
 have GI:Aa P w K mg base Ag 1 fI ER ["self","number"] (o6 W):=AAm FI TC
 refine F.ok ACt (fun vs H Q E h=>?_) (fun Al A outer s H vs Q E hr h=>?_)
 . obtain⟨p,dx,fs,rfl,_⟩:=h
   rfl
 . obtain⟨p,dx,fs,rfl,hp,hfs,q⟩:=h
   refine⟨_,AX (EC (pv 0) (ABs (aI Ax (L9 M GI hr rfl mC bI .nil CV (AH Ax AK)) (aI Ax (L9 M GI hr rfl mC bI .nil CV (AH Ax AK)) (aI Ax (L9 M GI hr rfl mC bI .nil CV (AH Ax AK)) ACO))) rfl rfl (by intro z;cases z) (by decide)) rfl)
    (AX (EC (pv 0) (DE AK) rfl) (Ac (EC (pv 0) Ax rfl))),?_⟩
   intro D hD
   have sD:Same H (upd H D (.dK [])):=Ao hD
   intro x1 e1 n1 m1 ne1
   refine⟨x1,e1,1,rfl,AO,fun H1 l1 hl1 c1 k1=>⟨rfl,?_⟩⟩
   have s1:Same (upd H D (.dK [])) H1:=Same.made n1 m1 k1
   intro x2 e2 n2 m2 ne2
   refine⟨x2,e2,2,rfl,AO,fun H2 l2 Cw c2 k2=>⟨rfl,?_⟩⟩
   have s2:Same H1 H2:=Same.made n2 m2 k2
   intro x3 e3 n3 m3 ne3
   refine⟨x3,e3,3,rfl,AO,fun H3 l3 hl3 c3 k3=>⟨rfl,?_⟩⟩
   have s3:Same H2 H3:=Same.made n3 m3 k3
   have fr:∀{G:Hp} {x e l:AA} {o:HO},(upd (upd G e (.own x)) x o) l=none->G l=none:=fun {G x e l o} h=>by
    have h1:l≠x:=fun z=>by rw[z,AO] at h;cases h
    rw[AV h1] at h
    have h2:l≠e:=fun z=>by rw[z,AO] at h;cases h
    rwa[AV h2] at h
   have f1:=fr hl1
   have f2:=fr Cw
   have f3:=fr hl3
   have Nz:=s1.trans (s2.trans s3)
   have VH:Same H H3:=sD.trans Nz
   have Ce:H3 D=some (.dK []):=Nz _ _ AO
   refine⟨Ce,[(.inl 1,.ref x1),(.inl 2,.ref x2),(.inl 3,.ref x3)],rfl,(by show 3<=15;decide),?_⟩
   have uL:Nk [] [((Di 1:Key),V.ref x1),(Di 2,V.ref x2),(Di 3,V.ref x3)]=[(.inl 1,.ref x1),(.inl 2,.ref x2),(.inl 3,.ref x3)]:=rfl
   rw[uL]
   have C1:=(c1.same s2).same s3
   have C2:=c2.same s3
   have Qr:D≠p:=fun z=>by rw[z,hp] at hD;cases hD
   have hp3:(upd H3 D (.dK [(.inl 1,.ref x1),(.inl 2,.ref x2),(.inl 3,.ref x3)])) p=some (.ins W.CD dx fs):=by rw[AV (Ne.symm Qr)];exact VH _ _ hp
   have BV:fs.length < 1000:=by
    rcases hfs with z | ⟨D',L',wr,z⟩
    . rw[z];decide
    . rw[z];show 3 < 1000;decide
   refine⟨_,rfl,p,W.CD,dx,fs,rfl,hp3,T.cl,T.n1,BV,?_⟩
   refine⟨Ci _,fun L hL=>?_⟩
   have Y3:L≠p:=fun z=>by rw[z,AO] at hL;cases hL
   rw[AV Y3] at hL
   have hLD:L≠D:=fun z=>by rw[z,AO] at hL;cases hL
   rw[AV hLD] at hL
   have hl1':(Dm "centres" (.ref D) fs).length < 1000:=by
    rcases hfs with z | ⟨D',L',wr,z⟩
    . rw[z];show 1 < 1000;decide
    . rw[z];show 3 < 1000;decide
   refine⟨_,rfl,p,W.CD,dx,_,rfl,(by rw[AV (Ne.symm Y3),AO]),T.cl,T.n2,hl1',?_⟩
   have hl2':(Dm "decisions" (.ref L) (Dm "centres" (.ref D) fs)).length < 1000:=by
    rcases hfs with z | ⟨D',L',wr,z⟩
    . rw[z];show 2 < 1000;decide
    . rw[z];show 3 < 1000;decide
   refine⟨_,rfl,p,W.CD,dx,_,rfl,AO,T.cl,T.n3,hl2',?_⟩
   have uG:Dm "written" (.int 0) (Dm "decisions" (.ref L) (Dm "centres" (.ref D) fs))=GK D L 0:=by
    rcases hfs with z | ⟨D',L',wr,z⟩
    . rw[z];rfl
    . rw[z];rfl
   rw[uG,FQ]
   generalize Ki:upd (upd (upd (upd H3 D (.dK [(.inl 1,.ref x1),(.inl 2,.ref x2),(.inl 3,.ref x3)])) p (.ins W.CD dx (Dm "centres" (.ref D) fs))) L (.lst [])) p (.ins W.CD dx (GK D L 0))=H4
   have k4:∀b o,H3 b=some o->b≠p->b≠D->H4 b=some o:=fun b o e h1 h2=>by
    rw[<-Ki,AV h1,AV (BF e hL),AV h1,AV h2]
    exact e
   have x6:H4 p=some (.ins W.CD dx (GK D L 0)):=by rw[<-Ki,AO]
   have wg:H4 D=some (.dK [(.inl 1,.ref x1),(.inl 2,.ref x2),(.inl 3,.ref x3)]):=by rw[<-Ki,AV Qr,AV (Ne.symm hLD),AV Qr,AO]
   have wy:H4 L=some (.lst []):=by rw[<-Ki,AV Y3,AO]
   have xu:H3 p=some (.ins W.CD dx fs):=VH _ _ hp
   have X7:∀{x l:AA} {n:Nat},Dt W.CC W.CE H3 x l [] n 0 []->x≠p->Dt W.CC W.CE H4 x l [] n 0 []:=fun {x l n} c hx=>by
    obtain⟨⟨dy,h1⟩,hE⟩:=c
    exact⟨⟨dy,k4 _ _ h1 hx (B9 h1 Ce (by intro z;cases z))⟩,⟨k4 _ _ hE.lst (B9 hE.lst xu (by intro z;cases z)) (B9 hE.lst Ce (by intro z;cases z)),.nil⟩⟩
   have np:∀{x:AA},H x=none->x≠p:=fun {x} h z=>by rw[z,hp] at h;cases h
   have g1:H x1=none:=sD.free n1
   have g2:H x2=none:=(sD.trans s1).free n2
   have g3:H x3=none:=(sD.trans (s1.trans s2)).free n3
   have j1:H l1=none:=sD.free f1
   have j2:H l2=none:=(sD.trans s1).free f2
   have j3:H l3=none:=(sD.trans (s1.trans s2)).free f3
   have UW:l1≠l2:=BF c1.ents.lst f2
   have UX:l1≠l3:=BF (s2 _ _ c1.ents.lst) f3
   have lM:l2≠l3:=BF c2.ents.lst f3
   refine q H4 ⟨D,L,fun i=>if i=1 then x1 else if i=2 then x2 else x3,fun i=>if i=1 then l1 else if i=2 then l2 else l3,fun _=>[],[]⟩ ⟨⟨dx,x6⟩,wg,fun i hi=>?_,wy,.nil,fun i j hi hj hij=>?_,fun i hi=>?_,Vm.wW⟩ (fun b o e h1=>?_) fun b hb=>?_
   . rcases hi with h | h | h <;> subst h
     . exact X7 C1 (np g1)
     . exact X7 C2 (np g2)
     . exact X7 c3 (np g3)
   . rcases hi with h | h | h <;> rcases hj with h' | h' | h' <;> subst h <;> subst h'
     . exact absurd rfl hij
     . exact UW
     . exact UX
     . exact Ne.symm UW
     . exact absurd rfl hij
     . exact lM
     . exact Ne.symm UX
     . exact Ne.symm lM
     . exact absurd rfl hij
   . rcases hi with h | h | h <;> subst h
     . exact BF C1.ents.lst hL
     . exact BF C2.ents.lst hL
     . exact BF c3.ents.lst hL
   . exact k4 _ _ (VH _ _ e) h1 (BF e hD)
   . rcases hb with z | z | z | ⟨i,hi,z⟩
     . exact .inl z
     . right;rw[z];exact hD
     . right;rw[z];exact VH.free hL
     . right
       rcases hi with h | h | h <;> subst h <;> rcases z with z | z <;> rw[z]
       . exact g1
       . exact j1
       . exact g2
       . exact j2
       . exact g3
       . exact j3
def cF (W:Cl):Sp:=fun vs H Q _=>∃(p dx:AA),vs=[.ref p]/\H p=some (.ins W.CD dx [])/\
 ∀(H':Hp) (k:Dk),Bc W H' p k Ds->(∀b o,H b=some o->b≠p->H' b=some o)->(∀b,E2 k p b->b=p\/H b=none)->Q .non H'
theorem ACz:BD ["self"] ["self"] (As ay):={}
theorem AAu {f fB:AA} {fd M9:A2} (F:A0 K "__init__" "Desk.__init__" ay f fd) (T:DI K W.CD) (GB:Aa P w K mg base Ag 3 fB M9 ["self"] (WC W)) (bB:Binds K M9 ["self"] []) (mB:Meth K W.CD "begin" fB):
 Aa P w K mg base Ag 4 f fd ["self"] (cF W):=by
 refine F.ok ACz (fun vs H Q E h=>?_) (fun Al A outer s H vs Q E hr h=>?_)
 . obtain⟨p,dx,rfl,_⟩:=h
   rfl
 . obtain⟨p,dx,rfl,hp,q⟩:=h
   refine⟨_,Ac (E8 (RM (pv 0) T.cl mB GB hr bB .nil CV)),?_⟩
   exact⟨_,rfl,p,dx,_,rfl,hp,rfl,p,dx,[],rfl,hp,.inl rfl,fun H' k h1 h2 h3=>q H' k h1 h2 h3⟩
end
theorem Bc.tracked {W:Cl} {H:Hp} {d:AA} {k:Dk} {s:BI} (h:Bc W H d k s) {b:AA} (hb:E2 k d b):∃o,H b=some o:=by
 rcases hb with z | z | z | ⟨i,hi,z⟩
 . obtain⟨dx,q⟩:=h.ins;exact⟨_,by rw[z];exact q⟩
 . exact⟨_,by rw[z];exact h.Gp⟩
 . exact⟨_,by rw[z];exact h.lst⟩
 . rcases z with z | z
   . obtain⟨dx,q⟩:=(h.BR i hi).ins;exact⟨_,by rw[z];exact q⟩
   . exact⟨_,by rw[z];exact (h.BR i hi).ents.lst⟩
structure Mv (H H':Hp) (d:AA) (k k':Dk):Prop where
 fp:∀b,E2 k' d b->E2 k d b\/H b=none
 out:∀b o,H b=some o->¬E2 k d b->H' b=some o
 K2:∀b o,H b=some o->∃o',H' b=some o'
theorem Mv.same {H H':Hp} {d:AA} {k:Dk} (s:Same H H'):Mv H H' d k k:=⟨fun b h=>.inl h,fun b o e _=>s _ _ e,fun b o e=>⟨o,s _ _ e⟩⟩
theorem Mv.free {H H':Hp} {d:AA} {k k':Dk} (m:Mv H H' d k k') {p:AA} (h:H' p=none):H p=none:=by
 cases e:H p with
 | none=>rfl
 | some o=>
  obtain⟨o',e'⟩:=m.K2 p o e
  rw[h] at e'
  cases e'
theorem Mv.trans {H H1 H2:Hp} {d:AA} {k k1 k2:Dk} (a:Mv H H1 d k k1) (b:Mv H1 H2 d k1 k2):Mv H H2 d k k2:=by
 refine⟨fun c h=>?_,fun c o e h=>?_,fun c o e=>?_⟩
 . rcases b.fp c h with q | q
   . exact a.fp c q
   . exact .inr (a.free q)
 . refine b.out c o (a.out c o e h) fun z=>?_
   rcases a.fp c z with q | q
   . exact h q
   . rw[e] at q;cases q
 . obtain⟨o',e'⟩:=a.K2 c o e
   exact b.K2 c o' e'
theorem Mv.of {W:Cl} {H H':Hp} {d:AA} {k k':Dk} {s':BI} (h':Bc W H' d k' s') (e:∀b,E2 k' d b↔E2 k d b) (out:∀b o,H b=some o->¬E2 k d b->H' b=some o):Mv H H' d k k':=
 ⟨fun b h=>.inl ((e b).mp h),out,fun b o eo=>Classical.byCases (fun hb:E2 k d b=>h'.tracked ((e b).mpr hb)) fun hb=>⟨o,out b o eo hb⟩⟩
section
variable {P:Av} {w:Am} {K:AW} {mg:AG->Option AF} {base:Ae} {W:Cl}
def cG (W:Cl):Sp:=fun vs H Q _=>∃(d:AA) (kk:Dk) (s:BI) (c k a b v:Nat),vs=[.ref d,nI c,nI k,nI a,nI b,nI v]/\A7 c/\Bc W H d kk s/\Fb s < 60/\a < b/\b<=1000000/\
 ∀(H':Hp) (JD:Dk) (x:AA),Bc W H' d JD (Vm.wrote s c k a b v)->CY W.CE H' x (Vm.IE (CZ s c) c k a b v)->Mv H H' d kk JD->Q (.ref x) H'
theorem AC0:BD ["self","c","key","a","b","value"] ["self","c","key","a","b","value"] (As az):={}
theorem AAv {f fW:AA} {fd NA:A2} (F:A0 K "write" "Desk.write" az f fd) (T:DI K W.CD) (TC:Cq K W.CC)
 (GW:Aa P w K mg base Ag 3 fW NA ["self","key","a","b","value"] (bz W.CC W.CE)) (bW:Binds K NA ["self","key","a","b","value"] []) (mW:Meth K W.CC "write" fW):
 Aa P w K mg base Ag 4 f fd ["self","c","key","a","b","value"] (cG W):=by
 refine F.ok AC0 (fun vs H Q E h=>?_) (fun Al A outer s H vs Q E hr h=>?_)
 . obtain⟨d,kk,s,c,k,a,b,v,rfl,_⟩:=h
   rfl
 . obtain⟨d,kk,st,c,k,a,b,v,rfl,hc,hD,hw,Bk,hb,q⟩:=h
   obtain⟨dx,hd⟩:=hD.ins
   refine⟨_,AX (EC (pv 0) (DF Fz (Ay (pv 0) rfl) Ax) rfl)
    (Ac (A4 (IH (Ah (DC hr) (Ay (pv 0) rfl) (pv 1)) TC.cl mW GW hr bW .nil CV (AH (pv 2) (AH (pv 3) (AH (pv 4) (AH (pv 5) AK))))))),?_⟩
   refine⟨_,rfl,d,W.CD,dx,_,_,rfl,hd,T.cl,T.n3,iV _ _ _,_,_,rfl,rfl,_,rfl,d,W.CD,dx,_,rfl,hd,T.cl,T.n3,(by show 3 < 1000;decide),?_⟩
   have YX:Dm "written" (V.int ((Fb st:Int)+1)) (GK kk.D kk.L (Fb st))=GK kk.D kk.L (Fb st+1):=rfl
   rw[YX]
   obtain⟨⟨dc,Bb⟩,hE⟩:=hD.BR c hc
   have hdc:=hD.YH hc
   have hdD:d≠kk.D:=B9 hd hD.Gp (by intro z;cases z)
   have hdl:d≠kk.l c:=B9 hd hE.lst (by intro z;cases z)
   have C1:Dt W.CC W.CE (upd H d (.ins W.CD dx (GK kk.D kk.L (Fb st+1)))) (kk.c c) (kk.l c) (kk.a c) c (CZ st c).clock (Vm.got st c):=by
    refine⟨⟨dc,by rw[AV (Ne.symm hdc)];exact Bb⟩,⟨by rw[AV (Ne.symm hdl)];exact hE.lst,Paired.Be hE.ent fun a' e' h=>?_⟩⟩
    have h1:=h.Ug hd
    obtain⟨d',h⟩:=h
    exact⟨d',by rw[AV h1];exact h⟩
   refine⟨_,rfl,d,W.CD,dx,_,_,rfl,AO,T.cl,T.n1,DW _ _ _,_,rfl,kk.D,_,rfl,.inl ⟨_,Di (c:Int),.inl (by rw[AV (Ne.symm hdD)];exact hD.Gp),rfl,(YK kk hc).symm⟩,?_⟩
   refine⟨kk.c c,dc,_,rfl,(by rw[AV (Ne.symm hdc)];exact Bb),rfl,_,rfl,_,rfl,_,rfl,_,rfl,kk.c c,kk.l c,kk.a c,c,(CZ st c).clock,k,a,b,v,Vm.got st c,rfl,C1,BP (Vm.FG hD.good hc) (by decide),fun H' x nx C2 hx bt=>?_⟩
   have frm:∀b' o,H b'=some o->b'≠d->b'≠kk.c c->b'≠kk.l c->H' b'=some o:=fun b' o e h1 h2 h3=>bt b' o (by rw[AV h1];exact e) h2 h3
   have hg:=Vm.wX hD.good hc (k:=k) (v:=v) hw Bk hb
   have ww:=Vm.qN hD.good.three hc k a b v
   have hd':H' d=some (.ins W.CD dx (GK kk.D kk.L (Fb (Vm.wrote st c k a b v)))):=by rw[ww];exact bt d _ AO hdc hdl
   have hD':=hD.put (as:=kk.a c++[x]) (x:=⟨(CZ st c).clock+1,(CZ st c).got++[Vm.IE (CZ st c) c k a b v]⟩) hc rfl hg C2 ⟨dx,hd'⟩ frm
   refine q H' _ x hD' hx (Mv.of hD' (fun _=>Iff.rfl) fun b' o e h=>?_)
   exact frm b' o e (fun z=>h (.inl z)) (fun z=>h (.inr (.inr (.inr ⟨c,hc,.inl z⟩)))) (fun z=>h (.inr (.inr (.inr ⟨c,hc,.inr z⟩))))
def newD (s:BI) (j c k m:Nat):Dec:=⟨j,c,(CZ s c).got.length,k,m⟩
def decided (s:BI) (j c k m:Nat):BI:=⟨s.centres,s.decisions++[newD s j c k m]⟩
def cB (W:Cl):Sp:=fun vs H Q _=>∃(d:AA) (kk:Dk) (s:BI) (j c k m:Nat),vs=[.ref d,nI j,nI c,nI k,nI m]/\A7 c/\Bc W H d kk s/\s.decisions.length < 60/\
 ∀(H':Hp) (JD:Dk),Bc W H' d JD (decided s j c k m)->Mv H H' d kk JD->Q .non H'
theorem oX:BD ["self","number","c","key","minute","tick"] ["self","number","c","key","minute"] (As aw):={}
theorem AAr {f fT fI:AA} {fd E6 ER:A2} (F:A0 K "decide" "Desk.decide" aw f fd) (T:DI K W.CD) (TC:Cq K W.CC) (TN:O5 K W.CN)
 (GT:Aa P w K mg base Ag 1 fT E6 ["self"] (J2 W.CC W.CE)) (bT:Binds K E6 ["self"] []) (mT:Meth K W.CC "tick_now" fT)
 (M:Mk K W.CN fI) (mN:mg "Decision"=some (.ref W.CN)) (FI:A0 K "__init__" "Decision.__init__" Vd fI ER) (bI:Binds K ER ["self","number","centre","tick","key","minute"] []):
 Aa P w K mg base Ag 3 f fd ["self","number","c","key","minute"] (cB W):=by
 have GI:Aa P w K mg base Ag 1 fI ER ["self","number","centre","tick","key","minute"] (o8 W.CN):=ABM FI TN
 refine F.ok oX (fun vs H Q E h=>?_) (fun Al A outer s H vs Q E hr h=>?_)
 . obtain⟨d,kk,s,j,c,k,m,rfl,_⟩:=h
   rfl
 . obtain⟨d,kk,st,j,c,k,m,rfl,hc,hD,hw,q⟩:=h
   obtain⟨dx,hd⟩:=hD.ins
   obtain⟨dc,Bb⟩:=(hD.BR c hc).ins
   have Bg:BW 1 _:=hr.mono (by decide)
   refine⟨_,AX (A5 (i:=5) oX.nd rfl (Ad rfl) (RM (Ah (DC hr) (Ay (pv 0) rfl) (pv 2)) TC.cl mT GT Bg bT .nil CV))
    (Ac (E8 (F0 F2 Hd He HJ (Ay (pv 0) rfl)
     (AH (L9 M GI hr rfl mN bI .nil CV (AH (pv 1) (AH (pv 2) (AH (pv 5) (AH (pv 3) (AH (pv 4) AK)))))) AK)))),?_⟩
   refine⟨_,rfl,d,W.CD,dx,_,_,rfl,hd,T.cl,T.n1,DW _ _ _,_,rfl,kk.D,_,rfl,.inl ⟨_,Di (c:Int),.inl hD.Gp,rfl,(YK kk hc).symm⟩,?_⟩
   refine⟨kk.c c,dc,_,rfl,Bb,rfl,kk.c c,kk.l c,kk.a c,c,_,_,rfl,hD.BR c hc,?_⟩
   refine⟨_,rfl,d,W.CD,dx,_,_,rfl,hd,T.cl,T.n2,TR _ _ _,.inl ⟨rfl,_,AQ.of hD.lst⟩,_,rfl,_,rfl,_,rfl,_,rfl,_,rfl,?_⟩
   intro x ex nx Kp ne
   refine⟨x,ex,newD st j c k m,rfl,AO,rfl,?_⟩
   rw[FQ]
   generalize hH2:upd (upd H ex (.own x)) x (.ins W.CN ex (Je (newD st j c k m)))=H2
   have s2:Same H H2:=fun b o e=>by
    rw[<-hH2,AV (BF e nx),AV (BF e Kp)]
    exact e
   have hx2:H2 x=some (.ins W.CN ex (Je (newD st j c k m))):=by rw[<-hH2,AO]
   have BU:=hD.same s2
   have hdl:=Paired.len hD.dec
   refine⟨kk.L,_,_,rfl,rfl,BU.lst,?_,?_⟩
   . rw[AR,hdl]
     exact Xa hw (by decide)
   obtain⟨QY,hd2⟩:=BU.ins
   have fr:∀b o,H2 b=some o->b≠kk.L->(upd H2 kk.L (.lst (kk.ds.map V.ref++[.ref x]))) b=some o:=fun b o e h1=>by rw[AV h1];exact e
   have hg:=Vm.wU hD.good (newD st j c k m) hw
   have nL:∀{b:AA} {o:HO},H2 b=some o->(∀xs,o≠ .lst xs)->b≠kk.L:=fun {b o} e BX=>B9 e BU.lst (BX _)
   have Li:Bc W (upd H2 kk.L (.lst (kk.ds.map V.ref++[.ref x]))) d { kk with ds:=kk.ds++[x] } (decided st j c k m):=by
    refine⟨⟨QY,fr _ _ hd2 (nL hd2 fun _ z=>nomatch z)⟩,fr _ _ BU.Gp (nL BU.Gp fun _ z=>nomatch z),fun i hi=>?_,by rw[AO,Ba];rfl,?_,hD.ap,hD.Mu,hg⟩
    . obtain⟨⟨dy,h1⟩,hE⟩:=BU.BR i hi
      refine⟨⟨dy,fr _ _ h1 (nL h1 fun _ z=>nomatch z)⟩,⟨fr _ _ hE.lst (hD.Mu i hi),Paired.Be hE.ent fun a' e' h=>?_⟩⟩
      obtain⟨d',h⟩:=h
      exact⟨d',fr _ _ h (nL h fun _ z=>nomatch z)⟩
    . have up:∀(a':AA) (e':Dec),G4 W.CN H2 a' e'->G4 W.CN (upd H2 kk.L (.lst (kk.ds.map V.ref++[.ref x]))) a' e':=fun a' e' h=>by
       obtain⟨d',h⟩:=h
       exact⟨d',fr _ _ h (nL h fun _ z=>nomatch z)⟩
      exact Paired.snoc (up x _ ⟨ex,hx2⟩) (Paired.Be BU.dec up)
   exact q _ _ Li (Mv.of Li (fun _=>Iff.rfl) fun b o e h=>fr _ _ (s2 _ _ e) fun z=>h (.inr (.inr (.inl z))))
def cM (W:Cl):Sp:=fun vs H Q _=>∃(d:AA) (kk:Dk) (s:BI) (j:Nat),vs=[.ref d,nI j]/\Bc W H d kk s/\∀H',Same H H'->Q (.bl (s.decisions.any fun x=>x.num==j)) H'
theorem bf:BD ["self","number","decision"] ["self","number"] (As VM):={}
theorem ye (l:List Nat) (j:Nat):inV (nI j) (l.map nI)=l.any fun x=>x==j:=by
 unfold inV
 rw[XF]
 congr 1
 funext x
 show ((x:Int)==(j:Int))=(x==j)
 rw[Gz]
 simp
 lia
theorem vA (l:List Nat):(l.map nI).all Jh=true:=by
 rw[Om,MY]
 intro x _
 rfl
theorem AA4 {f:AA} {fd:A2} (F:A0 K "has_decision" "Desk.has_decision" VM f fd) (T:DI K W.CD) (TN:O5 K W.CN):Aa P w K mg base Ag 1 f fd ["self","number"] (cM W):=by
 refine F.ok bf (fun vs H Q E h=>?_) (fun Al A outer s H vs Q E hr h=>?_)
 . obtain⟨d,kk,s,j,rfl,_⟩:=h
   rfl
 . obtain⟨d,kk,st,j,rfl,hD,q⟩:=h
   obtain⟨dx,hd⟩:=hD.ins
   refine⟨_,Ac (A4 (IG Z7 (pv 1) (GP (te:=Wl K (JP 2) "number") rfl bf.nd (Dl (Ay (pv 0) rfl)) (Ep (own:=[("decision",2)]) (by show EL ["self","number","decision"] (As VM) _ _=true;decide+kernel))
    (fun _ _ _ _ _=>CW (i:=2) bf.nd rfl (Ad rfl)) (fun _ _ _ _ _=>HM) (fun _ _ _ _ _=>Ay (pv 2) rfl)) (by with_unfolding_all rfl))),?_⟩
   refine⟨_,rfl,_,rfl,d,W.CD,dx,_,_,rfl,hd,T.cl,T.n2,TR _ _ _,kk.L,rfl,⟨_,AQ.of hD.lst⟩,fun D Li=>Fx (K:=K) (a:=kk.L) (xs:=kk.ds.map V.ref)
    (fun i H2=>H2 D=some (.lst (((st.decisions.take i).map (·.num)).map nI))/\Same H H2) ⟨AO,Ao Li⟩ (fun i H2 _ ⟨_,s2⟩=>AQ.of (s2 _ _ hD.lst)) ?_ ?_⟩
   . rintro i y H2 hy ⟨BU,s2⟩
     obtain⟨a,ha,rfl⟩:=EA hy
     obtain⟨e,he,FH⟩:=Paired.DJ hD.dec ha
     obtain⟨dy,FH⟩:=FH.same s2
     refine⟨rfl,?_⟩
     unfold Gy
     refine A9 ⟨_,rfl,a,W.CN,dy,_,_,rfl,FH,TN.cl,TN.n1,iP e,_,BU,?_,?_,fun b o eo=>?_⟩
     . rw[AR,AR,Ct]
       have Fe:st.decisions.length<=60:=hD.good.dec
       have:AZ=16777216:=Dn
       lia
     . rw[AO,C6 he,Ba,Ba]
       rfl
     . rw[AV (BF eo Li)]
       exact s2 _ _ eo
   . rintro H2 ⟨BU,s2⟩
     have hl:st.decisions.take (kk.ds.map V.ref).length=st.decisions:=DN (by rw[AR,Paired.len hD.dec];exact Aj _)
     rw[hl] at BU
     refine⟨D,_,rfl,.inl (AQ.of BU),rfl,vA _,?_⟩
     show Q (.bl (inV (nI j) ((st.decisions.map (·.num)).map nI))) H2
     rw[ye,XF]
     exact q H2 s2
end
abbrev Num (kvs:List (Key×V)) (x:AG) (n:Nat):Prop:=Bq kvs (B7 x)=some (nI n)
def Fj (H:Hp) (d:AA) (kk:Dk) (W:Cl) (s:BI) (ns:List Int) (Q:VK):Prop:=∀(H':Hp) (p:AA),Same H H'->H p=none->H' p=some (.lst (ns.map V.int))->Q (.ref p) H'
section
variable {P:Av} {w:Am} {K:AW} {mg:AG->Option AF} {base:Ae} {W:Cl}
abbrev VY:Au:=top 74
abbrev VX:Au:=top 75
abbrev Va:Au:=top 76
abbrev Vj:Au:=top 77
abbrev U7:Au:=top 78
theorem BE {H:Hp} {nd:AA} {kvs:List (Key×V)} {x:AG} {n:Nat} (h:H nd=some (.dK kvs)) (g:Num kvs x n):Fm H nd (.str x) (some (nI n)):=.inl ⟨kvs,B7 x,.inl h,rfl,g.symm⟩
theorem Dd {H:Hp} {d:AA} {kk:Dk} {s:BI} {c:Nat} (h:Bc W H d kk s) (hc:A7 c):Fm H kk.D (nI c) (some (.ref (kk.c c))):=.inl ⟨_,Di (c:Int),.inl h.Gp,rfl,(YK kk hc).symm⟩
def WW (W:Cl):Sp:=fun vs H Q _=>∃(d nd:AA) (kk:Dk) (s:BI) (kvs:List (Key×V)) (c k m:Nat),vs=[.ref d,.ref nd]/\Bc W H d kk s/\H nd=some (.dK kvs)/\A7 c/\Num kvs "c" c/\Num kvs "k" k/\Num kvs "m" m/\
 Fj H d kk W s (Mt (F7 (Vm.got s c) k m)) Q
theorem oh:BD ["desk","numbers","centre"] ["desk","numbers"] (As VY):={}
theorem ABE {f fL fT:AA} {fd Iq E6:A2} (F:A0 K "knows" "knows" VY f fd) (TD:DI K W.CD) (TC:Cq K W.CC)
 (GL:Aa P w K mg base Ag 2 fL Iq ["entries","key","minute"] (Kz K W.CE)) (kL:D9 K (.ref fL)=true) (bL:Binds K Iq ["entries","key","minute"] []) (mL:mg "latest"=some (.ref fL))
 (GT:Aa P w K mg base Ag 1 fT E6 ["entry"] (OM W.CE)) (kT:D9 K (.ref fT)=true) (bT:Binds K E6 ["entry"] []) (mT:mg "entry_told"=some (.ref fT)):
 Aa P w K mg base Ag 3 f fd ["desk","numbers"] (WW W):=by
 refine F.ok oh (fun vs H Q E h=>?_) (fun Al A outer s H vs Q E hr h=>?_)
 . obtain⟨d,nd,kk,s,kvs,c,k,m,rfl,_⟩:=h
   rfl
 . obtain⟨d,nd,kk,st,kvs,c,k,m,rfl,hD,hn,hc,gc,gk,gm,q⟩:=h
   obtain⟨dx,hd⟩:=hD.ins
   obtain⟨⟨dc,Bb⟩,hE⟩:=hD.BR c hc
   have Bg:BW 1 _:=hr.mono (by decide)
   have hu:=DC hr
   refine⟨_,AX (A5 (i:=2) oh.nd rfl (Ad rfl) (Ah hu (Ay (pv 0) rfl) (Ah hu (pv 1) Aw)))
    (Ac (A4 (FN GT Bg rfl mT kT bT .nil CV (AH (FN GL hr rfl mL kL bL .nil CV (AH (Ay (pv 2) rfl) (AH (Ah hu (pv 1) Aw) (AH (Ah hu (pv 1) Aw) AK)))) AK)))),?_⟩
   refine⟨_,rfl,d,W.CD,dx,_,_,rfl,hd,TD.cl,TD.n1,DW _ _ _,_,rfl,nd,_,rfl,BE hn gc,kk.D,_,rfl,Dd hD hc,?_⟩
   refine⟨_,rfl,kk.c c,W.CC,dc,_,_,rfl,Bb,TC.cl,TC.n3,Er _ _ _,_,rfl,nd,_,rfl,BE hn gk,_,rfl,nd,_,rfl,BE hn gm,kk.l c,kk.a c,Vm.got st c,k,m,rfl,hE.at,fun v H1 s1 hF=>?_⟩
   have hF':=hF.at (hE.same s1).ent
   refine⟨v,_,rfl,hF',fun p hp=>?_⟩
   exact q _ p (s1.trans (Ao hp)) (s1.free hp) AO
def WV (W:Cl):Sp:=fun vs H Q _=>∃(d nd:AA) (kk:Dk) (s:BI) (kvs:List (Key×V)) (c n k m:Nat),vs=[.ref d,.ref nd]/\Bc W H d kk s/\H nd=some (.dK kvs)/\A7 c/\Num kvs "c" c/\Num kvs "n" n/\Num kvs "k" k/\Num kvs "m" m/\
 Fj H d kk W s (Mt (F7 ((Vm.got s c).take n) k m)) Q
theorem og:BD ["desk","numbers","centre"] ["desk","numbers"] (As VX):={}
theorem ABD {f fL fT fA:AA} {fd Iq E6 Ip:A2} (F:A0 K "knew" "knew" VX f fd) (TD:DI K W.CD) (TC:Cq K W.CC)
 (GL:Aa P w K mg base Ag 2 fL Iq ["entries","key","minute"] (Kz K W.CE)) (kL:D9 K (.ref fL)=true) (bL:Binds K Iq ["entries","key","minute"] []) (mL:mg "latest"=some (.ref fL))
 (GT:Aa P w K mg base Ag 1 fT E6 ["entry"] (OM W.CE)) (kT:D9 K (.ref fT)=true) (bT:Binds K E6 ["entry"] []) (mT:mg "entry_told"=some (.ref fT))
 (GA:Aa P w K mg base Ag 1 fA Ip ["self","tick"] (Ky W.CC W.CE)) (bA:Binds K Ip ["self","tick"] []) (mA:Meth K W.CC "at_tick" fA):
 Aa P w K mg base Ag 3 f fd ["desk","numbers"] (WV W):=by
 refine F.ok og (fun vs H Q E h=>?_) (fun Al A outer s H vs Q E hr h=>?_)
 . obtain⟨d,nd,kk,s,kvs,c,n,k,m,rfl,_⟩:=h
   rfl
 . obtain⟨d,nd,kk,st,kvs,c,n,k,m,rfl,hD,hn,hc,gc,gn,gk,gm,q⟩:=h
   obtain⟨dx,hd⟩:=hD.ins
   obtain⟨⟨dc,Bb⟩,hE⟩:=hD.BR c hc
   have Bg:BW 1 _:=hr.mono (by decide)
   have hu:=DC hr
   refine⟨_,AX (A5 (i:=2) og.nd rfl (Ad rfl) (Ah hu (Ay (pv 0) rfl) (Ah hu (pv 1) Aw)))
    (Ac (A4 (FN GT Bg rfl mT kT bT .nil CV (AH (FN GL hr rfl mL kL bL .nil CV (AH (IH (pv 2) TC.cl mA GA Bg bA .nil CV (AH (Ah hu (pv 1) Aw) AK)) (AH (Ah hu (pv 1) Aw) (AH (Ah hu (pv 1) Aw) AK)))) AK)))),?_⟩
   refine⟨_,rfl,d,W.CD,dx,_,_,rfl,hd,TD.cl,TD.n1,DW _ _ _,_,rfl,nd,_,rfl,BE hn gc,kk.D,_,rfl,Dd hD hc,?_⟩
   refine⟨_,rfl,kk.c c,dc,_,rfl,Bb,rfl,_,rfl,nd,_,rfl,BE hn gn,kk.c c,kk.l c,kk.a c,c,_,n,_,rfl,hD.BR c hc,fun p hp=>?_⟩
   have s0:=Ao (o:=.lst (((kk.a c).take n).map V.ref)) hp
   have hn0:=s0 _ _ hn
   have Iv:=M7 hE n hp
   refine⟨_,rfl,nd,_,rfl,BE hn0 gk,_,rfl,nd,_,rfl,BE hn0 gm,p,_,_,k,m,rfl,Iv.at,fun v H1 s1 hF=>?_⟩
   have hF':=hF.at (Iv.same s1).ent
   refine⟨v,_,rfl,hF',fun r hr'=>?_⟩
   exact q _ r ((s0.trans s1).trans (Ao hr')) ((s0.trans s1).free hr') AO
def WX (W:Cl):Sp:=fun vs H Q _=>∃(d nd:AA) (kk:Dk) (s:BI) (kvs:List (Key×V)) (c n k a b:Nat),vs=[.ref d,.ref nd]/\Bc W H d kk s/\H nd=some (.dK kvs)/\A7 c/\Num kvs "c" c/\Num kvs "n" n/\Num kvs "k" k/\Num kvs "a" a/\Num kvs "b" b/\a < b/\
 Fj H d kk W s (Ms (F6 ((Vm.got s c).take n) k a b)) Q
theorem oj:BD ["desk","numbers","centre"] ["desk","numbers"] (As Va):={}
theorem lj (es:List Ent) (k a b:Nat) (h:a < b):(F6 es k a b).length<=1+2*es.length:=by
 rw[Vm.RF,<-Vm.Tw]
 have go:∀(l acc:List (Nat×Nat)),(l.foldl Vm.C3 acc).length<=acc.length+l.length:=by
  intro l
  induction l with
  | nil=>intro acc;exact Aj _
  | cons p r ih=>
   intro acc
   rw[FV,BO]
   refine BP (ih _) ?_
   have:(Vm.C3 acc p).length<=acc.length+1:=by
    unfold Vm.C3
    split
    . rw[BZ];exact Aj _
    . split
      . exact Gi _
      . rw[BZ];exact Aj _
   lia
 refine BP (go _ []) ?_
 rw[D7,AR,LR]
 exact Mz es k a b h
theorem jL (l:List (Nat×Nat)):(l.map fun x=>[(x.1:Int),(x.2:Int)]).flatten.length=2*l.length:=by
 induction l with
 | nil=>rfl
 | cons x r ih=>
  have e2:((x::r).map fun x=>[(x.1:Int),(x.2:Int)]).flatten.length=2+(r.map fun x=>[(x.1:Int),(x.2:Int)]).flatten.length:=by
   rw[CP,Oq,BZ]
   rfl
  rw[e2,ih,BO]
  lia
theorem ABH {f fL fC fA:AA} {fd Iq Lg Ip:A2} (F:A0 K "line" "line" Va f fd) (TD:DI K W.CD) (TC:Cq K W.CC)
 (GL:Aa P w K mg base Ag 4 fL Iq ["entries","key","a","b"] (OJ K W.CE)) (kL:D9 K (.ref fL)=true) (bL:Binds K Iq ["entries","key","a","b"] []) (mL:mg "line_of"=some (.ref fL))
 (GC:Aa P w K mg base Ag 1 fC Lg ["rows"] (IL K)) (kC:D9 K (.ref fC)=true) (bC:Binds K Lg ["rows"] []) (mC:mg "counted"=some (.ref fC))
 (GA:Aa P w K mg base Ag 1 fA Ip ["self","tick"] (Ky W.CC W.CE)) (bA:Binds K Ip ["self","tick"] []) (mA:Meth K W.CC "at_tick" fA):
 Aa P w K mg base Ag 5 f fd ["desk","numbers"] (WX W):=by
 refine F.ok oj (fun vs H Q E h=>?_) (fun Al A outer s H vs Q E hr h=>?_)
 . obtain⟨d,nd,kk,s,kvs,c,n,k,a,b,rfl,_⟩:=h
   rfl
 . obtain⟨d,nd,kk,st,kvs,c,n,k,a,b,rfl,hD,hn,hc,gc,gn,gk,ga,gb,Bk,q⟩:=h
   obtain⟨dx,hd⟩:=hD.ins
   obtain⟨⟨dc,Bb⟩,hE⟩:=hD.BR c hc
   have Bg:BW 1 _:=hr.mono (by decide)
   have hu:=DC hr
   refine⟨_,AX (A5 (i:=2) oj.nd rfl (Ad rfl) (Ah hu (Ay (pv 0) rfl) (Ah hu (pv 1) Aw)))
    (Ac (A4 (FN GC Bg rfl mC kC bC .nil CV (AH (FN GL hr rfl mL kL bL .nil CV (AH (IH (pv 2) TC.cl mA GA Bg bA .nil CV (AH (Ah hu (pv 1) Aw) AK)) (AH (Ah hu (pv 1) Aw) (AH (Ah hu (pv 1) Aw) (AH (Ah hu (pv 1) Aw) AK))))) AK)))),?_⟩
   refine⟨_,rfl,d,W.CD,dx,_,_,rfl,hd,TD.cl,TD.n1,DW _ _ _,_,rfl,nd,_,rfl,BE hn gc,kk.D,_,rfl,Dd hD hc,?_⟩
   refine⟨_,rfl,kk.c c,dc,_,rfl,Bb,rfl,_,rfl,nd,_,rfl,BE hn gn,kk.c c,kk.l c,kk.a c,c,_,n,_,rfl,hD.BR c hc,fun p hp=>?_⟩
   have s0:=Ao (o:=.lst (((kk.a c).take n).map V.ref)) hp
   have hn0:=s0 _ _ hn
   have Iv:=M7 hE n hp
   have Fe:=Vm.FG hD.good hc
   have A1:((Vm.got st c).take n).length<=60:=by rw[Ct];lia
   refine⟨_,rfl,nd,_,rfl,BE hn0 gk,_,rfl,nd,_,rfl,BE hn0 ga,_,rfl,nd,_,rfl,BE hn0 gb,p,_,_,k,a,b,rfl,Iv.at,Bk,BP A1 (by decide),fun H1 r bs s1 ZQ h1 hb=>?_⟩
   have Lw:=aW hb
   have hll:=lj ((Vm.got st c).take n) k a b Bk
   refine⟨r,bs,_,rfl,AQ.of h1,Lw,?_,fun H2 r2 s2 hr2 h2=>?_⟩
   . rw[jL]
     lia
   . rw[<-nM] at h2
     exact q H2 r2 ((s0.trans s1).trans s2) ((s0.trans s1).free hr2) h2
end
theorem pN (t:Nat):V.int (((t+1:Nat):Int) - 1)=nI t:=by
 unfold nI
 congr 1
 lia
section
variable {P:Av} {w:Am} {K:AW} {mg:AG->Option AF} {base:Ae} {W:Cl}
def bu (s:BI) (c k m:Nat):List Int:=[(A3 (Vm.got s c) k m:Int),(Xs (fun n=>A3 ((Vm.got s c).take n) k m==A3 (Vm.got s c) k m) (Vm.got s c).length:Int)]
def WZ (W:Cl):Sp:=fun vs H Q _=>∃(d nd:AA) (kk:Dk) (s:BI) (kvs:List (Key×V)) (c k m:Nat),vs=[.ref d,.ref nd]/\Bc W H d kk s/\H nd=some (.dK kvs)/\A7 c/\Num kvs "c" c/\Num kvs "k" k/\Num kvs "m" m/\Fj H d kk W s (bu s c k m) Q
theorem MH:BD ["desk","numbers","centre","key","minute","now","tick"] ["desk","numbers"] (As Vj):={}
theorem ABU {f:AA} {fd:A2} (F:A0 K "since" "since" Vj f fd) (TD:DI K W.CD) (TC:Cq K W.CC)
 (Qi:Gm P w K mg base W.CC 4 "knows" ["self","key","minute"] (Rw W.CC W.CE)) (Yj:Gm P w K mg base W.CC 4 "knew" ["self","tick","key","minute"] (Rv W.CC W.CE)) (gT:Gm P w K mg base W.CC 1 "tick_now" ["self"] (J2 W.CC W.CE)):
 Aa P w K mg base Ag 5 f fd ["desk","numbers"] (WZ W):=by
 refine F.ok MH (fun vs H Q E h=>?_) (fun Al A outer s H vs Q E hr h=>?_)
 . obtain⟨d,nd,kk,s,kvs,c,k,m,rfl,_⟩:=h
   rfl
 . obtain⟨d,nd,kk,st,kvs,c,k,m,rfl,hD,hn,hc,gc,gk,gm,q⟩:=h
   obtain⟨dx,hd⟩:=hD.ins
   obtain⟨⟨dc,Bb⟩,hE⟩:=hD.BR c hc
   have Bg:BW 1 _:=hr.mono (by decide)
   have hu:=DC hr
   refine⟨_,AX (A5 (i:=2) MH.nd rfl (Ad rfl) (Ah hu (Ay (pv 0) rfl) (Ah hu (pv 1) Aw)))
    (AX (A5 (i:=3) MH.nd rfl (Ad rfl) (Ah hu (pv 1) Aw))
    (AX (A5 (i:=4) MH.nd rfl (Ad rfl) (Ah hu (pv 1) Aw))
    (AX (A5 (i:=5) MH.nd rfl (Ad rfl) (Gu Qi TC.cl (pv 2) hr (AH (pv 3) (AH (pv 4) AK))))
    (AX (A5 (i:=6) MH.nd rfl (Ad rfl) (Ut gT TC.cl (pv 2) Bg))
    (AX (nz PassesOwn.never (PW.pt (Nv (DY nB (pv 6) Ax (Cy _)) (Nw (DY Fh (Gu Yj TC.cl (pv 2) hr (AH (DF RK (pv 6) Ax) (AH (pv 3) (AH (pv 4) AK)))) (pv 5) (Cy _)))))
     (Ac (A5 (i:=6) MH.nd rfl (Ad rfl) (DF RK (pv 6) Ax))))
    (Ac (A4 (DE (AH (pv 5) (AH (pv 6) AK)))))))))),?_⟩
   refine⟨_,rfl,d,W.CD,dx,_,_,rfl,hd,TD.cl,TD.n1,DW _ _ _,_,rfl,nd,_,rfl,BE hn gc,kk.D,_,rfl,Dd hD hc,?_⟩
   refine⟨_,rfl,nd,_,rfl,BE hn gk,?_⟩
   refine⟨_,rfl,nd,_,rfl,BE hn gm,?_⟩
   refine⟨_,rfl,kk.c c,dc,_,rfl,Bb,rfl,_,rfl,_,rfl,kk.c c,kk.l c,kk.a c,c,_,k,m,_,rfl,hD.BR c hc,fun H1 s1=>?_⟩
   have C1:=(hD.BR c hc).same s1
   refine⟨_,rfl,kk.c c,dc,_,rfl,s1 _ _ Bb,rfl,kk.c c,kk.l c,kk.a c,c,_,_,rfl,C1,?_⟩
   refine⟨fun t σ H'=>σ=[some (.ref d),some (.ref nd),some (.ref (kk.c c)),some (nI k),some (nI m),some (nI (A3 (Vm.got st c) k m)),some (nI t)]/\Same H H'/\
    Xs (fun n=>A3 ((Vm.got st c).take n) k m==A3 (Vm.got st c) k m) t=Xs (fun n=>A3 ((Vm.got st c).take n) k m==A3 (Vm.got st c) k m) (Vm.got st c).length,⟨(Vm.got st c).length,rfl,s1,rfl⟩,?_⟩
   rintro t σ H2 ⟨rfl,s2,hinv⟩
   have fin:∀H3:Hp,Same H H3->Xs (fun n=>A3 ((Vm.got st c).take n) k m==A3 (Vm.got st c) k m) (Vm.got st c).length=t->
    (∃v,([some (V.ref d),some (.ref nd),some (.ref (kk.c c)),some (nI k),some (nI m),some (nI (A3 (Vm.got st c) k m)),some (nI t)]:L2.St)[5]? =some (some v)/\∃v',([some (V.ref d),some (.ref nd),some (.ref (kk.c c)),some (nI k),some (nI m),some (nI (A3 (Vm.got st c) k m)),some (nI t)]:L2.St)[6]? =some (some v')/\
     ([v,v']:List V).length<=AZ/\∀p,H3 p=none->Q (.ref p) (upd H3 p (.lst [v,v']))):=fun H3 s3 e=>by
    refine⟨_,rfl,_,rfl,(by show 2<=AZ;decide),fun p hp=>?_⟩
    refine q _ p (s3.trans (Ao hp)) (s3.free hp) ?_
    rw[AO]
    unfold bu
    rw[e]
    rfl
   cases t with
   | zero=>
    refine⟨_,rfl,_,_,rfl,rfl,_,rfl,?_⟩
    refine BJ (BJ ?_)
    exact fin H2 s2 hinv.symm
   | succ t=>
    refine⟨_,rfl,_,_,rfl,rfl,_,rfl,?_⟩
    have hpos:decide ((0:Int) < ((t+1:Nat):Int))=true:=decide_eq_true (by lia)
    show if decide ((0:Int) < ((t+1:Nat):Int))=true then _ else _
    rw[hpos]
    refine A9 ?_
    have IA:=hE.same s2
    refine⟨_,rfl,kk.c c,dc,_,rfl,s2 _ _ Bb,rfl,_,rfl,_,_,rfl,rfl,_,rfl,_,rfl,kk.c c,kk.l c,kk.a c,c,_,t,k,m,_,(by rw[<-pN t];rfl),(hD.BR c hc).same s2,fun H4 s4=>?_⟩
    have GR:=s2.trans s4
    refine⟨_,rfl,rfl,_,rfl,?_⟩
    rw[Hz]
    rw[Vm.ADX] at hinv
    cases hb:(A3 ((Vm.got st c).take t) k m==A3 (Vm.got st c) k m) with
    | true=>
     rw[hb,if_pos rfl] at hinv
     refine A9 ⟨fun σ' H'=>σ'=[some (.ref d),some (.ref nd),some (.ref (kk.c c)),some (nI k),some (nI m),some (nI (A3 (Vm.got st c) k m)),some (nI t)]/\Same H H',fun σ' H' ⟨e1,e2⟩=>⟨t,Hu _,e1,e2,hinv⟩,?_⟩
     refine⟨_,rfl,_,_,rfl,rfl,?_,GR⟩
     rw[show (fun i j:Int=>V.int (i - j)) ((t+1:Nat):Int) 1=nI t from pN t]
     rfl
    | false=>
     rw[hb,if_neg Bw] at hinv
     refine BJ ?_
     exact fin H4 GR hinv.symm
def WH (W:Cl):Sp:=fun vs H Q _=>∃(d nd:AA) (kk:Dk) (s:BI) (kvs:List (Key×V)) (c n t k a b:Nat),vs=[.ref d,.ref nd]/\Bc W H d kk s/\H nd=some (.dK kvs)/\A7 c/\Num kvs "c" c/\Num kvs "n" n/\Num kvs "t" t/\Num kvs "k" k/\Num kvs "a" a/\Num kvs "b" b/\a < b/\
 Fj H d kk W s (Mr (LZ ((Vm.got s c).take n) ((Vm.got s c).take t) k a b)) Q
theorem Vw:BD ["desk","numbers","centre","one","other"] ["desk","numbers"] (As U7):={}
theorem jN (l:List S3):(l.map fun x=>[(x.1:Int),(x.2.1:Int),(x.2.2.1:Int),(x.2.2.2:Int)]).flatten.length=4*l.length:=by
 induction l with
 | nil=>rfl
 | cons x r ih=>
  have e2:((x::r).map fun x=>[(x.1:Int),(x.2.1:Int),(x.2.2.1:Int),(x.2.2.2:Int)]).flatten.length=4+(r.map fun x=>[(x.1:Int),(x.2.1:Int),(x.2.2.1:Int),(x.2.2.2:Int)]).flatten.length:=by
   rw[CP,Oq,BZ]
   rfl
  rw[e2,ih,BO]
  lia
theorem ADk (b:Nat) (l:List (Nat×Vm.P2)):(Vm.spans b l).length<=l.length:=by
 rw[Vm.Wh,AR,LM]
 exact Nat.min_le_left _ _
theorem ACn (l:List (Nat×Vm.P2)):(Vm.runs l).length<=l.length:=by
 rw[<-Vm.Tw]
 have go:∀(l acc:List (Nat×Vm.P2)),(l.foldl Vm.C3 acc).length<=acc.length+l.length:=by
  intro l
  induction l with
  | nil=>intro acc;exact Aj _
  | cons p r ih=>
   intro acc
   rw[FV,BO]
   refine BP (ih _) ?_
   have:(Vm.C3 acc p).length<=acc.length+1:=by
    unfold Vm.C3
    split
    . rw[BZ];exact Aj _
    . split
      . exact Gi _
      . rw[BZ];exact Aj _
   lia
 have:=go l []
 rwa[D7,LR] at this
theorem iA (l t:List Ent) (k a b:Nat) (h:a < b):(LZ l t k a b).length<=1+2*(l.length+t.length):=by
 rw[Vm.iB]
 refine BP (Gh _ _) (BP (ADk _ _) (BP (ACn _) ?_))
 rw[AR]
 have:=Mz (l++t) k a b h
 rwa[BZ] at this
theorem AAj {f fX fC fA:AA} {fd Tt Lg Ip:A2} (F:A0 K "changed" "changed" U7 f fd) (TD:DI K W.CD) (TC:Cq K W.CC)
 (GX:Aa P w K mg base Ag 4 fX Tt ["one","other","key","a","b"] (Rx K W.CE)) (kX:D9 K (.ref fX)=true) (bX:Binds K Tt ["one","other","key","a","b"] []) (mX:mg "changes_between"=some (.ref fX))
 (GC:Aa P w K mg base Ag 1 fC Lg ["rows"] (IL K)) (kC:D9 K (.ref fC)=true) (bC:Binds K Lg ["rows"] []) (mC:mg "counted"=some (.ref fC))
 (GA:Aa P w K mg base Ag 1 fA Ip ["self","tick"] (Ky W.CC W.CE)) (bA:Binds K Ip ["self","tick"] []) (mA:Meth K W.CC "at_tick" fA):
 Aa P w K mg base Ag 5 f fd ["desk","numbers"] (WH W):=by
 refine F.ok Vw (fun vs H Q E h=>?_) (fun Al A outer s H vs Q E hr h=>?_)
 . obtain⟨d,nd,kk,s,kvs,c,n,t,k,a,b,rfl,_⟩:=h
   rfl
 . obtain⟨d,nd,kk,st,kvs,c,n,t,k,a,b,rfl,hD,hn,hc,gc,gn,gt,gk,ga,gb,Bk,q⟩:=h
   obtain⟨dx,hd⟩:=hD.ins
   obtain⟨⟨dc,Bb⟩,hE⟩:=hD.BR c hc
   have Bg:BW 1 _:=hr.mono (by decide)
   have hu:=DC hr
   refine⟨_,AX (A5 (i:=2) Vw.nd rfl (Ad rfl) (Ah hu (Ay (pv 0) rfl) (Ah hu (pv 1) Aw)))
    (AX (A5 (i:=3) Vw.nd rfl (Ad rfl) (IH (pv 2) TC.cl mA GA Bg bA .nil CV (AH (Ah hu (pv 1) Aw) AK)))
    (AX (A5 (i:=4) Vw.nd rfl (Ad rfl) (IH (pv 2) TC.cl mA GA Bg bA .nil CV (AH (Ah hu (pv 1) Aw) AK)))
    (Ac (A4 (FN GC Bg rfl mC kC bC .nil CV (AH (FN GX hr rfl mX kX bX .nil CV (AH (pv 3) (AH (pv 4) (AH (Ah hu (pv 1) Aw) (AH (Ah hu (pv 1) Aw) (AH (Ah hu (pv 1) Aw) AK)))))) AK)))))),?_⟩
   refine⟨_,rfl,d,W.CD,dx,_,_,rfl,hd,TD.cl,TD.n1,DW _ _ _,_,rfl,nd,_,rfl,BE hn gc,kk.D,_,rfl,Dd hD hc,?_⟩
   refine⟨_,rfl,kk.c c,dc,_,rfl,Bb,rfl,_,rfl,nd,_,rfl,BE hn gn,kk.c c,kk.l c,kk.a c,c,_,n,_,rfl,hD.BR c hc,fun p hp=>?_⟩
   have s0:=Ao (o:=.lst (((kk.a c).take n).map V.ref)) hp
   have hn0:=s0 _ _ hn
   have Iv:=M7 hE n hp
   refine⟨_,rfl,kk.c c,dc,_,rfl,s0 _ _ Bb,rfl,_,rfl,nd,_,rfl,BE hn0 gt,kk.c c,kk.l c,kk.a c,c,_,t,_,rfl,(hD.BR c hc).same s0,fun p2 hp2=>?_⟩
   have s1:=Ao (o:=.lst (((kk.a c).take t).map V.ref)) hp2
   have hn1:=s1 _ _ hn0
   have De:=Iv.same s1
   have IA:=M7 (hE.same s0) t hp2
   have Fe:=Vm.FG hD.good hc
   have hl1:((Vm.got st c).take n).length<=60:=by rw[Ct];lia
   have Cw:((Vm.got st c).take t).length<=60:=by rw[Ct];lia
   refine⟨_,rfl,_,rfl,_,rfl,nd,_,rfl,BE hn1 gk,_,rfl,nd,_,rfl,BE hn1 ga,_,rfl,nd,_,rfl,BE hn1 gb,p,p2,_,_,_,_,k,a,b,rfl,De,IA,Bk,BP hl1 (by decide),BP Cw (by decide),fun H3 r bs s3 Lv h3 hb=>?_⟩
   have Lw:=aV hb
   have CH:=iA ((Vm.got st c).take n) ((Vm.got st c).take t) k a b Bk
   refine⟨r,bs,_,rfl,AQ.of h3,Lw,?_,fun H4 r2 s4 Qy h4=>?_⟩
   . rw[jN]
     lia
   . rw[<-hW] at h4
     exact q H4 r2 (((s0.trans s1).trans s3).trans s4) (((s0.trans s1).trans s3).free Qy) h4
end
def Ge (W:Cl) (H:Hp) (d:AA) (kk:Dk) (s':BI) (ns:List Int) (Q:VK):Prop:=∀(H':Hp) (JD:Dk) (p:AA),Bc W H' d JD s'->Mv H H' d kk JD->H p=none->H' p=some (.lst (ns.map V.int))->Q (.ref p) H'
section
variable {P:Av} {w:Am} {K:AW} {mg:AG->Option AF} {base:Ae} {W:Cl}
abbrev U4:Au:=top 70
abbrev Vt:Au:=top 71
abbrev VJ:Au:=top 72
abbrev Vk:Au:=top 73
abbrev VA:Au:=top 79
theorem Ge.lay {H H1:Hp} {d:AA} {kk GO:Dk} {s':BI} {ns:List Int} {Q:VK} (q:Ge W H d kk s' ns Q) (h1:Bc W H1 d GO s') (m:Mv H H1 d kk GO) {p:AA} (hp:H1 p=none) {vs:List V} (hv:vs=ns.map V.int):Q (.ref p) (upd H1 p (.lst vs)):=by
 subst hv
 have s1:=Ao (o:=.lst (ns.map V.int)) hp
 exact q _ GO p (h1.same s1) (m.trans (Mv.same s1)) (m.free hp) AO
def WD (W:Cl):Sp:=fun vs H Q _=>∃(d nd:AA) (kk:Dk) (s:BI),vs=[.ref d,.ref nd]/\Bc W H d kk s/\Ge W H d kk Ds [0] Q
theorem ACu:BD ["desk","numbers"] ["desk","numbers"] (As U4):={}
theorem AAg {f fB:AA} {fd M9:A2} (F:A0 K "begin" "begin" U4 f fd) (TD:DI K W.CD) (GB:Aa P w K mg base Ag 3 fB M9 ["self"] (WC W)) (bB:Binds K M9 ["self"] []) (mB:Meth K W.CD "begin" fB):
 Aa P w K mg base Ag 4 f fd ["desk","numbers"] (WD W):=by
 refine F.ok ACu (fun vs H Q E h=>?_) (fun Al A outer s H vs Q E hr h=>?_)
 . obtain⟨d,nd,kk,s,rfl,_⟩:=h
   rfl
 . obtain⟨d,nd,kk,st,rfl,hD,q⟩:=h
   obtain⟨dx,hd⟩:=hD.ins
   refine⟨_,AX (E8 (RM (pv 0) TD.cl mB GB hr bB .nil CV)) (Ac (A4 (DE (AH Ax AK)))),?_⟩
   refine⟨_,rfl,d,dx,_,rfl,hd,rfl,d,dx,_,rfl,hd,.inr ⟨_,_,_,rfl⟩,fun H1 k1 h1 fr hf=>?_⟩
   have m:Mv H H1 d kk k1:=by
    refine⟨fun b h=>?_,fun b o e h=>fr b o e fun z=>h (.inl z),fun b o e=>?_⟩
    . rcases hf b h with z | z
      . exact .inl (.inl z)
      . exact .inr z
    . by_cases z:b=d
      . exact h1.tracked (.inl z)
      . exact⟨o,fr b o e z⟩
   exact⟨(by show 1<=AZ;decide),fun p hp=>q.lay h1 m hp rfl⟩
def Wf (W:Cl):Sp:=fun vs H Q _=>∃(d nd:AA) (kk:Dk) (s:BI) (kvs:List (Key×V)) (c k a b v:Nat),vs=[.ref d,.ref nd]/\Bc W H d kk s/\H nd=some (.dK kvs)/\A7 c/\Num kvs "c" c/\Num kvs "k" k/\Num kvs "a" a/\Num kvs "b" b/\Num kvs "v" v/\a < b/\b<=1000000/\Fb s < 60/\
 Ge W H d kk (Vm.wrote s c k a b v) [0,((CZ s c).clock+1:Nat),((Vm.got s c).length+1:Nat)] Q
theorem bq:BD ["desk","numbers","c","entry"] ["desk","numbers"] (As Vt):={}
theorem ABh {f fW fT:AA} {fd NA E6:A2} (F:A0 K "write" "write" Vt f fd) (TD:DI K W.CD) (TC:Cq K W.CC) (TE:FY K W.CE)
 (GW:Aa P w K mg base Ag 4 fW NA ["self","c","key","a","b","value"] (cG W)) (bW:Binds K NA ["self","c","key","a","b","value"] []) (mW:Meth K W.CD "write" fW)
 (GT:Aa P w K mg base Ag 1 fT E6 ["self"] (J2 W.CC W.CE)) (bT:Binds K E6 ["self"] []) (mT:Meth K W.CC "tick_now" fT):
 Aa P w K mg base Ag 5 f fd ["desk","numbers"] (Wf W):=by
 refine F.ok bq (fun vs H Q E h=>?_) (fun Al A outer s H vs Q E hr h=>?_)
 . obtain⟨d,nd,kk,s,kvs,c,k,a,b,v,rfl,_⟩:=h
   rfl
 . obtain⟨d,nd,kk,st,kvs,c,k,a,b,v,rfl,hD,hn,hc,gc,gk,ga,gb,gv,Bk,hb,hw,q⟩:=h
   obtain⟨dx,hd⟩:=hD.ins
   have Bg:BW 1 _:=hr.mono (by decide)
   have hu:=DC hr
   refine⟨_,AX (A5 (i:=2) bq.nd rfl (Ad rfl) (Ah hu (pv 1) Aw))
    (AX (A5 (i:=3) bq.nd rfl (Ad rfl) (IH (pv 0) TD.cl mW GW hr bW .nil CV (AH (pv 2) (AH (Ah hu (pv 1) Aw) (AH (Ah hu (pv 1) Aw) (AH (Ah hu (pv 1) Aw) (AH (Ah hu (pv 1) Aw) AK)))))))
    (Ac (A4 (DE (AH Ax (AH (Ay (pv 3) rfl) (AH (RM (Ah hu (Ay (pv 0) rfl) (pv 2)) TC.cl mT GT Bg bT .nil CV) AK))))))),?_⟩
   refine⟨_,rfl,nd,_,rfl,BE hn gc,?_⟩
   refine⟨_,rfl,d,dx,_,rfl,hd,rfl,_,rfl,_,rfl,nd,_,rfl,BE hn gk,_,rfl,nd,_,rfl,BE hn ga,_,rfl,nd,_,rfl,BE hn gb,_,rfl,nd,_,rfl,BE hn gv,d,kk,st,c,k,a,b,v,rfl,hc,hD,hw,Bk,hb,fun H1 k1 x h1 hx m=>?_⟩
   obtain⟨YL,hd1⟩:=h1.ins
   obtain⟨ex,hx⟩:=hx
   obtain⟨dc,Bb⟩:=(h1.BR c hc).ins
   refine⟨_,rfl,x,W.CE,ex,_,_,rfl,hx,TE.cl,TE.n1,M6 _,_,rfl,d,W.CD,YL,_,_,rfl,hd1,TD.cl,TD.n1,DW _ _ _,_,rfl,k1.D,_,rfl,Dd h1 hc,k1.c c,dc,_,rfl,Bb,rfl,k1.c c,k1.l c,k1.a c,c,_,_,rfl,h1.BR c hc,(by show 3<=AZ;decide),fun p hp=>?_⟩
   refine q.lay h1 m hp ?_
   have eg:Vm.got (Vm.wrote st c k a b v) c=Vm.got st c++[Vm.IE (CZ st c) c k a b v]:=by
    unfold Vm.wrote
    rw[Vm.Qk hD.good.three hc hc,if_pos rfl]
    rfl
   rw[eg,BZ]
   rfl
def WR (W:Cl):Sp:=fun vs H Q _=>∃(d nd:AA) (kk:Dk) (s:BI) (kvs:List (Key×V)) (c e i:Nat) (x:Ent),vs=[.ref d,.ref nd]/\Bc W H d kk s/\H nd=some (.dK kvs)/\A7 c/\A7 e/\Num kvs "c" c/\Num kvs "d" e/\Num kvs "i" i/\(Vm.got s c)[i]? =some x/\
 Ge W H d kk (Hy s e (FD (CZ s e) x)) [0,if Dy (Vm.got s e) x=true then 0 else 1] Q
theorem bR:BD ["desk","numbers","giver","taker"] ["desk","numbers"] (As VJ):={}
theorem Bc.taken {H H':Hp} {d:AA} {kk:Dk} {s:BI} (hD:Bc W H d kk s) {c e:Nat} (hc:A7 c) (he:A7 e) {x:Ent} (hx:x∈Vm.got s c) {as':List AA}
 (C2:Dt W.CC W.CE H' (kk.c e) (kk.l e) as' e (FD (CZ s e) x).clock (FD (CZ s e) x).got) (bt:SW H H' (kk.c e) (kk.l e)):
 Bc W H' d { kk with a:=fun j=>if j=e then as' else kk.a j } (Hy s e (FD (CZ s e) x))/\Mv H H' d kk { kk with a:=fun j=>if j=e then as' else kk.a j }:=by
 obtain⟨o1,o2,o3,o4⟩:=Vm.AAU hD.good hc hx
 have hg:=Vm.wV hD.good he o1 o2 o3 o4
 have hw:=Vm.qM hD.good he o1 o2
 obtain⟨dx,hd⟩:=hD.ins
 have hdc:=hD.YH he
 have hdl:d≠kk.l e:=B9 hd (hD.BR e he).ents.lst (by intro z;cases z)
 have h':=hD.put he (as:=as') (x:=FD (CZ s e) x) rfl hg C2 ⟨dx,by rw[hw];exact bt d _ hd hdc hdl⟩ fun b o eo _ h2 h3=>bt b o eo h2 h3
 exact⟨h',Mv.of h' (fun _=>Iff.rfl) fun b o eo h=>bt b o eo (fun z=>h (.inr (.inr (.inr ⟨e,he,.inl z⟩)))) fun z=>h (.inr (.inr (.inr ⟨e,he,.inr z⟩)))⟩
theorem AA2 {f fT:AA} {fd E6:A2} (F:A0 K "hand" "hand" VJ f fd) (TD:DI K W.CD) (TC:Cq K W.CC)
 (GT:Aa P w K mg base Ag 3 fT E6 ["self","entry"] (Wc W.CC W.CE)) (bT:Binds K E6 ["self","entry"] []) (mT:Meth K W.CC "take" fT):
 Aa P w K mg base Ag 4 f fd ["desk","numbers"] (WR W):=by
 refine F.ok bR (fun vs H Q E h=>?_) (fun Al A outer s H vs Q E hr h=>?_)
 . obtain⟨d,nd,kk,s,kvs,c,e,i,x,rfl,_⟩:=h
   rfl
 . obtain⟨d,nd,kk,st,kvs,c,e,i,x,rfl,hD,hn,hc,he,gc,ge,gi,hx,q⟩:=h
   obtain⟨dx,hd⟩:=hD.ins
   obtain⟨⟨dc,Bb⟩,hE⟩:=hD.BR c hc
   obtain⟨⟨de,hce⟩,Lj⟩:=hD.BR e he
   have hu:=DC hr
   refine⟨_,AX (A5 (i:=2) bR.nd rfl (Ad rfl) (Ah hu (Ay (pv 0) rfl) (Ah hu (pv 1) Aw)))
    (AX (A5 (i:=3) bR.nd rfl (Ad rfl) (Ah hu (Ay (pv 0) rfl) (Ah hu (pv 1) Aw)))
    (Ac (A4 (DE (AH Ax (AH (IH (pv 3) TC.cl mT GT hr bT .nil CV (AH (Br Df (Ay (pv 2) rfl) (Ah hu (pv 1) Aw)) AK)) AK)))))),?_⟩
   refine⟨_,rfl,d,W.CD,dx,_,_,rfl,hd,TD.cl,TD.n1,DW _ _ _,_,rfl,nd,_,rfl,BE hn gc,kk.D,_,rfl,Dd hD hc,?_⟩
   refine⟨_,rfl,d,W.CD,dx,_,_,rfl,hd,TD.cl,TD.n1,DW _ _ _,_,rfl,nd,_,rfl,BE hn ge,kk.D,_,rfl,Dd hD he,?_⟩
   have Nc:x∈Vm.got st c:=G7 hx
   obtain⟨ax,hax,hex⟩:=Paired.get? hE.ent hx
   refine⟨_,rfl,kk.c e,de,_,rfl,hce,rfl,_,rfl,kk.c c,W.CC,dc,_,_,rfl,Bb,TC.cl,TC.n3,Er _ _ _,_,rfl,nd,_,rfl,BE hn gi,kk.l c,_,_,_,rfl,rfl,AQ.of hE.lst,at_of (j:=i) (v:=.ref ax) rfl (by rw[CM,hax];rfl),?_⟩
   refine⟨kk.c e,kk.l e,ax,kk.a e,e,(CZ st e).clock,Vm.got st e,x,rfl,hD.BR e he,hex,BP (Vm.FG hD.good he) (by decide),fun H1 as' C2 bt=>⟨(by show 2<=AZ;decide),fun p hp=>?_⟩⟩
   obtain⟨h1,m⟩:=hD.taken hc he Nc C2 bt
   refine q.lay h1 m hp ?_
   by_cases hb:Dy (Vm.got st e) x=true
   . rw[if_pos hb,if_pos hb];rfl
   . rw[if_neg hb,if_neg hb];rfl
def WK (W:Cl):Sp:=fun vs H Q _=>∃(d nd:AA) (kk:Dk) (s:BI) (kvs:List (Key×V)) (c j k m:Nat),vs=[.ref d,.ref nd]/\Bc W H d kk s/\H nd=some (.dK kvs)/\A7 c/\Num kvs "c" c/\Num kvs "j" j/\Num kvs "k" k/\Num kvs "m" m/\s.decisions.length < 60/\
 Ge W H d kk (decided s j c k m) [0,(A3 (Vm.got s c) k m:Int)] Q
theorem Vx:BD ["desk","numbers","c","key","minute"] ["desk","numbers"] (As VA):={}
theorem AAs {f fD:AA} {fd jD:A2} (F:A0 K "decide" "decide" VA f fd) (TD:DI K W.CD) (TC:Cq K W.CC)
 (GD:Aa P w K mg base Ag 3 fD jD ["self","number","c","key","minute"] (cB W)) (bD:Binds K jD ["self","number","c","key","minute"] []) (mD:Meth K W.CD "decide" fD)
 (Qi:Gm P w K mg base W.CC 4 "knows" ["self","key","minute"] (Rw W.CC W.CE)):
 Aa P w K mg base Ag 5 f fd ["desk","numbers"] (WK W):=by
 refine F.ok Vx (fun vs H Q E h=>?_) (fun Al A outer s H vs Q E hr h=>?_)
 . obtain⟨d,nd,kk,s,kvs,c,j,k,m,rfl,_⟩:=h
   rfl
 . obtain⟨d,nd,kk,st,kvs,c,j,k,m,rfl,hD,hn,hc,gc,gj,gk,gm,hw,q⟩:=h
   obtain⟨dx,hd⟩:=hD.ins
   have hu:=DC hr
   refine⟨_,AX (A5 (i:=2) Vx.nd rfl (Ad rfl) (Ah hu (pv 1) Aw))
    (AX (A5 (i:=3) Vx.nd rfl (Ad rfl) (Ah hu (pv 1) Aw))
    (AX (A5 (i:=4) Vx.nd rfl (Ad rfl) (Ah hu (pv 1) Aw))
    (AX (E8 (IH (pv 0) TD.cl mD GD (hr.mono (by decide)) bD .nil CV (AH (Ah hu (pv 1) Aw) (AH (pv 2) (AH (pv 3) (AH (pv 4) AK))))))
    (Ac (A4 (DE (AH Ax (AH (Gu Qi TC.cl (Ah hu (Ay (pv 0) rfl) (pv 2)) hr (AH (pv 3) (AH (pv 4) AK))) AK)))))))),?_⟩
   refine⟨_,rfl,nd,_,rfl,BE hn gc,?_⟩
   refine⟨_,rfl,nd,_,rfl,BE hn gk,?_⟩
   refine⟨_,rfl,nd,_,rfl,BE hn gm,?_⟩
   refine⟨_,rfl,d,dx,_,rfl,hd,rfl,_,rfl,nd,_,rfl,BE hn gj,_,rfl,_,rfl,_,rfl,d,kk,st,j,c,k,m,rfl,hc,hD,hw,fun H1 k1 h1 mv=>?_⟩
   obtain⟨YL,hd1⟩:=h1.ins
   obtain⟨⟨dc,Bb⟩,hE⟩:=h1.BR c hc
   refine⟨_,rfl,d,W.CD,YL,_,_,rfl,hd1,TD.cl,TD.n1,DW _ _ _,_,rfl,k1.D,_,rfl,Dd h1 hc,k1.c c,dc,_,rfl,Bb,rfl,_,rfl,_,rfl,k1.c c,k1.l c,k1.a c,c,_,k,m,Vm.got st c,rfl,h1.BR c hc,fun H2 s2=>⟨(by show 2<=AZ;decide),fun p hp=>?_⟩⟩
   exact q.lay (h1.same s2) (mv.trans (Mv.same s2)) hp rfl
def synced (s:BI) (c e:Nat):Vbedak.Centre:=(Vbedak.byStamp (Vm.got s c)).foldl FD (CZ s e)
def Wb (W:Cl):Sp:=fun vs H Q _=>∃(d nd:AA) (kk:Dk) (s:BI) (kvs:List (Key×V)) (c e:Nat),vs=[.ref d,.ref nd]/\Bc W H d kk s/\H nd=some (.dK kvs)/\A7 c/\A7 e/\c≠e/\Num kvs "c" c/\Num kvs "d" e/\
 Ge W H d kk (Hy s e (synced s c e)) [0,((synced s c e).got.length - (Vm.got s e).length:Nat)] Q
theorem OG:BD ["desk","numbers","giver","taker","new","entry"] ["desk","numbers"] (As Vk):={}
theorem ADp {H:Hp} {C a:AA} {e:Ent} (h:CY C H a e):Ol (J1 C) H (.ref a) (stI e):=fun H1 Q s1 k=>⟨a,e,rfl,h.same s1,fun q hq=>k _ q (Ao hq) AO⟩
theorem nJ {α β:Type} (f:α->β):∀l:List α,Ar (fun x y=>y=f x) l (l.map f)
 | []=>.nil
 | x::r=>.cons rfl (nJ f r)
theorem lq {α β:Type} {f:α->β}:∀{l:List α} {m:List β},Ar (fun x y=>y=f x) l m->m=l.map f
 | _,_,.nil=>rfl
 | _,_,.cons r t=>by rw[CP,<-lq t,r]
theorem ADf {H:Hp} {C:AA} {as:List AA} {es:List Ent} (hE:Ar (CY C H) as es) {ps:List (List Int×V)} (hp:ps.Perm ((es.map stI).zip (as.map V.ref))) (hs:ps.Pairwise fun p q=>HT.lexLt q.1 p.1=false):
 ∃(bs:List AA) (xs:List Ent),ps.map (·.2)=bs.map V.ref/\Ar (CY C H) bs xs/\xs.Perm es/\Vm.Ij xs:=by
 have ez:(es.map stI).zip (as.map V.ref)=(es.zip as).map fun x=>(stI x.1,V.ref x.2):=by
  rw[List.zip_map]
  rfl
 rw[ez] at hp
 obtain⟨zs,pz,hz⟩:=Paired.perm hp (nJ (fun x:Ent×AA=>(stI x.1,V.ref x.2)) (es.zip as))
 have eps:=lq hz
 subst eps
 refine⟨zs.map (·.2),zs.map (·.1),?_,?_,?_,?_⟩
 . rw[Dq,Dq]
   rfl
 . have hm:∀z∈zs,CY C H z.2 z.1:=fun z hz'=>by
    have hm:=pz.mem_iff.mp hz'
    obtain⟨i,hi⟩:=Mb hm
    rw[XM] at hi
    obtain⟨e',h1,h2⟩:=Paired.DJ hE hi.2
    have ee:e'=z.1:=CL (h1.symm.trans hi.1)
    rw[<-ee]
    exact h2
   have go:∀l:List (Ent×AA),(∀z∈l,CY C H z.2 z.1)->Ar (CY C H) (l.map (·.2)) (l.map (·.1)):=by
    intro l
    induction l with
    | nil=>intro _;exact .nil
    | cons z r ih=>intro h;exact .cons (h z Bl) (ih fun y hy=>h y (B2 _ hy))
   exact go zs hm
 . have h1:=pz.map (·.1)
   have h2:(es.zip as).map (·.1)=es:=by
    rw[List.map_fst_zip]
    rw[Paired.len hE]
    exact Aj _
   rwa[h2] at h1
 . unfold Vm.Ij
   rw[XT] at hs ⊢
   refine hs.imp fun {x y} h=>?_
   rw[lV] at h
   exact h
theorem ABX {f fT fS:AA} {fd E6 Ke:A2} (F:A0 K "sync" "sync" Vk f fd) (TD:DI K W.CD) (TC:Cq K W.CC) (TE:FY K W.CE) (m1:mg "sorted"=none)
 (GT:Aa P w K mg base Ag 3 fT E6 ["self","entry"] (Wc W.CC W.CE)) (bT:Binds K E6 ["self","entry"] []) (mT:Meth K W.CC "take" fT)
 (Fs:A0 K "stamp_of" "stamp_of" MF fS Ke) (bS:Binds K Ke ["entry"] []) (mS:mg "stamp_of"=some (.ref fS)):
 Aa P w K mg base Ag 4 f fd ["desk","numbers"] (Wb W):=by
 have GS:Aa P w K mg base Ag 1 fS Ke ["entry"] (J1 W.CE):=Ul Fs TE
 refine F.ok OG (fun vs H Q E h=>?_) (fun Al A outer s H vs Q E hr h=>?_)
 . obtain⟨d,nd,kk,s,kvs,c,e,rfl,_⟩:=h
   rfl
 . obtain⟨d,nd,kk,st,kvs,c,e,rfl,hD,hn,hc,he,hce,gc,ge,q⟩:=h
   obtain⟨dx,hd⟩:=hD.ins
   obtain⟨⟨dc,Bb⟩,hE⟩:=hD.BR c hc
   have hu:=DC hr
   refine⟨_,AX (A5 (i:=2) OG.nd rfl (Ad rfl) (Ah hu (Ay (pv 0) rfl) (Ah hu (pv 1) Aw)))
    (AX (A5 (i:=3) OG.nd rfl (Ad rfl) (Ah hu (Ay (pv 0) rfl) (Ah hu (pv 1) Aw)))
    (AX (A5 (i:=4) OG.nd rfl (Ad rfl) Ax)
    (AX (El PassesOwn.never rfl (Dl (ABw GS hr bS rfl m1 rfl mS (AH (Ay (pv 2) rfl) AK))) (CW (i:=5) OG.nd rfl (Ad rfl))
     (Ac (A5 (i:=4) OG.nd rfl (Ad rfl) (DF Fz (pv 4) (IH (pv 3) TC.cl mT GT hr bT .nil CV (AH (pv 5) AK))))))
    (Ac (A4 (DE (AH Ax (AH (pv 4) AK)))))))),?_⟩
   refine⟨_,rfl,d,W.CD,dx,_,_,rfl,hd,TD.cl,TD.n1,DW _ _ _,_,rfl,nd,_,rfl,BE hn gc,kk.D,_,rfl,Dd hD hc,?_⟩
   refine⟨_,rfl,d,W.CD,dx,_,_,rfl,hd,TD.cl,TD.n1,DW _ _ _,_,rfl,nd,_,rfl,BE hn ge,kk.D,_,rfl,Dd hD he,?_⟩
   refine⟨_,rfl,kk.c c,W.CC,dc,_,_,rfl,Bb,TC.cl,TC.n3,Er _ _ _,kk.l c,(kk.a c).map V.ref,(Vm.got st c).map stI,rfl,AQ.of hE.lst,?_,?_,fun ps H1 D s1 hp hs Lh=>?_⟩
   . have go:∀{as:List AA} {es:List Ent},Ar (CY W.CE H) as es->Ar (fun ns x=>Ol (J1 W.CE) H x ns) (es.map stI) (as.map V.ref):=by
      intro as es h
      induction h with
      | nil=>exact .nil
      | cons r t ih=>exact .cons (ADp r) ih
     exact go hE.ent
   . intro ns hns
     obtain⟨x,_,rfl⟩:=Dc.mp hns
     intro z
     cases z
   . obtain⟨bs,xs,eb,hB,hpx,hsx⟩:=ADf (hE.same s1).ent hp hs
     have hxs:xs=Vbedak.byStamp (Vm.got st c):=Vm.rj hsx hpx (hD.good.once c hc)
     rw[eb]
     have s2:Same H1 (upd H1 D (.lst (bs.map V.ref))):=Ao Lh
     have s12:=s1.trans s2
     have hlb:=Paired.len hB
     refine⟨D,rfl,⟨_,AQ.of AO⟩,Ir (K:=K) (a:=D) (xs:=bs.map V.ref) (fun i σ H'=>∃(z:Option V) (k1:Dk),σ=[some (.ref d),some (.ref nd),some (.ref (kk.c c)),some (.ref (kk.c e)),some (nI (((xs.take i).foldl FD (CZ st e)).got.length - (Vm.got st e).length)),z]/\
      H' D=some (.lst (bs.map V.ref))/\Ar (CY W.CE H') bs xs/\Bc W H' d k1 (Hy st e ((xs.take i).foldl FD (CZ st e)))/\k1.c=kk.c/\k1.l=kk.l/\Mv H H' d kk k1)
      ⟨none,kk,?_,AO,Paired.Be hB fun a x h=>h.same s2,?_,rfl,rfl,Mv.same s12⟩ (fun i σ H' _ ⟨_,_,_,h3,_⟩=>AQ.of h3) ?_ ?_⟩
     . rw[Ou,List.foldl_nil]
       show _=[some (V.ref d),some (.ref nd),some (.ref (kk.c c)),some (.ref (kk.c e)),some (nI ((Vm.got st e).length - (Vm.got st e).length)),none]
       rw[Oz]
       rfl
     . rw[Ou,List.foldl_nil,Vm.ADT hD.good.three he]
       exact hD.same s12
     . rintro i y σ H2 hi ⟨z,k1,rfl,h3,hB2,BU,ec,el,mv⟩
       obtain⟨ax,hax,rfl⟩:=EA hi
       obtain⟨x,hx,hex⟩:=Paired.DJ hB2 hax
       have hxc:x∈Vm.got st c:=hpx.mem_iff.mp (G7 hx)
       generalize hy:(xs.take i).foldl FD (CZ st e)=yc at BU
       have hstep:(xs.take (i+1)).foldl FD (CZ st e)=FD yc x:=by rw[C6 hx,Sg,hy];rfl
       have T9:CZ (Hy st e yc) e=yc:=by rw[Vm.Mx hD.good.three he he,if_pos rfl]
       have xO:Vm.got (Hy st e yc) c=Vm.got st c:=by rw[Vm.Qk hD.good.three he hc,if_neg hce]
       have Qm:=BU.BR e he
       rw[ec,el] at Qm
       have j5:Vm.got (Hy st e yc) e=yc.got:=congrArg Vbedak.Centre.got T9
       obtain⟨de,hde⟩:=Qm.ins
       rw[T9,j5] at Qm
       have Fe:=Vm.FG BU.good he
       rw[j5] at Fe
       refine⟨_,rfl,_,rfl,kk.c e,de,_,rfl,hde,rfl,_,rfl,kk.c e,kk.l e,ax,k1.a e,e,yc.clock,yc.got,x,rfl,Qm,hex,BP Fe (by decide),fun H3 as' C2 bt=>?_⟩
       have kH:(Vm.got st e).length<=yc.got.length:=by
        have:=Vm.oI (xs.take i) (CZ st e)
        rw[hy] at this
        exact this
       have xg:(FD yc x).got.length=yc.got.length+if Dy yc.got x=true then 0 else 1:=by
        rw[Vm.aQ]
        split
        . rfl
        . rw[BZ];rfl
       have qQ:Dt W.CC W.CE H3 (k1.c e) (k1.l e) as' e (FD (CZ (Hy st e yc) e) x).clock (FD (CZ (Hy st e yc) e) x).got:=by
        rw[T9,ec,el]
        exact C2
       have rV:SW H2 H3 (k1.c e) (k1.l e):=by rw[ec,el];exact bt
       obtain⟨h4,m4⟩:=BU.taken hc he (by rw[xO];exact hxc) qQ rV
       rw[T9,Vm.set_set] at h4
       have wk:D≠kk.l e:=fun z=>by
        have:=(hD.same s1).BR e he |>.ents.lst
        rw[<-z,Lh] at this
        cases this
       have wj:D≠kk.c e:=B9 h3 hde (by intro z;cases z)
       have Jm:=Qm.ents.lst
       have xG:=hde
       refine⟨_,_,rfl,rfl,some (.ref ax),{ k1 with a:=fun j=>if j=e then as' else k1.a j },?_,bt _ _ h3 wj wk,Paired.Be hB2 fun a' x' h=>?_,by rw[hstep];exact h4,ec,el,mv.trans m4⟩
       . rw[hstep,xg]
         have en:((yc.got.length - (Vm.got st e).length:Nat):Int)+((if Dy yc.got x=true then 0 else 1:Nat):Int)=((yc.got.length+(if Dy yc.got x=true then 0 else 1) - (Vm.got st e).length:Nat):Int):=by
          split <;> lia
         show [some (V.ref d),some (.ref nd),some (.ref (kk.c c)),some (.ref (kk.c e)),some (V.int (((yc.got.length - (Vm.got st e).length:Nat):Int)+((if Dy yc.got x=true then 0 else 1:Nat):Int))),some (.ref ax)]=_
         rw[en]
         rfl
       . have h1:=h.L4 Jm
         have h2:=h.L3 xG
         obtain⟨dq,h⟩:=h
         exact⟨dq,bt _ _ h h2 h1⟩
     . rintro σ H2 ⟨z,k1,rfl,h3,hB2,BU,ec,el,mv⟩
       have hl:xs.take (bs.map V.ref).length=xs:=DN (by rw[AR,hlb];exact Aj _)
       rw[hl,hxs] at BU
       rw[hl,hxs]
       exact⟨_,rfl,(by show 2<=AZ;decide),fun p hp=>q.lay BU mv hp rfl⟩
end
end My
namespace L2
open PySem PySem.Spec PyProof.Rows
def Callee (X:Cx) (CX:FT) (k:Nat) (f:AA) (ps:List AG) (sp:Sp):Prop:=
 D9 X.K (.ref f)=true/\∃fd,Binds X.K fd ps []/\Aa X.prog X.w X.K X.mg X.base CX k f fd ps sp
def ADw (X:Cx) (CX:FT) (k:Nat) (E:XK) (tf:TE) (t:TA):TE:=fun σ H Q=>tf σ H fun x H1=>∃f ps sp,x= .ref f/\Callee X CX k f ps sp/\t σ H1 fun vs H2=>sp vs H2 Q E
section
variable {X:Cx} {CX:FT} {k:Nat} {E:XK} {x:AG} {p pos:Bt} {e:Az} {es:List Az} {tf:TE} {t:TA}
theorem ABq (hf:PE X (.Name x p) tf) (hr:BW k X.A) (hx:Ja CX X E) (ha:PA X (e::es) t) (he:Bo (e::es) X.env=(false,eval e X.env)::Bo es X.env:=by rfl)
 (Cr:(backTo pos (Bo es X.env)).any (·.1)=false:=by rfl):PE X (.Call (.Name x p) (e::es) [] pos) (ADw X CX k E tf t):=by
 intro pins s σ H Q I h
 refine K5 (Bv (hf pins s σ H _ I h) fun u s1 ⟨y,H1,I1,ry,f,ps,sp,ey,⟨hk,fd,hb,F⟩,q⟩=>?_)
 subst ey
 obtain rfl:u=Cv f:=ry
 refine Xh (h₀:=X.base) I.ok.mod.Nh hk (Bh (ha pos pins s1 σ H1 _ I1 q) fun us s2 vs H2 I2 r q2=>⟨I2.Ff,?_⟩) he Cr
 exact RY F hr hb .nil hx I2 r (by rw[EG];exact q2)
end
def KD (P:Av) (w:Am) (K:AW) (a:AA) (kvs:List (Key×V)):Prop:=(a==Gb)=false/\
 ∃(o:Aq) (es:Array Gf) (ep:Nat) (vs:List (Key×AF)),K.lookup a=some o/\o.ExactDict/\o.data= .dict es ep/\KeysOf (EZ P w) es/\Pairs (EZ P w) es.toList vs/\(vs.map (·.1)).Nodup/\KV kvs vs
section
variable {X:Cx} {pins:List (AA×Aq)} {σ:St} {H:Hp} {s:AI} {a:AA} {kvs:List (Key×V)} {k:Key} {v:V} {u:AF} {A:Bf} {E:AF->AI->Prop}
theorem KD.on (I:Inv X pins σ H s) (g:KD X.prog X.w X.K a kvs):(a==Gb)=false/\∃vs,KV kvs vs/\s.heap.DictOf (EZ X.prog X.w) a vs:=by
 obtain⟨h0,o,es,ep,vs,h1,h2,h3,h4,h5,h6,h7⟩:=g
 exact⟨h0,vs,h7,o,es,ep,I.Ff a o h1,h2,h3,h4,h5,h6⟩
end
def AD7 (X:Cx) (td ty:TE):TE:=fun σ H Q=>td σ H fun x H1=>ty σ H1 fun y H2=>∃a kvs k v,x= .ref a/\y=kV k/\KD X.prog X.w X.K a kvs/\Bq kvs k=some v/\Q v H2
def AD8 (X:Cx) (ty td:TE):TE:=fun σ H Q=>ty σ H fun y H1=>td σ H1 fun x H2=>∃a kvs k,x= .ref a/\y=kV k/\KD X.prog X.w X.K a kvs/\Q (.bl (Bq kvs k).isSome) H2
section
variable {X:Cx} {o i e value:Az} {pos pos' tpos:Bt} {td ty tv:TE}
theorem nR (ho:PE X o td) (hi:PE X i ty) (hs:Xc i:=by exact fun _ _=>rfl):PE X (.Subscript o i pos) (AD7 X td ty):=by
 intro pins s σ H Q I h
 refine pP PySem.F.slot_dict_getitem.lookup hs (Bh (ho pins s σ H _ I h) fun u s1 x H1 I1 rx q1=>Bv (hi pins s1 σ H1 _ I1 q1) fun iv s2 ⟨y,H2,I2,ry,a,kvs,k,v,ex,ey,g,l,q2⟩=>?_)
 subst ex ey
 obtain rfl:u=Cv a:=rx
 obtain⟨hd,vs,rel,dd⟩:=g.on I2
 obtain⟨w',hw,IJ⟩:=FX.some_of (v:=v) (o:=valueAt vs k) (by rw[<-l];exact rel.val k)
 exact⟨dd.typeIs,wpAny_getItem_of (Kn ry) dd.mapOf hw ⟨v,H2,I2.tok _,IJ,q2⟩⟩
theorem ABo (hi:PE X i ty) (ho:PE X o td):PC X .In i o (AD8 X ty td):=by
 intro pins s σ H Q I h
 refine Bh (hi pins s σ H _ I h) fun iv s1 y H1 I1 ry q1=>Bv (ho pins s1 σ H1 _ I1 q1) fun u s2 ⟨x,H2,I2,rx,a,kvs,k,ex,ey,g,q2⟩=>?_
 subst ex ey
 obtain rfl:u=Cv a:=rx
 obtain⟨hd,vs,rel,dd⟩:=g.on I2
 refine wpAny_in_of (Kn ry) hd dd.mapOf ?_
 rw[<-(rel.val k).Ng]
 exact⟨.bl _,H2,I2.tok _,rfl,q2⟩
end
end L2
namespace My
open PySem PySem.Spec PyProof.Rows L2
def Ak (K:AW) (mg:AG->Option AF) (x:AG) (st:Au):Prop:=∃f fd,mg x=some (.ref f)/\A0 K x x st f fd
def KMeth (K:AW) (C:AA) (m Bp:AG) (st:Au):Prop:=∃f fd,Meth K C m f/\A0 K m Bp st f fd
def MX (K:AW) (C:AA) (Bp:AG) (st:Au):Prop:=∃f fd,Mk K C f/\A0 K "__init__" Bp st f fd
section
variable {K:AW} {h:Ae} {mg:AG->Option AF}
theorem yp {x:AG} {st:Au} {f:AA} {oc:AF} {od an:Option AA} {osl:Array (Option AF)} {kV doc pm Al ct:AF} (X:K.In h) (G:h.Ns Hm mg) (a:PySem.W.nsIn K Hm x=some (some (.ref f)))
 (l:K.lookup f=some ⟨oc,od,.func (Ig x x (Jf st) (Io st) (As st) .none kV doc pm an Al ct),osl⟩)
 (c:O3 K Al x=true) (k:D9 K (.ref f)=true):Ak K mg x st:=⟨f,_,CF X G a,Yi l c k⟩
theorem lJ {C:AA} {x Bp:AG} {st:Au} {f:AA} {oc:AF} {od an:Option AA} {osl:Array (Option AF)} {kV doc pm Al ct:AF} (a:Ie K (.ref C) x=some (some (.ref f))) (i:Sx K (.ref f)=true)
 (l:K.lookup f=some ⟨oc,od,.func (Ig x Bp (Jf st) (Io st) (As st) .none kV doc pm an Al ct),osl⟩)
 (c:O3 K Al Bp=true) (k:D9 K (.ref f)=true):KMeth K C x Bp st:=⟨f,_,⟨a,i,k⟩,Yi l c k⟩
theorem RB {C:AA} {Bp:AG} {st:Au} {f:AA} {oc:AF} {od an:Option AA} {osl:Array (Option AF)} {kV doc pm Al ct:AF} (mk:fP K C=true) (kc:D9 K (.ref C)=true) (a:Ie K (.ref C) "__init__"=some (some (.ref f))) (i:Sx K (.ref f)=true)
 (l:K.lookup f=some ⟨oc,od,.func (Ig "__init__" Bp (Jf st) (Io st) (As st) .none kV doc pm an Al ct),osl⟩)
 (c:O3 K Al Bp=true) (k:D9 K (.ref f)=true):MX K C Bp st:=⟨f,_,⟨mk,a,i,kc⟩,Yi l c k⟩
end
structure dn (K:AW) (mg:AG->Option AF) (C:AA):Prop where
 at_:mg "Entry"=some (.ref C)
 T:FY K C
 i:MX K C "Entry.__init__" Rf
structure dj (K:AW) (mg:AG->Option AF) (C:AA):Prop where
 at_:mg "Centre"=some (.ref C)
 T:Cq K C
 i:MX K C "Centre.__init__" Rc
 m1:KMeth K C "tick_now" "Centre.tick_now" bF
 m2:KMeth K C "at_tick" "Centre.at_tick" aj
 m3:KMeth K C "has" "Centre.has" VL
 m4:KMeth K C "write" "Centre.write" au
 m5:KMeth K C "take" "Centre.take" a9
 m6:KMeth K C "knew" "Centre.knew" ao
 m7:KMeth K C "knows" "Centre.knows" aq
 m8:KMeth K C "first_tick" "Centre.first_tick" a6
 m9:KMeth K C "entries_if_written" "Centre.entries_if_written" a7
structure dm (K:AW) (mg:AG->Option AF) (C:AA):Prop where
 at_:mg "Desk"=some (.ref C)
 T:DI K C
 i:MX K C "Desk.__init__" ay
 m1:KMeth K C "begin" "Desk.begin" ak
 m2:KMeth K C "write" "Desk.write" az
 m3:KMeth K C "decide" "Desk.decide" aw
 m4:KMeth K C "has_decision" "Desk.has_decision" VM
end My
namespace L2
open PySem PySem.Spec PyProof.Rows
theorem vG {d:AA} {o:Aq} {kvs:List (Key×V)} {g:TG} {tb:TS} {D:Ends} {σ:St} {H:Hp} (Pv:Nat->St->Hp->Prop) (h0:Pv 0 σ H) (hl:∀i σ H,i<=kvs.length->Pv i σ H->H d=some (.CG o (.dK kvs)))
 (hs:∀i k v σ H,kvs[i]? =some (k,v)->Pv i σ H->g (kV k) σ H fun σ2 H2=>tb { D with nx:=Pv (i+1),ct:=Pv (i+1),bk:=D.nx } σ2 H2) (hd:∀σ H,Pv kvs.length σ H->D.nx σ H):
 ∃W:Nat->Nat->St->Hp->Prop,(∃m,W 0 m σ H)/\∀i m σ H,W i m σ H->
  ((Oi d o kvs).stop i H/\D.nx σ H)\/((Oi d o kvs).go i H/\∃N:St->Hp->Prop,(∀σ' H',N σ' H'->∃m',m' < m/\W (i+1) m' σ' H')/\∀x H',(Oi d o kvs).HW i H x H'->g x σ H' fun σ2 H2=>tb { D with nx:=N,ct:=N,bk:=D.nx } σ2 H2):=by
 refine⟨fun i m σ H=>m=kvs.length - i/\i<=kvs.length/\Pv i σ H,⟨kvs.length,by simp,Ci _,h0⟩,?_⟩
 rintro i m σ H ⟨rfl,hi,p⟩
 have q:=hl i σ H hi p
 by_cases A1:i < kvs.length
 . refine .inr ⟨⟨q,A1⟩,Pv (i+1),fun σ' H' p'=>⟨kvs.length - (i+1),by lia,rfl,A1,p'⟩,fun x H' y=>?_⟩
   obtain⟨e,k,v,hk,ex⟩:=y
   subst e ex
   exact hs i k v σ _ hk p
 . have e:i=kvs.length:=by lia
   subst e
   exact .inl ⟨⟨q,Aj _⟩,hd σ H p⟩
theorem pk {H:Hp} {d:AA} {u o:HO} (h:H d=some u):upd (upd H d o) d u=H:=by
 funext c
 by_cases e:c=d
 . rw[e,AO,h]
 . rw[AV e,AV e]
end L2
namespace My
open PySem PySem.Spec PyProof.Rows L2
abbrev Item:=Sum Int (List Int)
def Oh (H:Hp) (v:V):Item->Prop
 | .inl z=>v= .int z
 | .inr l=>∃p,v= .ref p/\H p=some (.lst (l.map V.int))
theorem Oh.same {H H':Hp} {v:V} {it:Item} (h:Oh H v it) (s:Same H H'):Oh H' v it:=by
 cases it with
 | inl z=>exact h
 | inr l=>
  obtain⟨p,h1,h2⟩:=h
  exact⟨p,h1,s _ _ h2⟩
abbrev B1:=List (AG×Item)
def A8 (AB:B1) (x:AG):Option Item:=(AB.find? fun r=>decide (r.1=x)).map (·.2)
def XD (H:Hp) (kv:Key×V) (it:AG×Item):Prop:=kv.1=B7 it.1/\Oh H kv.2 it.2
structure Ee (H:Hp) (nd:AA) (kvs:List (Key×V)) (AB:B1):Prop where
 at_:H nd=some (.dK kvs)
 all:Ar (XD H) kvs AB
 once:(AB.map (·.1)).Nodup
theorem Ee.same {H H':Hp} {nd:AA} {kvs:List (Key×V)} {AB:B1} (h:Ee H nd kvs AB) (s:Same H H'):Ee H' nd kvs AB:=⟨s _ _ h.at_,Paired.Be h.all fun kv it q=>⟨q.1,q.2.same s⟩,h.once⟩
theorem Lz {H:Hp}:∀{kvs:List (Key×V)} {AB:B1} (x:AG),Ar (XD H) kvs AB->(A8 AB x=none/\Bq kvs (B7 x)=none)\/ ∃v it,A8 AB x=some it/\Bq kvs (B7 x)=some v/\Oh H v it
 | _,_,x,.nil=>.inl ⟨rfl,rfl⟩
 | kv::kvs,it::AB,x,.cons r t=>by
  by_cases e:it.1=x
  . refine .inr ⟨kv.2,it.2,?_,HR (by rw[r.1,e]),r.2⟩
    unfold A8
    rw[d7 (by simpa using e)]
    rfl
  . have r1:A8 (it::AB) x=A8 AB x:=by
     unfold A8
     rw[d6 (by simpa using e)]
    have r2:Bq (kv::kvs) (B7 x)=Bq kvs (B7 x):=HQ (fun z=>e (by rw[r.1] at z;exact Mm z))
    rw[r1,r2]
    exact Lz x t
section
variable {H:Hp} {nd:AA} {kvs:List (Key×V)} {AB:B1} {x:AG}
theorem Ee.int (h:Ee H nd kvs AB) {z:Int} (g:A8 AB x=some (.inl z)):Bq kvs (B7 x)=some (.int z):=by
 rcases Lz x h.all with ⟨e,_⟩ | ⟨v,it,e1,e2,e3⟩
 . rw[g] at e;cases e
 . rw[g] at e1
   cases e1
   rw[e2,show v= .int z from e3]
theorem Ee.num (h:Ee H nd kvs AB) {n:Nat} (g:A8 AB x=some (.inl (n:Int))):Num kvs x n:=h.int g
theorem Ee.lst (h:Ee H nd kvs AB) {l:List Int} (g:A8 AB x=some (.inr l)):∃p,Bq kvs (B7 x)=some (.ref p)/\H p=some (.lst (l.map V.int)):=by
 rcases Lz x h.all with ⟨e,_⟩ | ⟨v,it,e1,e2,e3⟩
 . rw[g] at e;cases e
 . rw[g] at e1
   cases e1
   obtain⟨p,h1,h2⟩:=e3
   exact⟨p,by rw[e2,h1],h2⟩
theorem Ee.no (h:Ee H nd kvs AB) (g:A8 AB x=none):Bq kvs (B7 x)=none:=by
 rcases Lz x h.all with ⟨_,e⟩ | ⟨v,it,e1,_⟩
 . exact e
 . rw[g] at e1;cases e1
theorem Fu {v:V} (h:Rd H nd (.dK kvs)) (e:Bq kvs (B7 x)=Option.some v):Fm H nd (.str x) (Option.some v):=.inl ⟨kvs,B7 x,h,rfl,e.symm⟩
theorem TX (h:Rd H nd (.dK kvs)):Fm H nd (.str x) (Bq kvs (B7 x)):=.inl ⟨kvs,B7 x,h,rfl,rfl⟩
end
def O4 (P:Av) (w:Am) (K:AW) (a:AA) (rg:AG->Option (Int×Int)):Prop:=∃kvs,KD P w K a kvs/\
 ∀x,(rg x=none/\Bq kvs (B7 x)=none)\/ ∃lo hi t,rg x=some (lo,hi)/\Bq kvs (B7 x)=some (.ref t)/\∀H:Hp,Ap K H t [.int lo,.int hi]
def J8 (rg:AG->Option (Int×Int)) (x:AG) (n:Int):Prop:=∀lo hi,rg x=some (lo,hi)->lo<=n/\n<=hi
section
variable {P:Av} {w:Am} {K:AW} {mg:AG->Option AF} {base:Ae}
abbrev Vs:Au:=top 33
abbrev VP:Au:=top 34
def R4 (rg:AG->Option (Int×Int)):Sp:=fun vs H Q _=>∃(x:AG) (n lo hi:Int),vs=[.str x,.int n]/\rg x=some (lo,hi)/\Q (.bl (decide (lo<=n)&&decide (n<=hi))) H
theorem ADI:BD ["letter","number"] ["letter","number"] (As Vs):={}
theorem ABg {f aR:AA} {fd:A2} {rg:AG->Option (Int×Int)} (F:A0 K "within" "within" Vs f fd) (mR:mg "RANGES"=some (.ref aR)) (R:O4 P w K aR rg):Aa P w K mg base Ag 1 f fd ["letter","number"] (R4 rg):=by
 refine F.ok ADI (fun vs H Q E h=>?_) (fun Al A outer s H vs Q E hr h=>?_)
 . obtain⟨x,n,lo,hi,rfl,_⟩:=h
   rfl
 . obtain⟨x,n,lo,hi,rfl,hx,q⟩:=h
   refine⟨_,Ac (A4 (nP Jt Jt (Br D5 (nR (Dg (v:=.ref aR) rfl mR rfl) (pv 0)) Ax) (pv 1)
    (Br D5 (nR (Dg (v:=.ref aR) rfl mR rfl) (pv 0)) Ax))),?_⟩
   obtain⟨kR,T5,hR⟩:=R
   rcases hR x with ⟨e1,_⟩ | ⟨lo',hi',t,e1,e2,e3⟩
   . rw[hx] at e1;cases e1
   . rw[hx] at e1
     cases e1
     refine⟨_,rfl,aR,kR,B7 x,.ref t,rfl,rfl,T5,e2,t,_,0,.int lo,rfl,rfl,e3 _,rfl,_,rfl,_,_,rfl,rfl,_,rfl,?_⟩
     cases h1:decide (lo<=n) with
     | false=>
      rw[h1] at q
      exact BJ q
     | true=>
      rw[h1] at q
      exact A9 ⟨_,rfl,aR,kR,B7 x,.ref t,rfl,rfl,T5,e2,t,_,1,.int hi,rfl,rfl,e3 _,rfl,_,_,rfl,rfl,q⟩
def cP (rg:AG->Option (Int×Int)):Sp:=fun vs H Q _=>∃(nd:AA) (kvs:List (Key×V)) (AB:B1),vs=[.ref nd]/\Ee H nd kvs AB/\(∀x l,A8 AB x=some (.inr l)->rg x=none)/\(∀it,A8 AB "b"=some it->∃a b,A8 AB "a"=some (.inl a)/\it= .inl b)/\
 ∀r:Bool,(r=true↔(∀x n,A8 AB x=some (.inl n)->J8 rg x n)/\∀a b,A8 AB "a"=some (.inl a)->A8 AB "b"=some (.inl b)->a < b)->Q (.bl r) H
theorem oa:BD ["numbers","letter"] ["numbers"] (As VP):={}
theorem jZ {AB:B1} (hn:(AB.map (·.1)).Nodup) {i:Nat} {it:AG×Item} (h:AB[i]? =some it):A8 AB it.1=some it.2:=by
 induction AB generalizing i with
 | nil=>simp at h
 | cons a r ih=>
  obtain⟨h1,h2⟩:=Ib.mp (show (a.1::r.map (·.1)).Nodup from hn)
  cases i with
  | zero=>
   have e:a=it:=CL h
   subst e
   unfold A8
   rw[d7 (by simp)]
   rfl
  | succ i=>
   have h':r[i]? =some it:=h
   have BX:¬a.1=it.1:=fun e=>h1 (by rw[e];exact Dc.mpr ⟨it,G7 h',rfl⟩)
   unfold A8
   rw[d6 (by simpa using BX)]
   exact ih h2 h'
theorem Qj {AB:B1} {x:AG} {it:Item} (h:A8 AB x=some it):∃i:Nat,AB[i]? =some (x,it):=by
 unfold A8 at h
 cases hf:AB.find? fun r=>decide (r.1=x) with
 | none=>rw[hf] at h;cases h
 | some r=>
  rw[hf] at h
  have e:r.2=it:=CL h
  have e1:r.1=x:=by simpa using List.find?_some hf
  obtain⟨i,hi⟩:=Mb (List.mem_of_find?_eq_some hf)
  exact⟨i,by rw[hi,<-e,<-e1]⟩
theorem AA8 {f aR:AA} {fd:A2} {rg:AG->Option (Int×Int)} (F:A0 K "in_range" "in_range" VP f fd) (mR:mg "RANGES"=some (.ref aR)) (R:O4 P w K aR rg) (gW:Gd P w K mg base 1 "within" ["letter","number"] (R4 rg)):
 Aa P w K mg base Ag 2 f fd ["numbers"] (cP rg):=by
 refine F.ok oa (fun vs H Q E h=>?_) (fun Al A outer s H vs Q E hr h=>?_)
 . obtain⟨nd,kvs,AB,rfl,_⟩:=h
   rfl
 . obtain⟨nd,kvs,AB,rfl,hn,hls,Bk,q⟩:=h
   have hu:=DC hr
   refine⟨_,AX (ACP (El PassesOwn.never rfl (ABz (pv 0)) (CW (i:=1) oa.nd rfl (Ad rfl))
    (Ac (C9 (PW.pt (Nv (Ku (ABo (pv 1) (Dg (v:=.ref aR) rfl mR rfl)) (by rfl)) (Nw (Jv (Gw (Bm gW hr rfl (AH (pv 1) (AH (Ah hu (pv 0) (pv 1)) AK))))))))
     (Ac (A4 Ju)) DG))))
    (Ac (A4 (nU (aB (Z8 hu Aw (pv 0)) (by rfl)) (Nr (IG L7 (Ah hu (pv 0) Aw) (Ah hu (pv 0) Aw) (Cy _)))))),?_⟩
   refine⟨nd,_,hn.at_,True.intro,fun od=>?_⟩
   obtain⟨kR,T5,hR⟩:=R
   have hfr:upd H nd (.CG od (.dK kvs)) nd=some (.CG od (.dK kvs)):=AO
   have hrd:Rd (upd H nd (.CG od (.dK kvs))) nd (.dK kvs):=.inr ⟨od,hfr⟩
   have BV:=Paired.len hn.all
   refine⟨_,rfl,nd,od,rfl,.inl ⟨kvs,hfr,vG (d:=nd) (o:=od) (kvs:=kvs) (fun i σ H'=>∃z:Option V,σ=[some (.ref nd),z]/\H'=upd H nd (.CG od (.dK kvs))/\∀(j:Nat) (x:AG) (n:Int),j < i->AB[j]? =some (x,.inl n)->J8 rg x n)
    ⟨none,rfl,rfl,fun j x n hj=>absurd hj (Oy _)⟩ (fun i σ H' _ ⟨_,_,e,_⟩=>by rw[e];exact hfr) ?_ ?_⟩⟩
   . rintro i k v σ H' hk ⟨z,rfl,rfl,Cm⟩
     obtain⟨⟨x,it⟩,CJ,hk1,hk2⟩:=Paired.DJ hn.all hk
     have hk1':k=B7 x:=hk1
     subst hk1'
     have hg:=jZ hn.once CJ
     have nxt:(∀n,it= .inl n->J8 rg x n)->∀(j:Nat) (x:AG) (n:Int),j < i+1->AB[j]? =some (x,.inl n)->J8 rg x n:=fun hi j x' n' hj h1=>by
      by_cases e:j=i
      . subst e
        rw[CJ] at h1
        cases h1
        exact hi n' rfl
      . exact Cm j x' n' (by lia) h1
     refine⟨_,rfl,aR,kR,B7 x,rfl,rfl,T5,_,rfl,?_⟩
     rcases hR x with ⟨e1,e2⟩ | ⟨lo,hi,t,e1,e2,e3⟩
     . rw[e2]
       refine BJ ?_
       exact⟨_,rfl,rfl,nxt fun n _ lo hi e=>by rw[e1] at e;cases e⟩
     . rw[e2]
       refine A9 ?_
       cases it with
       | inr l=>rw[hls x l hg] at e1;cases e1
       | inl n=>
        refine⟨_,rfl,_,rfl,_,rfl,nd,_,rfl,Fu hrd (hn.int hg),x,n,lo,hi,rfl,e1,_,rfl,?_⟩
        cases BQ:(decide (lo<=n)&&decide (n<=hi)) with
        | true=>
         rw[CB,decide_eq_true_eq,decide_eq_true_eq] at BQ
         refine BJ ⟨_,rfl,rfl,nxt fun n' en lo' hi' e=>?_⟩
         cases en
         rw[e1] at e
         cases e
         exact BQ
        | false=>
         refine A9 ⟨hfr,?_⟩
         rw[pk hn.at_]
         refine q false ⟨(fun h=>nomatch h),fun h=>?_⟩
         obtain⟨z1,z2⟩:=h.1 x n hg lo hi e1
         rw[decide_eq_true z1,decide_eq_true z2] at BQ
         cases BQ
   . rintro σ H' ⟨z,rfl,rfl,Cm⟩
     refine⟨hfr,?_⟩
     rw[pk hn.at_]
     have hall':∀x n,A8 AB x=some (.inl n)->J8 rg x n:=fun x n hx=>by
      obtain⟨j,hj⟩:=Qj hx
      have A1:j < AB.length:=(Fo.mp hj).1
      exact Cm j x n (by lia) hj
     refine⟨_,rfl,nd,_,rfl,TX (.inl hn.at_),_,rfl,?_⟩
     cases hb:A8 AB "b" with
     | none=>
      rw[hn.no hb]
      exact A9 (q true ⟨fun _=>⟨hall',fun a b _ h=>by rw[hb] at h;cases h⟩,fun _=>rfl⟩)
     | some it=>
      obtain⟨a,b,ha,rfl⟩:=Bk it hb
      rw[hn.int hb]
      refine BJ ⟨_,rfl,nd,_,rfl,Fu (.inl hn.at_) (hn.int ha),_,rfl,nd,_,rfl,Fu (.inl hn.at_) (hn.int hb),_,_,rfl,rfl,?_⟩
      refine q _ ⟨fun h=>⟨hall',fun a' b' h1 h2=>?_⟩,fun h=>?_⟩
      . rw[ha] at h1
        rw[hb] at h2
        cases h1
        cases h2
        exact of_decide_eq_true h
      . exact decide_eq_true (h.2 a b ha hb)
end
inductive Ml (w:Am) (K:AW):List Gf->List (AG×Int×Int)->Prop
 | nil:Ml w K [] []
 | cons {x:AG} {tk t1 t2:E4} {t:AA} {lo hi:Int} {n:Nat} {od:Option AA} {sl:Array (Option AF)} {es:List Gf} {rs:List (AG×Int×Int)}
  (l:K.lookup t=some ⟨.type "tuple",od,.seq #[.int lo t1,.int hi t2] n,sl⟩) (h:Ml w K es rs):Ml w K (⟨PyData.keyHash w.params x,.str x tk,.ref t⟩::es) ((x,lo,hi)::rs)
def JL (rs:List (AG×Int×Int)) (x:AG):Option (Int×Int):=(rs.find? fun r=>decide (r.1=x)).map (·.2)
theorem Ml.all {P:Av} {w:Am} {K:AW} {es:List Gf} {rs:List (AG×Int×Int)} (h:Ml w K es rs):
 ∃(vs:List (Key×AF)) (kvs:List (Key×V)),(∀e∈es,∃k,(EZ P w).is k e.key=true/\e.hash=(EZ P w).hash k)/\Pairs (EZ P w) es vs/\vs.map (·.1)=rs.map (fun r=>B7 r.1)/\KV kvs vs/\
  ∀x,(JL rs x=none/\Bq kvs (B7 x)=none)\/ ∃lo hi t,JL rs x=some (lo,hi)/\Bq kvs (B7 x)=some (.ref t)/\∀H:Hp,Ap K H t [.int lo,.int hi]:=by
 induction h with
 | nil=>exact⟨[],[],(fun e he=>nomatch he),.nil,rfl,.nil,fun x=>.inl ⟨rfl,rfl⟩⟩
 | @cons x tk t1 t2 t lo hi n od sl es rs l h ih=>
  obtain⟨vs,kvs,a1,a2,a3,a4,a5⟩:=ih
  have hk:Jp (B7 x) (S0 x tk)=true:=beq_self_eq_true _
  refine⟨(B7 x,.ref t)::vs,(B7 x,.ref t)::kvs,fun e he=>?_,.cons hk rfl a2,by rw[CP,CP,a3],.cons ⟨rfl,rfl⟩ a4,fun y=>?_⟩
  . rcases BK.mp he with e1 | e1
    . subst e1
      exact⟨B7 x,hk,rfl⟩
    . exact a1 e e1
  . by_cases e:x=y
    . subst e
      refine .inr ⟨lo,hi,t,?_,?_,fun H=>.inr ⟨_,_,n,l,rfl,rfl,(by show 2<=AZ;decide),.cons ⟨t1,rfl⟩ (.cons ⟨t2,rfl⟩ .nil)⟩⟩
      . unfold JL
        rw[d7 (by simp)]
        rfl
      . exact HR rfl
    . have r1:JL ((x,lo,hi)::rs) y=JL rs y:=by
       unfold JL
       rw[d6 (by simpa using e)]
      have r2:Bq ((B7 x,V.ref t)::kvs) (B7 y)=Bq kvs (B7 y):=HQ (fun z=>e (Mm z))
      rw[r1,r2]
      exact a5 y
theorem ACk {P:Av} {w:Am} {K:AW} {a:AA} {es:Array Gf} {ep:Nat} {rs:List (AG×Int×Int)} (hs:(a==Gb)=false) (l:K.lookup a=some ⟨.type "dict",none,.dict es ep,#[]⟩) (h:Ml w K es.toList rs) (hn:(rs.map (·.1)).Nodup):
 O4 P w K a (JL rs):=by
 obtain⟨vs,kvs,a1,a2,a3,a4,a5⟩:=h.all (P:=P)
 refine⟨kvs,⟨hs,_,es,ep,vs,l,⟨rfl,rfl,rfl⟩,rfl,fun e he=>a1 e (by simpa using he),a2,?_,a4⟩,a5⟩
 rw[a3]
 have e:rs.map (fun r=>(B7 r.1:Key))=(rs.map (·.1)).map B7:=by rw[Dq];rfl
 rw[e]
 exact List.Pairwise.map _ (fun x y hxy z=>hxy (Mm z)) hn
theorem rgc {s n:Nat} (hs:s=2\/s=3) (hn:n<=100000):Mj 0 ((s*n:Nat):Int) (s:Int) n:=by
 have sz:Builtin.Range.rangeSize 0 ((s*n:Nat):Int) (s:Int)=(n:Int):=by
  unfold Builtin.Range.rangeSize
  rcases hs with h | h <;> subst h
  . rw[if_pos (by decide)]
    split <;> lia
  . rw[if_pos (by decide)]
    split <;> lia
 refine⟨by rcases hs with h | h <;> subst h <;> decide,by rcases hs with h | h <;> subst h <;> decide,?_,sz⟩
 unfold Builtin.Range.small
 rw[sz]
 have hs0:(s:Int) > 0:=by rcases hs with h | h <;> subst h <;> decide
 have DS:((s*n:Nat):Int)<=300000:=by rcases hs with h | h <;> subst h <;> lia
 have hs3:(s:Int)<=3:=by rcases hs with h | h <;> subst h <;> decide
 simp only[Builtin.Range.rangeFitsLong,CB,Oc,decide_eq_true_eq,beq_iff_eq,hs0,if_true]
 lia
theorem tN {xs:List V} {s n i:Nat} (hl:xs.length=s*n) (hi:i < n):HD xs (some (0+(i:Int)*(s:Int))) (some (0+(i:Int)*(s:Int)+(s:Int)))=(xs.drop (i*s)).take s:=by
 have e1:(0+(i:Int)*(s:Int))=((i*s:Nat):Int):=by rw[XB,Int.natCast_mul]
 have e2:((i*s:Nat):Int)+(s:Int)=((i*s+s:Nat):Int):=by rw[Int.natCast_add]
 have h1:i*s+s<=s*n:=by
  have:(i+1)*s<=n*s:=Nat.mul_le_mul_right s hi
  rw[Nat.add_mul,Nat.one_mul] at this
  rwa[Nat.mul_comm n s] at this
 unfold HD
 have h2:i*s<=s*n:=by lia
 rw[e1,e2,HT.N2,HT.N2,hl,Ox h1,Ox h2,Nat.add_sub_cancel_left]
section
variable {P:Av} {w:Am} {K:AW} {mg:AG->Option AF} {base:Ae}
abbrev Rk:Au:=top 36
abbrev Rl:Au:=top 37
abbrev Rh:Au:=top 38
abbrev VQ:Au:=top 39
abbrev Ra:Au:=top 40
def eX (H:Hp) (a:AA) (ys:List V):Prop:=H a=some (.lst ys)
def R3 (K:AW):Sp:=fun vs H Q _=>∃(r:AA) (xs:List V) (s n:Nat),vs=[.ref r,nI s]/\AQ K H r xs/\(s=2\/s=3)/\xs.length=s*n/\n<=2000/\
 ∀(H':Hp) (p:AA) (cs:List AA),Same H H'->H p=none->H' p=some (.lst (cs.map V.ref))->Ar (eX H') cs ((Ca n).map fun i=>(xs.drop (i*s)).take s)->Q (.ref p) H'
theorem bp:BD ["row","size","at"] ["row","size"] (As Rk):={}
theorem ABP {f:AA} {fd:A2} (F:A0 K "pieces_of" "pieces_of" Rk f fd) (m1:mg "range"=none) (m2:mg "len"=none):Aa P w K mg base Ag 1 f fd ["row","size"] (R3 K):=by
 refine F.ok bp (fun vs H Q E h=>?_) (fun Al A outer s H vs Q E hr h=>?_)
 . obtain⟨r,xs,s,n,rfl,_⟩:=h
   rfl
 . obtain⟨r,xs,sz,n,rfl,hX,hs,hl,hn,q⟩:=h
   refine⟨_,Ac (A4 (GP rfl bp.nd (nW rfl m1 (AH Ax (AH (Eb F9 (by rfl) m2 F3 (AH (pv 0) AK)) (AH (pv 1) AK)))) (Ep (own:=[("at",2)]) (by show EL ["row","size","at"] (As Rk) _ _=true;decide+kernel))
    (fun _ _ _ _ _=>CW (i:=2) bp.nd rfl (Ad rfl)) (fun _ _ _ _ _=>HM) (fun _ _ _ _ _=>Nt (r:=oC K) OI (pv 0) (II (pv 2)) (II (DF Fz (pv 2) (pv 1)))))),?_⟩
   refine⟨_,rfl,r,_,rfl,.inl hX,_,rfl,0,(xs.length:Int),(sz:Int),n,rfl,?_,fun D hD=>zK (lo:=0) (c:=(sz:Int)) (n:=n)
    (fun i H'=>∃cs:List AA,H' D=some (.lst (cs.map V.ref))/\Same H H'/\Ar (fun a ys=>H' a=some (.lst ys)/\a≠D) cs (((Ca n).map fun i=>(xs.drop (i*sz)).take sz).take i))
    ⟨[],AO,Ao hD,.nil⟩ ?_ ?_⟩
   . rw[hl]
     exact rgc hs (by lia)
   . rintro i H1 hi ⟨cs,Eu,s1,hP⟩
     refine⟨rfl,?_⟩
     unfold Gy
     refine A9 ⟨_,rfl,_,rfl,_,rfl,_,rfl,_,rfl,_,_,rfl,rfl,_,rfl,r,xs,rfl,s1.seq hX,fun t ht=>?_⟩
     have YN:=tN hl hi
     show ∃acc,upd H1 t (.lst (HD xs (some (0+(i:Int)*(sz:Int))) (some (0+(i:Int)*(sz:Int)+(sz:Int))))) D=some (.lst acc)/\_
     rw[YN]
     have st:Same H1 (upd H1 t (.lst ((xs.drop (i*sz)).take sz))):=Ao ht
     have hDt:=st _ _ Eu
     have Q0:t≠D:=fun z=>by rw[z,Eu] at ht;cases ht
     have CH:cs.length<=2000:=by
      rw[Paired.len hP,Ct,AR,Mf]
      lia
     have hget:((Ca n).map fun i=>(xs.drop (i*sz)).take sz)[i]? =some ((xs.drop (i*sz)).take sz):=by rw[CM,XJ hi];rfl
     refine⟨_,hDt,?_,cs++[t],?_,fun b o e=>?_,?_⟩
     . rw[AR]
       exact Fp CH (by decide)
     . rw[AO,Ba]
       rfl
     . rw[AV (BF e hD)]
       exact st _ _ (s1 _ _ e)
     . rw[C6 hget]
       refine Paired.snoc (R:=fun a ys=>_/\a≠D) ⟨by rw[AV Q0,AO],Q0⟩ (Paired.Be hP fun d ys h=>⟨by rw[AV h.2];exact st _ _ h.1,h.2⟩)
   . rintro H1 ⟨cs,Eu,s1,hP⟩
     have DK:((Ca n).map fun i=>(xs.drop (i*sz)).take sz).take n=(Ca n).map fun i=>(xs.drop (i*sz)).take sz:=DN (by rw[AR,Mf];exact Aj _)
     rw[DK] at hP
     exact q H1 D cs s1 hD Eu (Paired.Be hP fun d ys h=>h.1)
theorem oM:∀ns:List Int,Vm.Gx ns=((ns.zip (ns.drop 1)).map fun p=>decide (p.1 < p.2)).all id
 | []=>rfl
 | [_]=>rfl
 | x::y::r=>by
  have ih:=oM (y::r)
  show (decide (x < y)&&Vm.Gx (y::r))=(decide (x < y)&&(((y::r).zip ((y::r).drop 1)).map fun p=>decide (p.1 < p.2)).all id)
  rw[ih]
def cY (K:AW):Sp:=fun vs H Q _=>∃(l:AA) (ns:List Int),vs=[.ref l]/\AQ K H l (ns.map V.int)/\ns.length<=2000/\∀H',Same H H'->Q (.bl (Vm.Gx ns)) H'
theorem V3:BD ["minutes","minute","later"] ["minutes"] (As Rl):={}
theorem Yu {ns:List Int} {i:Nat} {x:V} (h:(ns.map V.int)[i]? =some x):∃m,ns[i]? =some m/\x= .int m:=by
 rw[CM] at h
 cases e:ns[i]? with
 | none=>rw[e] at h;cases h
 | some m=>rw[e] at h;exact⟨m,rfl,(CL h).symm⟩
theorem ABR {f:AA} {fd:A2} (F:A0 K "is_rising" "is_rising" Rl f fd) (m1:mg "all"=none) (m2:mg "zip"=none):Aa P w K mg base Ag 1 f fd ["minutes"] (cY K):=by
 refine F.ok V3 (fun vs H Q E h=>?_) (fun Al A outer s H vs Q E hr h=>?_)
 . obtain⟨l,ns,rfl,_⟩:=h
   rfl
 . obtain⟨l,ns,rfl,hL,BV,q⟩:=h
   refine⟨_,Ac (A4 (Eb (YD rfl) (by rfl) m1 eZ (AH (GP (g:=Yl K 2 (Qh (Kg 1) (Qh (Kg 2) Yk))) rfl V3.nd (nX rfl m2 (AH (pv 0) (AH (Nt OI (pv 0) (II Ax) MA) AK))) (Ep (own:=[("minute",1),("later",2)]) (by show EL ["minutes","minute","later"] (As Rl) _ _=true;decide+kernel))
    (fun _ _ _ _ _=>aD rfl (Nu (CW (i:=1) V3.nd rfl (Ad rfl)) (Nu (CW (i:=2) V3.nd rfl (Ad rfl)) aE))) (fun _ _ _ _ _=>HM) (fun _ _ _ _ _=>IG L7 (pv 1) (pv 2) (Cy _))) AK))),?_⟩
   refine⟨_,rfl,_,rfl,_,rfl,l,_,rfl,hL,fun u hu=>?_⟩
   rw[YF,<-Mh]
   have su:Same H (upd H u (.lst ((ns.drop 1).map V.int))):=Ao hu
   refine⟨l,u,_,_,rfl,su.seq hL,AQ.of AO,fun D hD=>lQ (K:=K) (a:=l) (b:=u) (xs:=ns.map V.int) (ys:=(ns.drop 1).map V.int) (n:=(ns.zip (ns.drop 1)).length) (by rw[AR,AR,LM])
    (fun i H'=>H' D=some (.lst ((((ns.zip (ns.drop 1)).map fun p=>decide (p.1 < p.2)).take i).map V.bl))/\Same (upd H u (.lst ((ns.drop 1).map V.int))) H')
    ⟨AO,Ao hD⟩ (fun i H' _ ⟨_,s1⟩=>⟨s1.seq (su.seq hL),AQ.of (s1 _ _ AO)⟩) ?_ ?_⟩
   . rintro i x1 x2 T H1 hx1 hx2 ⟨Eu,s1⟩ hT
     obtain⟨n1,hn1,rfl⟩:=Yu hx1
     obtain⟨n2,hn2,rfl⟩:=Yu hx2
     have sT:Same H1 (upd H1 T (.tup [.int n1,.int n2])):=Ao hT
     refine⟨T,_,rfl,Ap.of AO,rfl,_,_,rfl,_,_,rfl,rfl,rfl,?_⟩
     unfold Gy
     have hz:((ns.zip (ns.drop 1)).map fun p=>decide (p.1 < p.2))[i]? =some (decide (n1 < n2)):=by
      rw[CM,(XM (z:=(n1,n2))).mpr ⟨hn1,hn2⟩]
      rfl
     refine A9 ⟨_,rfl,_,rfl,_,_,rfl,rfl,_,sT _ _ Eu,?_,?_,fun b o e=>?_⟩
     . rw[AR,Ct,AR,LM]
       have:AZ=16777216:=Dn
       lia
     . rw[AO,C6 hz,Ba]
       rfl
     . rw[AV (BF e hD)]
       exact sT _ _ (s1 _ _ e)
   . rintro H1 ⟨Eu,s1⟩
     have DK:((ns.zip (ns.drop 1)).map fun p=>decide (p.1 < p.2)).take (ns.zip (ns.drop 1)).length=(ns.zip (ns.drop 1)).map fun p=>decide (p.1 < p.2):=DN (by rw[AR];exact Aj _)
     rw[DK] at Eu
     refine⟨D,_,rfl,AQ.of Eu,?_⟩
     rw[<-oM]
     exact q H1 (su.trans s1)
def cQ (K:AW):Sp:=fun vs H Q _=>∃(l:AA) (ns:List Int) (a b:Int),vs=[.ref l,.int a,.int b]/\AQ K H l (ns.map V.int)/\ns.length<=1000/\∀H',Same H H'->Q (.bl (Vm.D4 ns a b)) H'
theorem Rr:BD ["shall","a","b","minutes","values","value"] ["shall","a","b"] (As Rh):={}
theorem zI (l:List Int) (x:Int):(l++[x]).getLastD 0=x:=by
 rw[List.getLastD_eq_getLast?,eF]
 rfl
theorem qh (ps:List (Int×Int)):(ps.map (·.2)).all EK=((ps.map (·.2)).map EK).all id:=by
 rw[Om,Om,Om]
 rfl
theorem AA9 {f:AA} {fd:A2} {rg:AG->Option (Int×Int)} (F:A0 K "is_line" "is_line" Rh f fd) (m1:mg "len"=none) (m2:mg "all"=none) (hv:rg "v"=some (0,1000000000)) (gW:Gd P w K mg base 1 "within" ["letter","number"] (R4 rg)) (gR:Gd P w K mg base 1 "is_rising" ["minutes"] (cY K)):
 Aa P w K mg base Ag 2 f fd ["shall","a","b"] (cQ K):=by
 refine F.ok Rr (fun vs H Q E h=>?_) (fun Al A outer s H vs Q E hr h=>?_)
 . obtain⟨l,ns,a,b,rfl,_⟩:=h
   rfl
 . obtain⟨l,ns,a,b,rfl,hL,BV,q⟩:=h
   refine⟨_,AX (C9 (PW.pt (RV (DY Fh (Eb F9 (by rfl) m1 F3 (AH (pv 0) AK)) Ax (Cy _)) (Uy (DY L8 (DF nE (Eb F9 (by rfl) m1 F3 (AH (pv 0) AK)) Ax) Ax (Cy _)))))
    (Ac (A4 Ju)) DG)
    (AX (A5 (i:=3) Rr.nd rfl (Ad rfl) (aC (pv 0) (II Ax) MA Ax))
    (AX (A5 (i:=4) Rr.nd rfl (Ad rfl) (aC (pv 0) (II Ax) MA Ax))
    (AX (C9 (PW.pt (RV (DY L8 (Br Df (pv 3) Ax) (pv 1) (Cy _)) (RV (DY Uo (Br Df (pv 3) (RN SD Ax)) (pv 2) (Cy _)) (Uy (Jv (Gw (Bm gR hr rfl (AH (pv 3) AK))))))))
     (Ac (A4 Ju)) DG)
    (Ac (A4 (Eb (YD rfl) (by rfl) m2 eZ (AH (GP rfl Rr.nd (Dl (pv 4)) (Ep (own:=[("value",5)]) (by show EL ["shall","a","b","minutes","values","value"] (As Rh) _ _=true;decide+kernel))
     (fun _ _ _ _ _=>CW (i:=5) Rr.nd rfl (Ad rfl)) (fun _ _ _ _ _=>HM) (fun _ _ _ _ _=>Bm gW hr rfl (AH Aw (AH (pv 5) AK)))) AK))))))),?_⟩
   refine⟨_,rfl,l,_,rfl,.inl hL,rfl,_,rfl,?_⟩
   show if decide (V.int (((ns.map V.int).length:Nat):Int)=V.int 0)=true then _ else _
   rw[GF,AR]
   cases ns with
   | nil=>
    have q':=q H (Same.refl H)
    exact A9 (A9 q')
   | cons n0 HL=>
    have e0:((((n0::HL).length:Nat):Int)==0)=false:=by rw[BO];exact beq_eq_false_iff_ne.mpr (by lia)
    rw[e0]
    refine BJ ⟨_,rfl,l,_,rfl,.inl hL,_,_,rfl,rfl,(by show (0:Int) < 2;decide),rfl,_,rfl,?_⟩
    show if (!decide (V.int ((((n0::HL).map V.int).length:Nat)%2:Int)=V.int 0))=true then _ else _
    rw[GF,AR]
    generalize hns:n0::HL=ns at hL BV q ⊢
    have BX:ns≠[]:=by rw[<-hns];exact Se _ _
    rcases Nat.mod_two_eq_zero_or_one ns.length with h2 | h2
    . have e1:(((ns.length:Nat):Int)%2==0)=true:=beq_iff_eq.mpr (by lia)
      rw[e1]
      refine BJ ?_
      have hn:ns.length=2*(ns.length / 2):=by lia
      have Cr:=Vm.pairs_len (ns.length / 2) ns hn
      have hev:=pE hn
      have hod:=ADr hn
      refine⟨_,rfl,_,rfl,2,l,_,rfl,rfl,hL,(by decide),fun m hm=>?_⟩
      rw[hev]
      have sm:Same H (upd H m (.lst ((Vm.pairsOf ns).map fun p=>V.int p.1))):=Ao hm
      refine⟨_,rfl,_,rfl,2,l,_,rfl,rfl,sm.seq hL,(by decide),fun v hv'=>?_⟩
      rw[hod]
      have sv:Same (upd H m (.lst ((Vm.pairsOf ns).map fun p=>V.int p.1))) (upd (upd H m (.lst ((Vm.pairsOf ns).map fun p=>V.int p.1))) v (.lst ((Vm.pairsOf ns).map fun p=>V.int p.2))):=Ao hv'
      generalize hH1:upd (upd H m (.lst ((Vm.pairsOf ns).map fun p=>V.int p.1))) v (.lst ((Vm.pairsOf ns).map fun p=>V.int p.2))=H1 at sv
      have hm1:H1 m=some (.lst (((Vm.pairsOf ns).map (·.1)).map V.int)):=by
       rw[Dq]
       exact sv _ _ AO
      have hv1:H1 v=some (.lst (((Vm.pairsOf ns).map (·.2)).map V.int)):=by
       rw[Dq,<-hH1,AO]
       rfl
      have s01:Same H H1:=sm.trans sv
      cases EW:Vm.pairsOf ns with
      | nil=>
       rw[EW] at Cr
       have:0 < ns.length:=List.length_pos_iff.mpr BX
       rw[D7] at Cr
       lia
      | cons p0 r0=>
       rw[EW] at hm1 hv1
       have Kc:Vm.D4 ns a b=(decide (p0.1=a)&&(decide (((p0::r0).map (·.1)).getLastD 0 < b)&&(Vm.Gx ((p0::r0).map (·.1))&&((p0::r0).map (·.2)).all EK))):=by
        unfold Vm.D4
        rw[EW,h2]
        rfl
       obtain⟨li,la,hla⟩:∃li la,(p0::r0).map (·.1)=li++[la]:=by
        rcases d3 ((p0::r0).map (·.1)) with z | ⟨li,la,z⟩
        . cases z
        . exact⟨li,la,by rw[z,MZ]⟩
       have hlast:((p0::r0).map (·.1)).getLastD 0=la:=by rw[hla];exact zI li la
       have hat:Il (((p0::r0).map (·.1)).map V.int) (-1)=some (.int la):=by
        rw[hla,Ba]
        exact Xu _ _
       rw[hlast] at Kc
       refine⟨_,rfl,m,_,_,_,rfl,rfl,AQ.of hm1,at_of (j:=0) (v:=.int p0.1) rfl rfl,_,rfl,rfl,_,rfl,?_⟩
       show if (!decide (V.int p0.1=V.int a))=true then _ else _
       rw[GF]
       by_cases h1:p0.1=a
       . rw[h1,beq_self_eq_true]
         refine BJ ⟨_,rfl,1,rfl,m,_,_,_,rfl,rfl,AQ.of hm1,hat,_,rfl,_,_,rfl,rfl,_,rfl,?_⟩
         rw[decide_eq_true h1,G3] at Kc
         by_cases h3:b<=la
         . rw[decide_eq_true h3]
           have q':=q H1 s01
           rw[Kc,decide_eq_false (by lia),G0] at q'
           exact A9 (A9 q')
         . rw[decide_eq_false h3]
           rw[decide_eq_true (show la < b by lia),G3] at Kc
           refine BJ ⟨_,rfl,m,_,rfl,AQ.of hm1,?_,fun H2 s2=>⟨_,rfl,?_⟩⟩
           . rw[<-EW,AR]
             lia
           . cases UL:Vm.Gx ((p0::r0).map (·.1)) with
             | false=>
              have q':=q H2 (s01.trans s2)
              rw[Kc,UL,G0] at q'
              exact A9 q'
             | true=>
              rw[UL,G3] at Kc
              refine BJ ?_
              have hv2:=s2 _ _ hv1
              refine⟨_,rfl,v,rfl,⟨_,AQ.of hv2⟩,fun D hD=>Fx (K:=K) (a:=v) (xs:=((p0::r0).map (·.2)).map V.int)
               (fun i H'=>H' D=some (.lst (((((p0::r0).map (·.2)).map EK).take i).map V.bl))/\Same H2 H')
               ⟨AO,Ao hD⟩ (fun i H' _ ⟨_,s3⟩=>AQ.of (s3 _ _ hv2)) ?_ ?_⟩
              . rintro i x H3 hx ⟨Ce,s3⟩
                obtain⟨z,hz,rfl⟩:=Yu hx
                refine⟨rfl,?_⟩
                unfold Gy
                have hz':(((p0::r0).map (·.2)).map EK)[i]? =some (EK z):=by rw[CM,hz];rfl
                refine A9 ⟨_,rfl,"v",z,0,1000000000,rfl,hv,_,Ce,?_,?_,fun b' o e=>?_⟩
                . rw[AR,Ct,AR,AR,<-EW]
                  have:AZ=16777216:=Dn
                  lia
                . rw[AO,C6 hz',Ba]
                  rfl
                . rw[AV (BF e hD)]
                  exact s3 _ _ e
              . rintro H3 ⟨Ce,s3⟩
                have DK:(((p0::r0).map (·.2)).map EK).take (((p0::r0).map (·.2)).map V.int).length=((p0::r0).map (·.2)).map EK:=DN (by rw[AR,AR (f:=V.int)];exact Aj _)
                rw[DK] at Ce
                refine⟨D,_,rfl,AQ.of Ce,?_⟩
                rw[<-qh,<-Kc]
                exact q H3 ((s01.trans s2).trans s3)
       . rw[beq_eq_false_iff_ne.mpr h1]
         have q':=q H1 s01
         rw[Kc,decide_eq_false h1,G0] at q'
         exact A9 (A9 q')
    . have e1:(((ns.length:Nat):Int)%2==0)=false:=beq_eq_false_iff_ne.mpr (by lia)
      rw[e1]
      have q':=q H (Same.refl H)
      have ef:Vm.D4 ns a b=false:=by
       unfold Vm.D4
       cases Vm.pairsOf ns with
       | nil=>rfl
       | cons p r=>
        rw[h2]
        rfl
      rw[ef] at q'
      exact A9 q'
def cR (K:AW):Sp:=fun vs H Q _=>∃(p:AA) (x y v a b:Int),vs=[.ref p,.int a,.int b]/\AQ K H p [.int x,.int y,.int v]/\Q (.bl (Vm.Ga a b (x,y,v))) H
theorem AC5:BD ["piece","a","b"] ["piece","a","b"] (As VQ):={}
theorem ABA {f:AA} {fd:A2} {rg:AG->Option (Int×Int)} (F:A0 K "is_stroke" "is_stroke" VQ f fd) (hv:rg "v"=some (0,1000000000)) (gW:Gd P w K mg base 1 "within" ["letter","number"] (R4 rg)):Aa P w K mg base Ag 2 f fd ["piece","a","b"] (cR K):=by
 refine F.ok AC5 (fun vs H Q E h=>?_) (fun Al A outer s H vs Q E hr h=>?_)
 . obtain⟨p,x,y,v,a,b,rfl,_⟩:=h
   rfl
 . obtain⟨p,x,y,v,a,b,rfl,hp,q⟩:=h
   refine⟨_,Ac (A4 (Us (ABr Jt L7 Jt (pv 1) (Br Df (pv 0) Ax) (Br Df (pv 0) Ax) (pv 2)) (Nr (Bm gW hr rfl (AH Aw (AH (Br Df (pv 0) Ax) AK)))))),?_⟩
   have eo:Vm.Ga a b (x,y,v)=(decide (a<=x)&&(decide (x < y)&&(decide (y<=b)&&EK v))):=rfl
   rw[eo] at q
   refine⟨_,rfl,_,rfl,p,_,_,_,rfl,rfl,hp,rfl,_,_,rfl,rfl,_,rfl,?_⟩
   cases h1:decide (a<=x) with
   | false=>
    rw[h1] at q
    exact BJ ⟨_,rfl,BJ q⟩
   | true=>
    rw[h1,G3] at q
    refine A9 ⟨_,rfl,p,_,_,_,rfl,rfl,hp,rfl,_,_,rfl,rfl,_,rfl,?_⟩
    cases h2:decide (x < y) with
    | false=>
     rw[h2] at q
     exact BJ ⟨_,rfl,BJ q⟩
    | true=>
     rw[h2,G3] at q
     refine A9 ⟨_,rfl,_,_,rfl,rfl,_,rfl,?_⟩
     cases h3:decide (y<=b) with
     | false=>
      rw[h3] at q
      exact BJ q
     | true=>
      rw[h3,G3] at q
      exact A9 ⟨_,rfl,p,_,_,_,rfl,rfl,hp,rfl,"v",v,0,1000000000,rfl,hv,q⟩
def V9 (K:AW):Sp:=fun vs H Q _=>∃(l:AA) (ns:List Int) (a b:Int),vs=[.ref l,.int a,.int b]/\AQ K H l (ns.map V.int)/\ns.length<=1000/\∀H',Same H H'->Q (.bl (Vm.F8 ns a b)) H'
theorem bM:BD ["strokes","a","b","piece"] ["strokes","a","b"] (As Ra):={}
theorem nc {ns:List Int} {n:Nat} (h:ns.length=3*n):((Ca n).map fun i=>((ns.map V.int).drop (i*3)).take 3)=(Vm.EE ns).map fun t=>[V.int t.1,V.int t.2.1,V.int t.2.2]:=by
 have e:=congrArg (KJ (KJ V.int)) (Vm.iD n ns h)
 rw[Dq,Dq] at e
 refine Eq.trans (JW fun i _=>?_) e
 show _=((ns.drop (i*3)).take 3).map V.int
 rw[XO,Mh]
theorem AB0 {ns:List Int} {n:Nat} (h:ns.length=2*n):((Ca n).map fun i=>((ns.map V.int).drop (i*2)).take 2)=(Vm.pairsOf ns).map fun t=>[V.int t.1,V.int t.2]:=by
 have e:=congrArg (KJ (KJ V.int)) (Vm.iC n ns h)
 rw[Dq,Dq] at e
 refine Eq.trans (JW fun i _=>?_) e
 show _=((ns.drop (i*2)).take 2).map V.int
 rw[XO,Mh]
theorem AAc {f:AA} {fd:A2} (F:A0 K "are_strokes" "are_strokes" Ra f fd) (m1:mg "len"=none) (m2:mg "all"=none) (gP:Gd P w K mg base 1 "pieces_of" ["row","size"] (R3 K)) (gS:Gd P w K mg base 2 "is_stroke" ["piece","a","b"] (cR K)):
 Aa P w K mg base Ag 3 f fd ["strokes","a","b"] (V9 K):=by
 refine F.ok bM (fun vs H Q E h=>?_) (fun Al A outer s H vs Q E hr h=>?_)
 . obtain⟨l,ns,a,b,rfl,_⟩:=h
   rfl
 . obtain⟨l,ns,a,b,rfl,hL,BV,q⟩:=h
   have Bg:BW 1 _:=hr.mono (by decide)
   refine⟨_,Ac (A4 (Us (IG Fh (DF nE (Eb F9 (by rfl) m1 F3 (AH (pv 0) AK)) Ax) Ax (Cy _))
    (Nr (Eb (YD rfl) (by rfl) m2 eZ (AH (GP rfl bM.nd (Dl (Bm gP Bg rfl (AH (pv 0) (AH Ax AK)))) (Ep (own:=[("piece",3)]) (by show EL ["strokes","a","b","piece"] (As Ra) _ _=true;decide+kernel))
     (fun _ _ _ _ _=>CW (i:=3) bM.nd rfl (Ad rfl)) (fun _ _ _ _ _=>HM) (fun _ _ _ _ _=>Bm gS hr rfl (AH (pv 3) (AH (pv 1) (AH (pv 2) AK))))) AK))))),?_⟩
   refine⟨_,rfl,l,_,rfl,.inl hL,_,_,rfl,rfl,(by show (0:Int) < 3;decide),rfl,_,rfl,?_⟩
   show if decide (V.int (((ns.map V.int).length:Nat)%3:Int)=V.int 0)=true then _ else _
   rw[GF,AR]
   by_cases h3:ns.length%3=0
   . have e1:(((ns.length:Nat):Int)%3==0)=true:=beq_iff_eq.mpr (by lia)
     rw[e1]
     have hn:ns.length=3*(ns.length / 3):=by lia
     refine A9 ⟨_,rfl,l,_,3,ns.length / 3,rfl,hL,.inr rfl,(by rw[AR];exact hn),(by lia),fun H1 p cs s1 hp h1 hc=>?_⟩
     rw[nc hn] at hc
     have CH:=Paired.len hc
     rw[AR] at CH
     have htl:=Vm.cx _ ns hn
     refine⟨p,rfl,⟨_,AQ.of h1⟩,fun D hD=>Fx (K:=K) (a:=p) (xs:=cs.map V.ref)
      (fun i H'=>H' D=some (.lst ((((Vm.EE ns).map (Vm.Ga a b)).take i).map V.bl))/\Same H1 H')
      ⟨AO,Ao hD⟩ (fun i H' _ ⟨_,s3⟩=>AQ.of (s3 _ _ h1)) ?_ ?_⟩
     . rintro i x H3 hx ⟨Ce,s3⟩
       obtain⟨c1,hc1,rfl⟩:=EA hx
       obtain⟨ys,hys,hat⟩:=Paired.DJ hc hc1
       rw[CM] at hys
       cases ht:(Vm.EE ns)[i]? with
       | none=>rw[ht] at hys;cases hys
       | some t=>
        rw[ht] at hys
        have ey:[V.int t.1,V.int t.2.1,V.int t.2.2]=ys:=CL hys
        subst ey
        refine⟨rfl,?_⟩
        unfold Gy
        have hz':((Vm.EE ns).map (Vm.Ga a b))[i]? =some (Vm.Ga a b t):=by rw[CM,ht];rfl
        refine A9 ⟨_,rfl,_,rfl,_,rfl,c1,t.1,t.2.1,t.2.2,a,b,rfl,AQ.of (s3 _ _ hat),_,Ce,?_,?_,fun b' o e=>?_⟩
        . rw[AR,Ct,AR,htl]
          have:AZ=16777216:=Dn
          lia
        . rw[AO,C6 hz',Ba]
          rfl
        . rw[AV (BF e hD)]
          exact s3 _ _ e
     . rintro H3 ⟨Ce,s3⟩
       have DK:((Vm.EE ns).map (Vm.Ga a b)).take (cs.map V.ref).length=(Vm.EE ns).map (Vm.Ga a b):=DN (by rw[AR,AR,CH];exact Aj _)
       rw[DK] at Ce
       refine⟨D,_,rfl,AQ.of Ce,?_⟩
       have q':=q H3 (s1.trans s3)
       have ea:Vm.F8 ns a b=((Vm.EE ns).map (Vm.Ga a b)).all id:=by
        unfold Vm.F8
        rw[decide_eq_true h3,G3,Om]
        rfl
       rw[ea] at q'
       exact q'
   . have e1:(((ns.length:Nat):Int)%3==0)=false:=beq_eq_false_iff_ne.mpr (by lia)
     rw[e1]
     have q':=q H (Same.refl H)
     have ef:Vm.F8 ns a b=false:=by
      unfold Vm.F8
      rw[decide_eq_false h3,G0]
     rw[ef] at q'
     exact BJ q'
end
section
variable {P:Av} {w:Am} {K:AW} {mg:AG->Option AF} {base:Ae} {C:AA}
abbrev U6:Au:=top 42
abbrev Vi:Au:=top 43
abbrev VC:Au:=top 44
abbrev Vq:Au:=top 45
abbrev U1:Au:=top 46
abbrev Ve:Au:=top 47
abbrev MD:Au:=top 48
abbrev By (ns:List Int):List (Nat×Nat):=(Vm.pairsOf ns).map Vm.Jr
def WG (K:AW) (C:AA):Sp:=fun vs H Q _=>∃(l sh:AA) (as:List AA) (es:List Ent) (k a b:Nat) (ns:List Int),vs=[.ref l,nI k,nI a,nI b,.ref sh]/\G5 K C H l as es/\a < b/\es.length<=450/\AQ K H sh (ns.map V.int)/\ns.length<=1000/\Vm.D4 ns a b=true/\
 ∀(H':Hp) (p:AA),Same H H'->H p=none->H' p=some (.lst ((FZ es k a b (By ns)).map nI))->Q (.ref p) H'
theorem ACy:BD ["entries","key","a","b","shall"] ["entries","key","a","b","shall"] (As U6):={}
theorem AAi {f:AA} {fd:A2} (F:A0 K "cell_starts" "cell_starts" U6 f fd) (m1:mg "sorted"=none) (m2:mg "set"=none) (gS:Gd P w K mg base 1 "starts" ["entries","key","a","b"] (OL K C)):Aa P w K mg base Ag 2 f fd ["entries","key","a","b","shall"] (WG K C):=by
 refine F.ok ACy (fun vs H Q E h=>?_) (fun Al A outer s H vs Q E hr h=>?_)
 . obtain⟨l,sh,as,es,k,a,b,ns,rfl,_⟩:=h
   rfl
 . obtain⟨l,sh,as,es,k,a,b,ns,rfl,hE,Bk,BV,hS,hnl,hline,q⟩:=h
   refine⟨_,Ac (A4 (Eb (iI rfl) (by rfl) m1 eh (AH (Z9 (iH rfl) rfl m2 gp (AH (DF Js (Bm gS hr rfl (AH (pv 0) (AH (pv 1) (AH (pv 2) (AH (pv 3) AK))))) (aC (pv 4) (II Ax) MA Ax)) AK)) AK))),?_⟩
   obtain⟨hok,hup,hn2,p0,r0,EW⟩:=Vm.Zh (by lia:(0:Int)<=(a:Int)) hline
   have CH:=Mz es k a b Bk
   refine⟨_,rfl,_,rfl,_,rfl,_,rfl,l,as,es,k,a,b,rfl,hE,Bk,BV,fun H1 c1 s1 hc1 h1=>?_⟩
   refine⟨_,rfl,_,rfl,2,sh,_,rfl,rfl,s1.seq hS,(by decide),fun c2 hc2=>?_⟩
   rw[pE hn2]
   have s2:Same H1 (upd H1 c2 (.lst ((Vm.pairsOf ns).map fun p=>V.int p.1))):=Ao hc2
   refine⟨c1,c2,_,_,rfl,rfl,s2 _ _ h1,AO,?_,fun c3 hc3=>?_⟩
   . rw[AR,AR]
     have:AZ=16777216:=Dn
     lia
   have uD:(F5 es k a b).map nI++((Vm.pairsOf ns).map fun p=>V.int p.1)=((F5 es k a b++(By ns).map (·.1)).map fun n:Nat=>(n:Int)).map V.int:=by
    rw[Ba,Ba,Ud,Dq,Dq,Dq]
    congr 1
    show _=KJ _ ((Vm.pairsOf ns).map Vm.Jr)
    rw[Dq]
    refine JW fun p hp=>?_
    have:=hok p hp
    show V.int p.1=V.int ((p.1.toNat:Nat):Int)
    rw[JV (by lia)]
   rw[uD]
   have s3:Same (upd H1 c2 (.lst ((Vm.pairsOf ns).map fun p=>V.int p.1))) (upd (upd H1 c2 (.lst ((Vm.pairsOf ns).map fun p=>V.int p.1))) c3 (.lst (((F5 es k a b++(By ns).map (·.1)).map fun n:Nat=>(n:Int)).map V.int))):=Ao hc3
   refine⟨c3,_,rfl,AQ.of AO,?_,fun ps HL pm hps=>?_⟩
   . rw[AR,BZ,AR,AR]
     unfold scanBound
     lia
   . generalize Qs:upd (upd H1 c2 (.lst ((Vm.pairsOf ns).map fun p=>V.int p.1))) c3 (.lst (((F5 es k a b++(By ns).map (·.1)).map fun n:Nat=>(n:Int)).map V.int))=H3 at s3 hps
     have s4:Same H3 (upd H3 ps (Hv P w ps HL)):=Ao hps
     refine⟨ps,HL,rfl,AO,fun r rs p1 p2 hr'=>?_⟩
     have s5:Same (upd H3 ps (Hv P w ps HL)) (upd (upd H3 ps (Hv P w ps HL)) r (.lst (rs.map V.int))):=Ao hr'
     have GR:=((s1.trans s2).trans s3).trans s4
     refine q _ r (GR.trans s5) (GR.free hr') ?_
     rw[AO,oz (p1.trans pm) p2 (Vm.tP es k a b (By ns)) (fun y=>?_),Ud]
     rw[Vm.tO,D8]
def cc (K:AW):Sp:=fun vs H Q _=>∃(sh:AA) (ns:List Int) (n m:Nat),vs=[.ref sh,nI m]/\AQ K H sh (ns.map V.int)/\ns.length=2*n/\n<=500/\(∀p∈Vm.pairsOf ns,0<=p.1/\0<=p.2)/\∀H',Same H H'->Q (nI (Vm.Fc (By ns) m)) H'
theorem V4:BD ["shall","minute","value","piece"] ["shall","minute"] (As Vi):={}
theorem ABT {f:AA} {fd:A2} (F:A0 K "shall_at" "shall_at" Vi f fd) (gP:Gd P w K mg base 1 "pieces_of" ["row","size"] (R3 K)):Aa P w K mg base Ag 2 f fd ["shall","minute"] (cc K):=by
 refine F.ok V4 (fun vs H Q E h=>?_) (fun Al A outer s H vs Q E hr h=>?_)
 . obtain⟨sh,ns,n,m,rfl,_⟩:=h
   rfl
 . obtain⟨sh,ns,n,m,rfl,hS,hn,kK,hnn,q⟩:=h
   refine⟨_,AX (A5 (i:=2) V4.nd rfl (Ad rfl) Ax)
    (AX (El PassesOwn.never rfl (Dl (Bm gP hr rfl (AH (pv 0) (AH Ax AK)))) (CW (i:=3) V4.nd rfl (Ad rfl))
     (Ac (C9 (DY Jt (Br Df (pv 3) Ax) (pv 1) (Cy _)) (Ac (A5 (i:=2) V4.nd rfl (Ad rfl) (Br Df (pv 3) Ax))) DG)))
    (Ac (A4 (pv 2)))),?_⟩
   refine⟨_,rfl,sh,_,2,n,rfl,hS,.inl rfl,(by rw[AR];exact hn),(by lia),fun H1 p cs s1 hp h1 hc=>?_⟩
   rw[AB0 hn] at hc
   have CH:=Paired.len hc
   rw[AR] at CH
   refine⟨p,rfl,⟨_,AQ.of h1⟩,Ir (K:=K) (a:=p) (xs:=cs.map V.ref) (fun i σ H'=>∃z:Option V,σ=[some (.ref sh),some (nI m),some (nI (Vm.Fc ((By ns).take i) m)),z]/\H'=H1)
    ⟨none,rfl,rfl⟩ (fun i σ H' _ ⟨_,_,e⟩=>by rw[e];exact AQ.of h1) ?_ ?_⟩
   . rintro i x σ H2 hx ⟨z,rfl,rfl⟩
     obtain⟨c1,hc1,rfl⟩:=EA hx
     obtain⟨ys,hys,hat⟩:=Paired.DJ hc hc1
     rw[CM] at hys
     cases ht:(Vm.pairsOf ns)[i]? with
     | none=>rw[ht] at hys;cases hys
     | some t=>
      rw[ht] at hys
      have ey:[V.int t.1,V.int t.2]=ys:=CL hys
      subst ey
      obtain⟨t1,t2⟩:=hnn t (G7 ht)
      have hl:(By ns)[i]? =some (Vm.Jr t):=by rw[CM,ht];rfl
      have jn:H2 c1=some (HO.lst [V.int t.1,V.int t.2]):=hat
      have jB:Vm.Fc ((By ns).take (i+1)) m=if t.1.toNat<=m then t.2.toNat else Vm.Fc ((By ns).take i) m:=by
       unfold Vm.Fc
       rw[C6 hl,Sg]
       rfl
      refine⟨_,rfl,c1,_,_,_,rfl,rfl,AQ.of jn,rfl,_,rfl,_,_,rfl,rfl,_,rfl,?_⟩
      by_cases hle:t.1<=(m:Int)
      . rw[decide_eq_true hle]
        refine A9 ⟨_,rfl,c1,_,_,_,rfl,rfl,AQ.of jn,rfl,some (.ref c1),?_,rfl⟩
        rw[jB,if_pos (by lia)]
        show [some (V.ref sh),some (nI m),some (V.int t.2),some (V.ref c1)]=_
        have:V.int t.2=nI t.2.toNat:=by unfold nI;rw[JV t2]
        rw[this]
      . rw[decide_eq_false hle]
        refine BJ ⟨some (.ref c1),?_,rfl⟩
        rw[jB,if_neg (by lia)]
        rfl
   . rintro σ H2 ⟨z,rfl,rfl⟩
     have DK:(By ns).take (cs.map V.ref).length=By ns:=DN (by rw[AR,AR,CH];exact Aj _)
     rw[DK]
     exact⟨_,rfl,q H2 s1⟩
def HC (K:AW) (H:Hp) (b:AA) (p:fi):Prop:=Ap K H b [nI p.1,nI (p.2.1+1),nI p.2.2]
def C8 (K:AW) (H:Hp) (a:AA) (ps:Vm.Row):Prop:=∃bs:List AA,H a=some (.lst (bs.map V.ref))/\Ar (HC K H) bs ps
theorem HC.same {H H':Hp} {b:AA} {p:fi} (h:HC K H b p) (s:Same H H'):HC K H' b p:=Ap.same h s
theorem C8.same {H H':Hp} {a:AA} {ps:Vm.Row} (h:C8 K H a ps) (s:Same H H'):C8 K H' a ps:=let ⟨bs,h1,h2⟩:=h;⟨bs,s _ _ h1,Paired.Be h2 fun b p q=>q.same s⟩
theorem HC.other {H:Hp} {x b:AA} {u o:HO} {p:fi} (h:HC K H b p) (hx:H x=some u) (hu:∀xs,u≠ .tup xs) (hf:∀ob xs,u≠ .CG ob xs):HC K (upd H x o) b p:=by
 rcases h with (h | ⟨o',h⟩) | h
 . exact .inl (.inl (by rw[AV (B9 h hx (fun e=>hu _ e.symm))];exact h))
 . exact .inl (.inr ⟨o',by rw[AV (B9 h hx (fun e=>hf _ _ e.symm))];exact h⟩)
 . exact .inr h
theorem C8.other {H:Hp} {x a:AA} {u o:HO} {ps:Vm.Row} (h:C8 K H a ps) (hx:H x=some u) (hu:∀xs,u≠ .tup xs) (hf:∀ob xs,u≠ .CG ob xs) (BX:a≠x):C8 K (upd H x o) a ps:=by
 obtain⟨bs,h1,h2⟩:=h
 exact⟨bs,by rw[AV BX];exact h1,Paired.Be h2 fun b p q=>q.other hx hu hf⟩
theorem C8.Kr {H:Hp} {x a:AA} {xs:List V} {o:HO} {ps:Vm.Row} (h:C8 K H a ps) (hx:H x=some (.lst xs)) (BX:a≠x):C8 K (upd H x o) a ps:=h.other hx (fun _=>nofun) (fun _ _=>nofun) BX
theorem C8.nF {H:Hp} {x a:AA} {kvs:List (List Key×V)} {o:HO} {ps:Vm.Row} (h:C8 K H a ps) (hx:H x=some (.dT kvs)):C8 K (upd H x o) a ps:=by
 obtain⟨bs,h1,_⟩:=id h
 exact h.other hx (fun _=>nofun) (fun _ _=>nofun) (B9 h1 hx nofun)
def WM (K:AW):Sp:=fun vs H Q _=>∃(l:AA) (as:List AA) (ws:List Vm.Row),vs=[.ref l]/\AQ K H l (as.map V.ref)/\Ar (C8 K H) as ws/\ws≠[]/\∀a,a∈as->C8 K H a (Vm.Fv ws)->Q (.ref a) H
theorem AC2:BD ["ways"] ["ways"] (As VC):={}
theorem nY (len:Nat->Nat):∀n,Uv len n=Vm.bestAt len n
 | 0=>rfl
 | n+1=>by
  have ih:=nY len n
  show (if EY len (n+1) (Uv len n)=true then n+1 else Uv len n)=if decide ((len (n+1):Int) < (len (Vm.bestAt len n):Int))=true then n+1 else Vm.bestAt len n
  rw[ih]
  rfl
theorem AAw {f:AA} {fd:A2} (F:A0 K "fewer_of" "fewer_of" VC f fd) (m1:mg "min"=none) (m2:mg "len"=none):Aa P w K mg base Ag 1 f fd ["ways"] (WM K):=by
 refine F.ok AC2 (fun vs H Q E h=>?_) (fun Al A outer s H vs Q E hr h=>?_)
 . obtain⟨l,as,ws,rfl,_⟩:=h
   rfl
 . obtain⟨l,as,ws,rfl,hL,hP,BX,q⟩:=h
   refine⟨_,Ac (A4 (ABv rfl rfl m1 rfl m2 (AH (pv 0) AK))),?_⟩
   have BV:=Paired.len hP
   have hpos:0 < ws.length:=List.length_pos_iff.mpr BX
   have lens:∀{as:List AA} {ws:List Vm.Row},Ar (C8 K H) as ws->Ar (du K H) as (ws.map D6):=by
    intro as ws h
    induction h with
    | nil=>exact .nil
    | cons r t ih=>
     obtain⟨bs,h1,h2⟩:=r
     exact .cons ⟨_,AQ.of h1,by rw[AR,Paired.len h2]⟩ ih
   refine⟨_,rfl,l,as,ws.map D6,rfl,hL,lens hP,(by lia),fun a ha=>?_⟩
   rw[nY,BV] at ha
   obtain⟨y,hy,hs⟩:=Paired.DJ hP ha
   rw[Vm.rO hpos] at hy
   cases hy
   exact q a (G7 ha) hs
end
def Fi (i n:Nat):List Key:=[.inl (i:Int),.inl ((i:Int)+(n:Int) - 1)]
theorem qP {i n i' n':Nat} (h:Fi i n=Fi i' n'):i=i'/\n=n':=by
 unfold Fi at h
 injection h with h1 h2
 injection h2 with h2 _
 injection h1 with h1
 injection h2 with h2
 constructor <;> lia
def HX (K:AW) (H:Hp) (kvs:List (List Key×V)) (cells:List Nat) (i n:Nat):Prop:=∃a,Bq kvs (Fi i n)=some (.ref a)/\C8 K H a (Vm.An cells i n)
theorem HX.same {K:AW} {H H':Hp} {kvs:List (List Key×V)} {cells:List Nat} {i n:Nat} (h:HX K H kvs cells i n) (s:Same H H'):HX K H' kvs cells i n:=let ⟨a,h1,h2⟩:=h;⟨a,h1,h2.same s⟩
theorem TV {H:Hp} {an b:AA} {kvs:List (List Key×V)} {i n:Nat} {x y:Int} {v:V} (h:H an=some (.dT kvs)) (hb:H b=some (.tup [.int x,.int y])) (ex:x=(i:Int)) (ey:y=(i:Int)+(n:Int) - 1) (hv:Bq kvs (Fi i n)=some v):Fm H an (.ref b) (some v):=by
 subst ex ey
 exact .inr ⟨kvs,Fi i n,b,.inl h,rfl,hb,hv.symm⟩
theorem ig {H:Hp} {an b:AA} {kvs:List (List Key×V)} {i n:Nat} {x y:Int} {v:V} (h:H an=some (.dT kvs)) (hb:H b=some (.tup [.int x,.int y])) (ex:x=(i:Int)) (ey:y=(i:Int)+(n:Int) - 1) (hl:kvs.length < AZ):IX H an (.ref b) v (upd H an (.dT (putK kvs (Fi i n) v))):=by
 subst ex ey
 exact .inr ⟨kvs,Fi i n,b,h,rfl,hb,hl,rfl⟩
theorem PD {cells:List Nat} {i:Nat} (h:i < cells.length):(cells.map nI)[i]? =some (nI (cells.getD i 0)):=by
 rw[CM,DU h,Gg,DU h]
 rfl
section
variable {P:Av} {w:Am} {K:AW} {mg:AG->Option AF} {base:Ae}
def cj (K:AW):Sp:=fun vs H Q _=>∃(an sh:AA) (kvs:List (List Key×V)) (cells:List Nat) (i n:Nat),vs=[.ref an,.ref sh,nI i,nI (i+n)]/\H an=some (.dT kvs)/\AQ K H sh (cells.map nI)/\i+n < cells.length/\cells.length<=100/\
 (∀i' n',i < i'->i'+n'<=cells.length->HX K H kvs cells i' n')/\
 ∀(H':Hp) (p:AA) (as:List AA),Same H H'->H p=none->H' p=some (.lst (as.map V.ref))->Ar (C8 K H') as (Vm.ways cells i n)->Q (.ref p) H'
theorem Ru:BD ["anew","shall","i","j","ways","e","behind","longer"] ["anew","shall","i","j"] (As Vq):={}
theorem ABe {f:AA} {fd:A2} (F:A0 K "ways_anew" "ways_anew" Vq f fd) (m1:mg "range"=none):Aa P w K mg base Ag 1 f fd ["anew","shall","i","j"] (cj K):=by
 refine F.ok Ru (fun vs H Q E h=>?_) (fun Al A outer s H vs Q E hr h=>?_)
 . obtain⟨an,sh,kvs,cells,i,n,rfl,_⟩:=h
   rfl
 . obtain⟨an,sh,kvs,cells,i,n,rfl,han,hS,BQ,CH,Cm,q⟩:=h
   have hu:=DC hr
   refine⟨_,AX (A5 (i:=4) Ru.nd rfl (Ad rfl) (DE (AH (DF Js (DE (AH (Ex (AH (pv 2) (AH (DF Fz (pv 2) Ax) (AH (Br Df (pv 1) (pv 2)) AK)))) AK))
    (Ah hu (pv 0) (Ex (AH (DF Fz (pv 2) Ax) (AH (pv 3) AK))))) AK)))
    (AX (El PassesOwn.never rfl (nV rfl m1 (AH (DF Fz (pv 2) Ax) (AH (DF Fz (pv 3) Ax) AK))) (CW (i:=5) Ru.nd rfl (Ad rfl))
     (Ac (C9 (DY Fh (Br Df (pv 1) (pv 5)) (Br Df (pv 1) (pv 2)) (Cy _))
      (AX (A5 (i:=6) Ru.nd rfl (Ad rfl) (Ah hu (pv 0) (Ex (AH (pv 5) (AH (pv 3) AK)))))
      (AX (A5 (i:=7) Ru.nd rfl (Ad rfl) (Ex (AH (pv 2) (AH (Br D5 (Br Df (pv 6) Ax) Ax) (AH (Br D5 (Br Df (pv 6) Ax) Ax) AK)))))
      (Ac (E8 (F0 F2 Hd He HJ (pv 4)
       (AH (DF Js (DF Js (DE (AH (pv 7) AK)) (Ah hu (pv 0) (Ex (AH (DF Fz (pv 2) Ax) (AH (DF RK (pv 5) Ax) AK)))))
        (Nt OI (pv 6) (II Ax) MA)) AK)))))) DG)))
    (Ac (A4 (pv 4)))),?_⟩
   have JB:AZ=16777216:=Dn
   refine⟨_,rfl,_,rfl,_,_,rfl,rfl,_,rfl,_,rfl,sh,_,_,_,rfl,rfl,hS,at_of (j:=i) rfl (PD (by lia)),(by show 3<=AZ;decide),fun t1 ht1=>⟨(by show 1<=AZ;decide),fun l1 hl1=>?_⟩⟩
   have s1:Same H (upd H t1 (.tup [nI i,.int ((i:Int)+1),nI (cells.getD i 0)])):=Ao ht1
   have s2:Same (upd H t1 (.tup [nI i,.int ((i:Int)+1),nI (cells.getD i 0)])) (upd (upd H t1 (.tup [nI i,.int ((i:Int)+1),nI (cells.getD i 0)])) l1 (.lst [.ref t1])):=Ao hl1
   generalize hH2:upd (upd H t1 (.tup [nI i,.int ((i:Int)+1),nI (cells.getD i 0)])) l1 (.lst [.ref t1])=H2 at s2
   have ht2:H2 t1=some (.tup [nI i,.int ((i:Int)+1),nI (cells.getD i 0)]):=s2 _ _ AO
   have Cw:H2 l1=some (.lst [.ref t1]):=by rw[<-hH2,AO]
   have Em:=s1.trans s2
   refine⟨_,rfl,_,rfl,_,_,rfl,rfl,_,rfl,(by show 2<=AZ;decide),fun t3 Lx=>?_⟩
   have s3:Same H2 (upd H2 t3 (.tup [.int ((i:Int)+1),nI (i+n)])):=Ao Lx
   obtain⟨a1,ha1,Im,hb1,C5⟩:=Cm (i+1) n (by lia) (by lia)
   have Ec:=Em.trans s3
   refine⟨an,_,rfl,TV (i:=i+1) (n:=n) (Ec _ _ han) AO (by lia) (by lia) ha1,l1,a1,_,_,rfl,rfl,s3 _ _ Cw,Ec _ _ hb1,?_,fun c hc=>?_⟩
   . have h1:=(Vm.K8 cells n (i+1) (by lia)).1
     rw[AR,Paired.len C5]
     show 1+_<=AZ
     lia
   generalize Qs:upd H2 t3 (.tup [.int ((i:Int)+1),nI (i+n)])=H3 at s3 Ec hc ⊢
   have s4:Same H3 (upd H3 c (.lst ([V.ref t1]++Im.map V.ref))):=Ao hc
   refine⟨(by show 1<=AZ;decide),fun p hp=>?_⟩
   generalize Ki:upd H3 c (.lst ([V.ref t1]++Im.map V.ref))=H4 at s4 hp ⊢
   have hc4:H4 c=some (.lst ((t1::Im).map V.ref)):=by rw[<-Ki,AO];rfl
   have hcp:c≠p:=BF hc4 hp
   have s5:Same H4 (upd H4 p (.lst [.ref c])):=Ao hp
   have GR:=Ec.trans s4
   have IK:=GR.trans s5
   have alone:C8 K H4 c ((i,i,cells.getD i 0)::Vm.An cells (i+1) n):=by
    refine⟨t1::Im,hc4,.cons (Ap.of (s4 _ _ (s3 _ _ ht2))) (Paired.Be C5 fun b q h=>h.same GR)⟩
   refine⟨_,rfl,_,_,rfl,rfl,_,rfl,_,_,rfl,rfl,_,_,rfl,⟨(by show -(2 ^ 62)<=(i:Int)+1;lia),(by show (i:Int)+1 < 2 ^ 62;lia),(by show -(2 ^ 62)<=((i+n:Nat):Int)+1;lia),(by show ((i+n:Nat):Int)+1 < 2 ^ 62;lia)⟩,?_⟩
   have en:((((i+n:Nat):Int)+1) - ((i:Int)+1)).toNat=n:=by lia
   show ∃W:Nat->Nat->L2.St->Hp->Prop,_
   rw[en]
   refine Qg (lo:=(i:Int)+1) (n:=n) (fun t σ H'=>∃(z1 z2 z3:Option V) (as:List AA),σ=[some (.ref an),some (.ref sh),some (nI i),some (nI (i+n)),some (.ref p),z1,z2,z3]/\Same H H'/\H' p=some (.lst (as.map V.ref))/\as.length<=1+t/\
    Ar (fun a ws=>C8 K H' a ws/\a≠p) as (((i,i,cells.getD i 0)::Vm.An cells (i+1) n)::((Ca t).filter fun t=>cells.getD (i+(t+1)) 0==cells.getD i 0).map fun t=>Vm.way cells i n (t+1)))
    ⟨none,none,none,[c],rfl,IK,AO,Aj _,.cons ⟨alone.same s5,hcp⟩ .nil⟩ ?_ ?_
   . rintro t σ H5 ht ⟨z1,z2,z3,as,rfl,N1,JA,hal,hP⟩
     have eE:V.int ((i:Int)+1+(t:Int))=nI (i+(t+1)):=by unfold nI;congr 1;lia
     rw[eE]
     have T8:=N1.seq hS
     refine⟨_,rfl,_,rfl,sh,_,_,_,rfl,rfl,T8,at_of (j:=i+(t+1)) rfl (PD (by lia)),_,rfl,_,rfl,sh,_,_,_,rfl,rfl,T8,at_of (j:=i) rfl (PD (by lia)),rfl,_,rfl,?_⟩
     rw[Hz]
     have i7:(Ca (t+1)).filter (fun t=>cells.getD (i+(t+1)) 0==cells.getD i 0)=(Ca t).filter (fun t=>cells.getD (i+(t+1)) 0==cells.getD i 0)++[t].filter (fun t=>cells.getD (i+(t+1)) 0==cells.getD i 0):=by rw[Sj,Ef]
     cases heq:(cells.getD (i+(t+1)) 0==cells.getD i 0) with
     | false=>
      refine BJ ⟨_,_,_,as,rfl,N1,JA,by lia,?_⟩
      rw[i7,Dv (p:=fun t=>cells.getD (i+(t+1)) 0==cells.getD i 0) (by rw[heq];exact Bw),Dx,EG]
      exact hP
     | true=>
      obtain⟨a2,ha2,hs2⟩:=Cm (i+(t+1)) (n - t) (by lia) (by lia)
      have BX:=(Vm.K8 cells (n - t) (i+(t+1)) (by lia)).2.1 (by lia)
      have hl2':=(Vm.K8 cells (n - t) (i+(t+1)) (by lia)).1
      obtain⟨a3,ha3,hs3⟩:=Cm (i+1) t (by lia) (by lia)
      have AEz:=(Vm.K8 cells t (i+1) (by lia)).1
      cases hA:Vm.An cells (i+(t+1)) (n - t) with
      | nil=>exact absurd hA BX
      | cons pz rz=>
       rw[hA] at hs2 hl2'
       obtain⟨Mw,hb2,hp2⟩:=hs2
       obtain⟨Jc,hb3,hp3⟩:=hs3
       cases hp2 with
       | @cons b0 _ Jb _ r0 oK=>
       refine A9 ?_
       refine⟨_,rfl,_,rfl,_,rfl,(by show 2<=AZ;decide),fun t6 NZ=>?_⟩
       have s6:Same H5 (upd H5 t6 (.tup [nI (i+(t+1)),nI (i+n)])):=Ao NZ
       refine⟨an,_,rfl,TV (i:=i+(t+1)) (n:=n - t) (s6 _ _ (N1 _ _ han)) AO rfl (by lia) ha2,?_⟩
       generalize jf:upd H5 t6 (.tup [nI (i+(t+1)),nI (i+n)])=H6 at s6 ⊢
       have Uz:=N1.trans s6
       have jq:=AQ.of (K:=K) (Uz _ _ hb2)
       have hr0:=HC.same r0 Uz
       refine⟨_,rfl,_,rfl,a2,_,_,_,rfl,rfl,jq,at_of (j:=0) (v:=.ref b0) rfl rfl,b0,_,_,_,rfl,rfl,hr0,rfl,_,rfl,a2,_,_,_,rfl,rfl,jq,at_of (j:=0) (v:=.ref b0) rfl rfl,b0,_,_,_,rfl,rfl,hr0,rfl,(by show 3<=AZ;decide),fun t7 yF=>?_⟩
       have s7:Same H6 (upd H6 t7 (.tup [nI i,nI (pz.2.1+1),nI pz.2.2])):=Ao yF
       have km:upd H6 t7 (.tup [nI i,nI (pz.2.1+1),nI pz.2.2]) t7=some (.tup [nI i,nI (pz.2.1+1),nI pz.2.2]):=AO
       generalize hH7:upd H6 t7 (.tup [nI i,nI (pz.2.1+1),nI pz.2.2])=H7 at s7 km ⊢
       have s07:=Uz.trans s7
       have ZO:=s7 _ _ (s6 _ _ JA)
       refine⟨_,rfl,.inl ⟨rfl,_,AQ.of ZO⟩,_,rfl,(by show 1<=AZ;decide),fun l8 xZ=>?_⟩
       have s8:Same H7 (upd H7 l8 (.lst [.ref t7])):=Ao xZ
       have hl8':upd H7 l8 (.lst [.ref t7]) l8=some (.lst [.ref t7]):=AO
       generalize jg:upd H7 l8 (.lst [.ref t7])=H8 at s8 hl8' ⊢
       have ae:=s07.trans s8
       refine⟨_,rfl,_,rfl,_,_,rfl,rfl,_,rfl,_,_,rfl,rfl,(by show 2<=AZ;decide),fun t9 ht9=>?_⟩
       have s9:Same H8 (upd H8 t9 (.tup [.int ((i:Int)+1),.int (((i+(t+1):Nat):Int) - 1)])):=Ao ht9
       refine⟨an,_,rfl,TV (i:=i+1) (n:=t) (s9 _ _ (ae _ _ han)) AO (by lia) (by lia) ha3,l8,a3,_,_,rfl,rfl,s9 _ _ hl8',s9 _ _ (ae _ _ hb3),?_,fun PB jr=>?_⟩
       . rw[AR,Paired.len hp3]
         show 1+_<=AZ
         lia
       generalize wt:upd H8 t9 (.tup [.int ((i:Int)+1),.int (((i+(t+1):Nat):Int) - 1)])=H9 at s9 jr ⊢
       have s09:=ae.trans s9
       have Kv:Same H9 (upd H9 PB (.lst ([V.ref t7]++Jc.map V.ref))):=Ao jr
       have jt:upd H9 PB (.lst ([V.ref t7]++Jc.map V.ref)) PB=some (.lst ([V.ref t7]++Jc.map V.ref)):=AO
       generalize AEs:upd H9 PB (.lst ([V.ref t7]++Jc.map V.ref))=Oe at Kv jt ⊢
       have oT:=s09.trans Kv
       refine⟨_,rfl,_,rfl,a2,_,rfl,AQ.of (oT _ _ hb2),fun L1 xX=>?_⟩
       rw[YF]
       have Jx:Same Oe (upd Oe L1 (.lst (((b0::Jb).map V.ref).drop 1))):=Ao xX
       have kD:upd Oe L1 (.lst (((b0::Jb).map V.ref).drop 1)) L1=some (.lst (Jb.map V.ref)):=AO
       generalize AEt:upd Oe L1 (.lst (((b0::Jb).map V.ref).drop 1))=Sd at Jx kD ⊢
       have ACp:=oT.trans Jx
       have xF:=Paired.len oK
       refine⟨PB,L1,_,_,rfl,rfl,Jx _ _ jt,kD,?_,fun c12 Y8=>?_⟩
       . rw[BZ,AR,AR,Paired.len hp3,xF]
         rw[BO] at hl2'
         show 1+_+_<=AZ
         lia
       have s12:Same Sd (upd Sd c12 (.lst ([V.ref t7]++Jc.map V.ref++Jb.map V.ref))):=Ao Y8
       have ju:upd Sd c12 (.lst ([V.ref t7]++Jc.map V.ref++Jb.map V.ref)) c12=some (.lst ((t7::(Jc++Jb)).map V.ref)):=by
        rw[AO,CP,Ba]
        rfl
       generalize AEu:upd Sd c12 (.lst ([V.ref t7]++Jc.map V.ref++Jb.map V.ref))=dg at s12 ju ⊢
       have aZ:=ACp.trans s12
       have oU:Same H5 dg:=((((((s6.trans s7).trans s8).trans s9).trans Kv).trans Jx).trans s12)
       have ZN:=oU _ _ JA
       have jv:c12≠p:=fun z=>by
        have:=((((((s6.trans s7).trans s8).trans s9).trans Kv).trans Jx)) _ _ JA
        rw[z,this] at Y8
        cases Y8
       have yJ:C8 K dg c12 (Vm.way cells i n (t+1)):=by
        have e1:n+1 - (t+1)=n - t:=by lia
        unfold Vm.way
        rw[e1,hA]
        refine⟨t7::(Jc++Jb),ju,.cons (Ap.of (((((s8.trans s9).trans Kv).trans Jx).trans s12) _ _ km)) (Paired.append (Paired.Be hp3 fun b q h=>HC.same h aZ) (Paired.Be oK fun b q h=>HC.same h aZ))⟩
       refine⟨p,_,_,rfl,rfl,ZN,?_,_,_,_,as++[c12],rfl,fun b' o e=>?_,?_,?_,?_⟩
       . rw[AR]
         lia
       . rw[AV (BF e (GR.free hp))]
         exact aZ _ _ e
       . rw[AO,Ba]
         rfl
       . rw[BZ]
         show as.length+1<=1+(t+1)
         lia
       . rw[i7,Eg (p:=fun t=>cells.getD (i+(t+1)) 0==cells.getD i 0) heq,Dx,Ba,<-dz]
         exact Paired.snoc (R:=fun a ws=>C8 K _ a ws/\a≠p) ⟨yJ.Kr ZN jv,jv⟩ (Paired.Be hP fun d ws h=>⟨(h.1.same oU).Kr ZN h.2,h.2⟩)
   . rintro σ H5 ⟨z1,z2,z3,as,rfl,N1,JA,hal,hP⟩
     exact⟨_,rfl,q H5 p as N1 (GR.free hp) JA (Paired.Be hP fun d ws h=>h.1)⟩
def bw (K:AW):Sp:=fun vs H Q _=>∃(sh:AA) (cells:List Nat),vs=[.ref sh]/\AQ K H sh (cells.map nI)/\cells.length<=14/\
 ∀(H':Hp) (p:AA) (kvs:List (List Key×V)),Same H H'->H p=none->H' p=some (.dT kvs)->(∀i n,i+n<=cells.length->HX K H' kvs cells i n)->Q (.ref p) H'
theorem Rp:BD ["shall","count","anew","i","j"] ["shall"] (As U1):={}
theorem HX.put {H:Hp} {p a:AA} {kvs:List (List Key×V)} {cells:List Nat} {i n:Nat} (hp:H p=some (.dT kvs)) (ha:C8 K H a (Vm.An cells i n)) {i' n':Nat} (h:(i'=i/\n'=n)\/HX K H kvs cells i' n'):HX K (upd H p (.dT (putK kvs (Fi i n) (.ref a)))) (putK kvs (Fi i n) (.ref a)) cells i' n':=by
 by_cases e:Fi i' n'=Fi i n
 . obtain⟨e1,e2⟩:=qP e
   subst e1 e2
   exact⟨a,by rw[cz,if_pos rfl],ha.nF hp⟩
 . rcases h with ⟨e1,e2⟩ | ⟨b,h1,h2⟩
   . subst e1 e2
     exact absurd rfl e
   . exact⟨b,by rw[cz,if_neg e];exact h1,h2.nF hp⟩
theorem AAZ {f:AA} {fd:A2} (F:A0 K "found_anew" "found_anew" U1 f fd) (m1:mg "range"=none) (m2:mg "len"=none) (gW:Gd P w K mg base 1 "ways_anew" ["anew","shall","i","j"] (cj K)) (gF:Gd P w K mg base 1 "fewer_of" ["ways"] (WM K)):
 Aa P w K mg base Ag 2 f fd ["shall"] (bw K):=by
 refine F.ok Rp (fun vs H Q E h=>?_) (fun Al A outer s H vs Q E hr h=>?_)
 . obtain⟨sh,cells,rfl,_⟩:=h
   rfl
 . obtain⟨sh,cells,rfl,hS,CH,q⟩:=h
   have hu:=DC hr
   have JB:AZ=16777216:=Dn
   refine⟨_,AX (A5 (i:=1) Rp.nd rfl (Ad rfl) (Eb F9 (by rfl) m2 F3 (AH (pv 0) AK)))
    (AX (A5 (i:=2) Rp.nd rfl (Ad rfl) nQ)
    (AX (El PassesOwn.never rfl (nW rfl m1 (AH (pv 1) (AH (RN SD Ax) (AH (RN SD Ax) AK)))) (CW (i:=3) Rp.nd rfl (Ad rfl))
     (AX (RQ hu (pv 2) (Ex (AH (pv 3) (AH (DF RK (pv 3) Ax) AK))) (DE AK) rfl)
     (Ac (El PassesOwn.never rfl (nV rfl m1 (AH (pv 3) (AH (pv 1) AK))) (CW (i:=4) Rp.nd rfl (Ad rfl))
      (Ac (RQ hu (pv 2) (Ex (AH (pv 3) (AH (pv 4) AK))) (Bm gF hr rfl (AH (Bm gW hr rfl (AH (pv 2) (AH (pv 0) (AH (pv 3) (AH (pv 4) AK))))) AK)) rfl))))))
    (Ac (A4 (pv 2))))),?_⟩
   refine⟨_,rfl,sh,_,rfl,.inl hS,fun p hp=>?_⟩
   rw[AR]
   have s0:Same H (upd H p (.dT [])):=Ao hp
   generalize Bb:cells.length=cnt at CH
   have kZ:Mj (cnt:Int) (-1) (-1) ((cnt:Int) - (-1)).toNat:=Mj.neg (by lia) (by lia) (by lia) (by lia)
   have en:((cnt:Int) - (-1)).toNat=cnt+1:=by lia
   rw[en] at kZ
   refine⟨_,rfl,_,rfl,_,rfl,(cnt:Int),-1,-1,cnt+1,rfl,kZ,vH (lo:=(cnt:Int)) (c:= -1) (n:=cnt+1)
    (fun k σ H'=>∃(z1 z2:Option V) (kvs:List (List Key×V)),σ=[some (.ref sh),some (nI cnt),some (.ref p),z1,z2]/\Same H H'/\H' p=some (.dT kvs)/\kvs.length<=20*k/\∀i' n',cnt+1 - k<=i'->i'+n'<=cnt->HX K H' kvs cells i' n')
    ⟨none,none,[],rfl,s0,AO,Ci _,fun i' n' h1 h2=>by lia⟩ ?_ ?_⟩
   . rintro k σ H1 hk ⟨z1,z2,kvs,rfl,s1,C5,hkl,Cm⟩
     obtain⟨i,hi⟩:∃i,i+k=cnt:=⟨cnt - k,by lia⟩
     have eI:V.int ((cnt:Int)+(k:Int)* -1)=nI i:=by unfold nI;congr 1;lia
     rw[eI]
     refine⟨Ci _,fun l2 Cw=>?_⟩
     have s2:Same H1 (upd H1 l2 (.lst [])):=Ao Cw
     refine⟨_,rfl,_,rfl,_,rfl,_,_,rfl,rfl,(by show 2<=AZ;decide),fun t3 Lx=>?_⟩
     have hl2':upd H1 l2 (.lst []) l2=some (.lst ([]:List V)):=AO
     generalize hH2:upd H1 l2 (.lst [])=H2 at s2 Lx hl2' ⊢
     have s3:Same H2 (upd H2 t3 (.tup [nI i,.int ((i:Int) - 1)])):=Ao Lx
     have kh:upd H2 t3 (.tup [nI i,.int ((i:Int) - 1)]) t3=some (.tup [nI i,.int ((i:Int) - 1)]):=AO
     generalize Qs:upd H2 t3 (.tup [nI i,.int ((i:Int) - 1)])=H3 at s3 kh ⊢
     have hp3:=s3 _ _ (s2 _ _ C5)
     have hempty:C8 K H3 l2 (Vm.An cells i 0):=by
      rw[Vm.dH]
      exact⟨[],s3 _ _ hl2',.nil⟩
     refine⟨p,_,rfl,ig (i:=i) (n:=0) hp3 kh rfl (by lia) (by lia),?_⟩
     have e2:((cnt:Int) - (i:Int)).toNat=k:=by lia
     refine⟨_,rfl,_,rfl,(i:Int),(cnt:Int),rfl,⟨by lia,by lia,by lia,by lia⟩,?_⟩
     show ∃W:Nat->Nat->L2.St->Hp->Prop,_
     rw[e2]
     have Nz:Same H H3:=(s1.trans s2).trans s3
     refine Qg (lo:=(i:Int)) (n:=k) (fun t σ H'=>∃(z2:Option V) (kvs:List (List Key×V)),σ=[some (.ref sh),some (nI cnt),some (.ref p),some (nI i),z2]/\Same H H'/\H' p=some (.dT kvs)/\kvs.length<=20*k+1+t/\
      ∀i' n',(i < i'\/(i'=i/\n'<=t))->i'+n'<=cnt->HX K H' kvs cells i' n')
      ⟨z2,_,rfl,fun b o e=>?_,AO,?_,fun i' n' h1 h2=>?_⟩ ?_ ?_
     . rw[AV (BF e hp)]
       exact Nz _ _ e
     . have:=aK kvs (Fi i 0) (.ref l2)
       lia
     . refine HX.put hp3 hempty ?_
       rcases h1 with z | ⟨z1,z2⟩
       . exact .inr ((Cm i' n' (by lia) h2).same (s2.trans s3))
       . exact .inl ⟨z1,by lia⟩
     . rintro t σ H4 ht ⟨z2,UU,rfl,s4,UK,xV,Kk⟩
       have eJ:V.int ((i:Int)+(t:Int))=nI (i+t):=by unfold nI;congr 1
       rw[eJ]
       refine⟨_,rfl,_,rfl,_,rfl,_,rfl,p,sh,UU,cells,i,t,rfl,UK,s4.seq hS,(by lia),(by lia),fun i' n' h1 h2=>Kk i' n' (.inl h1) (by lia),fun H5 wl qw s5 hwl Ly w4=>?_⟩
       refine⟨wl,qw,_,rfl,AQ.of Ly,w4,(by unfold Vm.ways;exact Se _ _),fun a ha hsa=>?_⟩
       rw[<-Vm.dG cells (by lia)] at hsa
       refine⟨_,rfl,_,rfl,_,rfl,(by show 2<=AZ;decide),fun t6 NZ=>?_⟩
       have s6:Same H5 (upd H5 t6 (.tup [nI i,nI (i+t)])):=Ao NZ
       have kj:upd H5 t6 (.tup [nI i,nI (i+t)]) t6=some (.tup [nI i,nI (i+t)]):=AO
       generalize jf:upd H5 t6 (.tup [nI i,nI (i+t)])=H6 at s6 kj ⊢
       have Hk:=s6 _ _ (s5 _ _ UK)
       refine⟨p,_,rfl,ig (i:=i) (n:=t+1) Hk kj rfl (by lia) (by lia),_,_,rfl,fun b o e=>?_,AO,?_,fun i' n' h1 h2=>?_⟩
       . rw[AV (BF e hp)]
         exact s6 _ _ (s5 _ _ (s4 _ _ e))
       . have:=aK UU (Fi i (t+1)) (.ref a)
         lia
       . refine HX.put Hk (hsa.same s6) ?_
         by_cases e:i'=i/\n'=t+1
         . exact .inl e
         . refine .inr ((Kk i' n' ?_ h2).same (s5.trans s6))
           rcases h1 with z | ⟨z1,z2⟩
           . exact .inl z
           . refine .inr ⟨z1,?_⟩
             have:¬n'=t+1:=fun z=>e ⟨z1,z⟩
             lia
     . rintro σ H4 ⟨z2,UU,rfl,s4,UK,xV,Kk⟩
       refine⟨_,_,UU,rfl,s4,UK,by lia,fun i' n' h1 h2=>Kk i' n' ?_ h2⟩
       by_cases e:i'=i
       . exact .inr ⟨e,by lia⟩
       . exact .inl (by lia)
   . rintro σ H1 ⟨z1,z2,kvs,rfl,s1,C5,hkl,Cm⟩
     exact⟨_,rfl,q H1 p kvs s1 hp C5 fun i n h=>Cm i n (by lia) (by rw[<-Bb];exact h)⟩
end
theorem Paired.AAW {α β:Type} {R:α->β->Prop} {l:List α} {m:List β} (h:Ar R l m) {x:α} (hx:x∈l):∃y,R x y:=by
 obtain⟨i,hi⟩:=Mb hx
 obtain⟨y,_,hr⟩:=Paired.DJ h hi
 exact⟨y,hr⟩
theorem yj {b:Bool} {R IW:Hp->Prop} {A:Prop} (H5:Hp) (hA:(∀H,IW H->R H)->b=true->A) (hB:b=false->IW H5) (hR:∀H,IW H->R H):if b=true then A else R H5:=by
 cases b with
 | false=>exact BJ (hR H5 (hB rfl))
 | true=>exact A9 (hA hR rfl)
section
variable {P:Av} {w:Am} {K:AW} {mg:AG->Option AF} {base:Ae} {C:AA}
def cW (K:AW):Sp:=fun vs H Q _=>∃(kn sh:AA) (cells old:List Nat),vs=[.ref kn,.ref sh]/\AQ K H kn (old.map nI)/\AQ K H sh (cells.map nI)/\old.length=cells.length/\cells.length<=14/\
 ∀(H':Hp) (a:AA),Same H H'->C8 K H' a (Vm.Ov cells old cells.length)->Q (.ref a) H'
theorem OB:BD ["known","shall","anew","over","j","ways","i"] ["known","shall"] (As Ve):={}
theorem ABN {f:AA} {fd:A2} (F:A0 K "found_over" "found_over" Ve f fd) (m1:mg "range"=none) (m2:mg "len"=none) (gA:Gd P w K mg base 2 "found_anew" ["shall"] (bw K)) (gF:Gd P w K mg base 1 "fewer_of" ["ways"] (WM K)):
 Aa P w K mg base Ag 3 f fd ["known","shall"] (cW K):=by
 refine F.ok OB (fun vs H Q E h=>?_) (fun Al A outer s H vs Q E hr h=>?_)
 . obtain⟨kn,sh,cells,old,rfl,_⟩:=h
   rfl
 . obtain⟨kn,sh,cells,old,rfl,wu,hS,hol,CH,q⟩:=h
   have hu:=DC hr
   have Bg:BW 1 _:=hr.mono (by decide)
   have JB:AZ=16777216:=Dn
   refine⟨_,AX (A5 (i:=2) OB.nd rfl (Ad rfl) (Bm gA hr rfl (AH (pv 1) AK)))
    (AX (A5 (i:=3) OB.nd rfl (Ad rfl) (DE (AH (DE AK) AK)))
    (AX (El PassesOwn.never rfl (aH rfl m1 (AH (Eb F9 (by rfl) m2 F3 (AH (pv 1) AK)) AK)) (CW (i:=4) OB.nd rfl (Ad rfl))
     (AX (A5 (i:=5) OB.nd rfl (Ad rfl) (DE AK))
     (AX (C9 (DY Fh (Br Df (pv 0) (pv 4)) (Br Df (pv 1) (pv 4)) (Cy _))
      (Ac (E8 (F0 F2 Hd He HJ (pv 5) (AH (Br Df (pv 3) (pv 4)) AK)))) DG)
     (AX (El PassesOwn.never rfl (aH rfl m1 (AH (DF Fz (pv 4) Ax) AK)) (CW (i:=6) OB.nd rfl (Ad rfl))
      (Ac (E8 (F0 F2 Hd He HJ (pv 5) (AH (DF Js (Br Df (pv 3) (pv 6)) (Ah hu (pv 2) (Ex (AH (pv 6) (AH (pv 4) AK))))) AK)))))
     (Ac (E8 (F0 F2 Hd He HJ (pv 3) (AH (Bm gF Bg rfl (AH (pv 5) AK)) AK))))))))
    (Ac (A4 (Br Df (pv 3) (RN SD Ax)))))),?_⟩
   refine⟨_,rfl,sh,cells,rfl,hS,CH,fun H1 an kvs s1 AEx han Cm=>?_⟩
   refine⟨Ci _,fun l0 hl0=>⟨(by show 1<=AZ;decide),fun o ho=>?_⟩⟩
   have s2:Same H1 (upd H1 l0 (.lst [])):=Ao hl0
   have ZH:upd H1 l0 (.lst []) l0=some (.lst ([]:List V)):=AO
   generalize hH2:upd H1 l0 (.lst [])=H2 at s2 ZH ho ⊢
   have s3:Same H2 (upd H2 o (.lst [.ref l0])):=Ao ho
   have kO:upd H2 o (.lst [.ref l0]) o=some (.lst [.ref l0]):=AO
   generalize Qs:upd H2 o (.lst [.ref l0])=H3 at s3 kO ⊢
   have xW:l0≠o:=BF ZH ho
   have Ec:Same H H3:=(s1.trans s2).trans s3
   have xn:H o=none:=(s1.trans s2).free ho
   have xC:∀i n,i+n<=cells.length->∃a,Bq kvs (Fi i n)=some (.ref a)/\C8 K H3 a (Vm.An cells i n)/\a≠o:=fun i n h=>by
    obtain⟨a,h1,bs,h2,h3⟩:=Cm i n h
    exact⟨a,h1,⟨bs,s3 _ _ (s2 _ _ h2),Paired.Be h3 fun b p q=>q.same (s2.trans s3)⟩,BF (s2 _ _ h2) ho⟩
   have xB:H3 an=some (.dT kvs):=s3 _ _ (s2 _ _ han)
   have hano:an≠o:=BF (s2 _ _ han) ho
   refine⟨_,rfl,sh,_,rfl,.inl (Ec.seq hS),(cells.length:Int),(by rw[AR]),(by lia),(by lia),?_⟩
   show ∃W:Nat->Nat->L2.St->Hp->Prop,_
   rw[IY]
   refine Qg (lo:=0) (n:=cells.length) (fun j σ H'=>∃(z4 z5 z6:Option V) (os:List AA),σ=[some (.ref kn),some (.ref sh),some (.ref an),some (.ref o),z4,z5,z6]/\Same H H'/\H' an=some (.dT kvs)/\(∀i n,i+n<=cells.length->∃a,Bq kvs (Fi i n)=some (.ref a)/\C8 K H' a (Vm.An cells i n)/\a≠o)/\
    H' o=some (.lst (os.map V.ref))/\Ar (fun a ws=>C8 K H' a ws/\a≠o) os ((Ca (j+1)).map (Vm.Ov cells old)))
    ⟨none,none,none,[l0],rfl,Ec,xB,xC,kO,.cons ⟨by rw[Vm.Xf];exact⟨[],s3 _ _ ZH,.nil⟩,xW⟩ .nil⟩ ?_ ?_
   . rintro j σ H4 hj ⟨z4,z5,z6,os,rfl,s4,Y6,Kk,Ls,NH⟩
     have eJ:V.int (0+(j:Int))=nI j:=by unfold nI;rw[XB]
     rw[eJ]
     have AE0:os.length=j+1:=by rw[Paired.len NH,AR,Mf]
     refine⟨Ci _,fun wl hwl=>?_⟩
     have s5:Same H4 (upd H4 wl (.lst [])):=Ao hwl
     have Ly:upd H4 wl (.lst []) wl=some (.lst ([]:List V)):=AO
     generalize je:upd H4 wl (.lst [])=H5 at s5 Ly ⊢
     have wx:=s5.seq (s4.seq wu)
     have T8:=s5.seq (s4.seq hS)
     have nG:∀i,i<=j->∃a,os[i]? =some a/\C8 K H4 a (Vm.Ov cells old i)/\a≠o:=fun i hi=>by
      have A1:i < os.length:=by lia
      obtain⟨y,hy,hr⟩:=Paired.DJ NH (DU A1)
      rw[CM,XJ (by lia)] at hy
      cases hy
      exact⟨os[i],DU A1,hr⟩
     refine⟨_,rfl,_,rfl,kn,_,_,_,rfl,rfl,wx,at_of (j:=j) rfl (PD (by lia)),_,rfl,_,rfl,sh,_,_,_,rfl,rfl,T8,at_of (j:=j) rfl (PD hj),rfl,_,rfl,?_⟩
     rw[Hz]
     refine yj H5 (IW:=fun H6=>∃O8:List AA,Same H4 H6/\H6 wl=some (.lst (O8.map V.ref))/\O8.length<=1/\Ar (fun a ws=>C8 K H6 a ws/\a≠o/\a≠wl) O8 (if cells.getD j 0=old.getD j 0 then [Vm.Ov cells old j] else [])) (fun go hb=>?_) (fun hb=>?_) (fun H6 wc=>?_)
     . have eb:cells.getD j 0=old.getD j 0:=(eq_of_beq hb).symm
       obtain⟨a,ha,hsa,hao⟩:=nG j (Aj _)
       have jo:a≠wl:=by
        obtain⟨bs,h1,_⟩:=hsa
        exact BF h1 hwl
       refine⟨_,rfl,.inl ⟨rfl,_,AQ.of Ly⟩,_,rfl,_,rfl,o,_,_,_,rfl,rfl,AQ.of (s5 _ _ Ls),at_of (j:=j) (v:=.ref a) rfl (by rw[CM,ha];rfl),wl,_,_,rfl,rfl,Ly,(by show 0 < AZ;decide),go _ ⟨[a],fun b' o' e=>?_,AO,Aj _,?_⟩⟩
       . rw[AV (BF e hwl)]
         exact s5 _ _ e
       . rw[if_pos eb]
         exact .cons ⟨(hsa.same s5).Kr Ly jo,hao,jo⟩ .nil
     . have eb:¬cells.getD j 0=old.getD j 0:=fun z=>by rw[z,beq_self_eq_true] at hb;cases hb
       refine⟨[],s5,Ly,Ci _,?_⟩
       rw[if_neg eb]
       exact .nil
     obtain⟨O8,s6,yM,xA,Kj⟩:=wc
     generalize yO:(if cells.getD j 0=old.getD j 0 then [Vm.Ov cells old j] else [])=dD at Kj
     have Uz:=s4.trans s6
     refine⟨_,rfl,_,_,rfl,rfl,_,rfl,(by show -(2 ^ 62)<=(j:Int)+1;lia),(by show (j:Int)+1 < 2 ^ 62;lia),?_⟩
     have en:((j:Int)+1).toNat=j+1:=by lia
     show ∃W:Nat->Nat->L2.St->Hp->Prop,_
     rw[en]
     refine Qg (lo:=0) (n:=j+1) (fun t σ H'=>∃(z6:Option V) (as:List AA),σ=[some (.ref kn),some (.ref sh),some (.ref an),some (.ref o),some (nI j),some (.ref wl),z6]/\Same H4 H'/\H' wl=some (.lst (as.map V.ref))/\as.length<=1+t/\
      Ar (fun a ws=>C8 K H' a ws/\a≠o/\a≠wl) as (dD++(Ca t).map fun i=>Vm.Ov cells old i++Vm.An cells i (j+1 - i)))
      ⟨z6,O8,rfl,s6,yM,xA,(by rw[List.range_zero,KL,EG];exact Kj)⟩ ?_ ?_
     . rintro t σ H7 ht ⟨z6',as,rfl,s7,Q5,hal,Iw⟩
       have eT:V.int (0+(t:Int))=nI t:=by unfold nI;rw[XB]
       rw[eT]
       obtain⟨a1,ha1,⟨Im,hb1,C5⟩,AEv⟩:=nG t (by lia)
       obtain⟨a2,ha2,⟨Mw,hb2,hp2⟩,AEw⟩:=Kk t (j+1 - t) (by lia)
       refine⟨_,rfl,.inl ⟨rfl,_,AQ.of Q5⟩,_,rfl,_,rfl,o,_,_,_,rfl,rfl,AQ.of (s7 _ _ Ls),at_of (j:=t) (v:=.ref a1) rfl (by rw[CM,ha1];rfl),_,rfl,_,rfl,_,rfl,(by show 2<=AZ;decide),fun t8 UN=>?_⟩
       have s8:Same H7 (upd H7 t8 (.tup [nI t,nI j])):=Ao UN
       have ko:upd H7 t8 (.tup [nI t,nI j]) t8=some (.tup [nI t,nI j]):=AO
       generalize jg:upd H7 t8 (.tup [nI t,nI j])=H8 at s8 ko ⊢
       have U0:=s7.trans s8
       refine⟨an,_,rfl,TV (i:=t) (n:=j+1 - t) (U0 _ _ Y6) ko rfl (by lia) ha2,a1,a2,_,_,rfl,rfl,U0 _ _ hb1,U0 _ _ hb2,?_,fun c hc=>?_⟩
       . rw[AR,AR,Paired.len C5,Paired.len hp2]
         have h1:=(Vm.Sq cells old t (by lia)).1
         have h2:=(Vm.K8 cells (j+1 - t) t (by lia)).1
         lia
       have s9:Same H8 (upd H8 c (.lst (Im.map V.ref++Mw.map V.ref))):=Ao hc
       have hc9:upd H8 c (.lst (Im.map V.ref++Mw.map V.ref)) c=some (.lst ((Im++Mw).map V.ref)):=by rw[AO,Ba]
       generalize wt:upd H8 c (.lst (Im.map V.ref++Mw.map V.ref))=H9 at s9 hc9 ⊢
       have ai:=s8.trans s9
       have ah:=s7.trans ai
       have ZY:=ai _ _ Q5
       have hcw:c≠wl:=fun z=>by rw[z,s8 _ _ Q5] at hc;cases hc
       have hco:c≠o:=fun z=>by rw[z,U0 _ _ Ls] at hc;cases hc
       have hnew:C8 K H9 c (Vm.Ov cells old t++Vm.An cells t (j+1 - t)):=⟨Im++Mw,hc9,Paired.append (Paired.Be C5 fun b q h=>HC.same h ah) (Paired.Be hp2 fun b q h=>HC.same h ah)⟩
       refine⟨wl,_,_,rfl,rfl,ZY,?_,_,as++[c],rfl,fun b' o' e=>?_,?_,?_,?_⟩
       . rw[AR]
         lia
       . rw[AV (BF e hwl)]
         exact ah _ _ e
       . rw[AO,Ba]
         rfl
       . rw[BZ]
         show as.length+1<=1+(t+1)
         lia
       . rw[Sj,Ba,<-Ha]
         exact Paired.snoc (R:=fun a ws=>C8 K _ a ws/\a≠o/\a≠wl) ⟨hnew.Kr ZY hcw,hco,hcw⟩ (Paired.Be Iw fun d ws h=>⟨(h.1.same ai).Kr ZY h.2.2,h.2⟩)
     . rintro σ H7 ⟨z6',as,rfl,s7,Q5,hal,Iw⟩
       have yN:dD++(Ca (j+1)).map (fun i=>Vm.Ov cells old i++Vm.An cells i (j+1 - i))≠[]:=by
        rw[Sj,Ba]
        intro e
        have:=congrArg D6 e
        simp at this
       refine⟨_,rfl,.inl ⟨rfl,_,AQ.of (s7 _ _ Ls)⟩,_,rfl,wl,as,_,rfl,AQ.of Q5,Paired.Be Iw (fun d ws h=>h.1),yN,fun a ha hsa=>?_⟩
       have ug:dD++(Ca (j+1)).map (fun i=>Vm.Ov cells old i++Vm.An cells i (j+1 - i))=Vm.K4 cells old j:=by
        rw[<-yO]
        rfl
       rw[ug,<-Vm.eW cells old (by lia)] at hsa
       obtain⟨wsa,_,hao,_⟩:=Paired.AAW Iw ha
       have UH:=s7 _ _ Ls
       refine⟨o,_,_,rfl,rfl,UH,?_,_,_,_,os++[a],rfl,fun b' o' e=>?_,?_,fun i n h=>?_,?_,?_⟩
       . rw[AR]
         lia
       . rw[AV (BF e xn)]
         exact s7 _ _ (s4 _ _ e)
       . rw[AV hano]
         exact s7 _ _ Y6
       . obtain⟨a',h1,h2,h3⟩:=Kk i n h
         exact⟨a',h1,(h2.same s7).Kr UH h3,h3⟩
       . rw[AO,Ba]
         rfl
       . rw[Sj,Ba]
         exact Paired.snoc (R:=fun a ws=>C8 K _ a ws/\a≠o) ⟨hsa.Kr UH hao,hao⟩ (Paired.Be NH fun d ws h=>⟨(h.1.same s7).Kr UH h.2,h.2⟩)
   . rintro σ H4 ⟨z4,z5,z6,os,rfl,s4,Y6,Kk,Ls,NH⟩
     rw[Sj,Ba] at NH
     obtain⟨os0,a,rfl,_,hsa,_⟩:=Paired.last NH
     refine⟨_,rfl,1,rfl,o,_,_,_,rfl,rfl,AQ.of Ls,(by rw[Ba];exact Xu _ _),q H4 a s4 hsa⟩
def cI (K:AW) (C:AA):Sp:=fun vs H Q _=>∃(l sh:AA) (as:List AA) (es:List Ent) (k a b:Nat) (ns:List Int),vs=[.ref l,nI k,nI a,nI b,.ref sh]/\G5 K C H l as es/\a < b/\es.length<=450/\AQ K H sh (ns.map V.int)/\ns.length<=1000/\Vm.D4 ns a b=true/\(FZ es k a b (By ns)).length<=14/\
 ∀(H':Hp) (p:AA) (bs:List AA),Same H H'->H p=none->H' p=some (.lst (bs.map V.ref))->Ar (LX K H') bs ((Hx es k a b (By ns)).map fun p=>[(p.1:Int),(p.2.1:Int),(p.2.2:Int)])->Q (.ref p) H'
theorem Jz:BD ["entries","key","a","b","shall","minutes","known","wanted","edges","minute","stroke"] ["entries","key","a","b","shall"] (As MD):={}
theorem AAx {f:AA} {fd:A2} (F:A0 K "fewest_strokes" "fewest_strokes" MD f fd) (gC:Gd P w K mg base 2 "cell_starts" ["entries","key","a","b","shall"] (WG K C)) (gV:Gd P w K mg base 3 "value_at" ["entries","key","minute"] (K0 K C))
 (gS:Gd P w K mg base 2 "shall_at" ["shall","minute"] (cc K)) (gO:Gd P w K mg base 3 "found_over" ["known","shall"] (cW K)):Aa P w K mg base Ag 4 f fd ["entries","key","a","b","shall"] (cI K C):=by
 refine F.ok Jz (fun vs H Q E h=>?_) (fun Al A outer s H vs Q E hr h=>?_)
 . obtain⟨l,sh,as,es,k,a,b,ns,rfl,_⟩:=h
   rfl
 . obtain⟨l,sh,as,es,k,a,b,ns,rfl,hE,Bk,BV,hS,hnl,hline,h14,q⟩:=h
   have hr2:BW 2 _:=hr.mono (by decide)
   have JB:AZ=16777216:=Dn
   obtain⟨hok,hup,hn2,p0,r0,EW⟩:=Vm.Zh (by lia:(0:Int)<=(a:Int)) hline
   refine⟨_,AX (A5 (i:=5) Jz.nd rfl (Ad rfl) (Bm gC hr2 rfl (AH (pv 0) (AH (pv 1) (AH (pv 2) (AH (pv 3) (AH (pv 4) AK)))))))
    (AX (RT (i:=6) rfl Jz.nd rfl rfl (R5 rfl rfl rfl rfl) (Dl (pv 5)) (Ep (own:=[("minute",9)]) (by show EL ["entries","key","a","b","shall","minutes","known","wanted","edges","minute","stroke"] (As MD) _ _=true;decide+kernel))
     (fun _ _ _ _ _=>CW (i:=9) Jz.nd rfl (Ad rfl)) (fun _ _ _ _ _=>HM) (fun _ _ _ _ _=>Bm gV hr rfl (AH (pv 0) (AH (pv 1) (AH (pv 9) AK)))))
    (AX (RT (i:=7) rfl Jz.nd rfl rfl (R5 rfl rfl rfl rfl) (Dl (pv 5)) (Ep (own:=[("minute",9)]) (by show EL ["entries","key","a","b","shall","minutes","known","wanted","edges","minute","stroke"] (As MD) _ _=true;decide+kernel))
     (fun _ _ _ _ _=>CW (i:=9) Jz.nd rfl (Ad rfl)) (fun _ _ _ _ _=>HM) (fun _ _ _ _ _=>Bm gS hr2 rfl (AH (pv 4) (AH (pv 9) AK))))
    (AX (A5 (i:=8) Jz.nd rfl (KQ rfl) (DF Js (pv 5) (DE (AH (pv 3) AK))))
    (Ac (A4 (GP rfl Jz.nd (Dl (Bm gO hr rfl (AH (pv 6) (AH (pv 7) AK)))) (Ep (own:=[("stroke",10)]) (by show EL ["entries","key","a","b","shall","minutes","known","wanted","edges","minute","stroke"] (As MD) _ _=true;decide+kernel))
     (fun _ _ _ _ _=>CW (i:=10) Jz.nd rfl (Ad rfl)) (fun _ _ _ _ _=>HM)
     (fun _ _ _ _ _=>Ex (AH (Br (r:=aP K) Df (pv 8) (Br (r:=JK K) D5 (pv 10) Ax)) (AH (Br (r:=aP K) Df (pv 8) (Br (r:=JK K) D5 (pv 10) Ax)) (AH (Br (r:=JK K) D5 (pv 10) Ax) AK)))))))))),?_⟩
   have ZD:=Vm.iG es k a b (By ns) hup
   generalize hcs:FZ es k a b (By ns)=cs at h14 ZD
   refine⟨_,rfl,_,rfl,_,rfl,_,rfl,_,rfl,l,sh,as,es,k,a,b,ns,rfl,hE,Bk,BV,hS,hnl,hline,fun H1 m s1 hm h1=>?_⟩
   rw[hcs] at h1
   have De:=hE.same s1
   have ZL:AQ K H1 m (cs.map nI):=AQ.of h1
   refine⟨_,rfl,m,rfl,⟨_,ZL⟩,fun D hD=>Fx (K:=K) (a:=m) (xs:=cs.map nI) (fun i H'=>H' D=some (.lst (((cs.map fun mm=>A3 es k mm).take i).map nI))/\Same H1 H')
    ⟨AO,Ao hD⟩ (fun i H' _ ⟨_,s3⟩=>s3.seq ZL) ?_ ?_⟩
   . rintro i x H2 hx ⟨BU,s2⟩
     obtain⟨mm,hmm,rfl⟩:=T3 hx
     refine⟨rfl,?_⟩
     unfold Gy
     have hz:(cs.map fun mm=>A3 es k mm)[i]? =some (A3 es k mm):=by rw[CM,hmm];rfl
     refine A9 ⟨_,rfl,_,rfl,_,rfl,l,as,es,k,mm,rfl,De.same s2,fun H3 s3=>⟨_,s3 _ _ BU,?_,?_,fun b' o e=>?_⟩⟩
     . rw[AR,Ct,AR]
       lia
     . rw[AO,C6 hz,Ba]
       rfl
     . rw[AV (BF e hD)]
       exact s3 _ _ (s2 _ _ e)
   . rintro H2 ⟨BU,s2⟩
     have DK:(cs.map fun mm=>A3 es k mm).take (cs.map nI).length=cs.map fun mm=>A3 es k mm:=DN (by rw[AR,AR];exact Aj _)
     rw[DK] at BU
     have kI:=s2.seq ZL
     have Em:=s1.trans s2
     refine⟨_,rfl,m,rfl,⟨_,kI⟩,fun D2 Qn=>Fx (K:=K) (a:=m) (xs:=cs.map nI) (fun i H'=>H' D2=some (.lst (((cs.map fun mm=>Vm.Fc (By ns) mm).take i).map nI))/\Same H2 H')
      ⟨AO,Ao Qn⟩ (fun i H' _ ⟨_,s3⟩=>s3.seq kI) ?_ ?_⟩
     . rintro i x H3 hx ⟨Ce,s3⟩
       obtain⟨mm,hmm,rfl⟩:=T3 hx
       refine⟨rfl,?_⟩
       unfold Gy
       have hz:(cs.map fun mm=>Vm.Fc (By ns) mm)[i]? =some (Vm.Fc (By ns) mm):=by rw[CM,hmm];rfl
       refine A9 ⟨_,rfl,_,rfl,sh,ns,(Vm.pairsOf ns).length,mm,rfl,s3.seq (Em.seq hS),hn2,(by lia),(fun p hp=>by have:=hok p hp;lia),fun H4 s4=>⟨_,s4 _ _ Ce,?_,?_,fun b' o e=>?_⟩⟩
       . rw[AR,Ct,AR]
         lia
       . rw[AO,C6 hz,Ba]
         rfl
       . rw[AV (BF e Qn)]
         exact s4 _ _ (s3 _ _ e)
     . rintro H3 ⟨Ce,s3⟩
       have Qx:(cs.map fun mm=>Vm.Fc (By ns) mm).take (cs.map nI).length=cs.map fun mm=>Vm.Fc (By ns) mm:=DN (by rw[AR,AR];exact Aj _)
       rw[Qx] at Ce
       have Ec:=Em.trans s3
       have xh:=s3 _ _ (s2 _ _ h1)
       refine⟨_,rfl,_,rfl,(by show 1<=AZ;decide),fun e he=>?_⟩
       have s4:Same H3 (upd H3 e (.lst [nI b])):=Ao he
       refine⟨m,e,_,_,rfl,rfl,s4 _ _ xh,AO,?_,fun g hg=>?_⟩
       . rw[AR]
         show cs.length+1<=AZ
         lia
       generalize Ki:upd H3 e (.lst [nI b])=H4 at s4 hg ⊢
       have s5:Same H4 (upd H4 g (.lst (cs.map nI++[nI b]))):=Ao hg
       have NM:upd H4 g (.lst (cs.map nI++[nI b])) g=some (.lst ((cs++[b]).map nI)):=by rw[AO,Ba];rfl
       generalize je:upd H4 g (.lst (cs.map nI++[nI b]))=H5 at s5 NM ⊢
       have JM:=s4.trans s5
       have IK:=Ec.trans JM
       have CH:(cs.map fun mm=>Vm.Fc (By ns) mm).length=cs.length:=AR _
       refine⟨_,rfl,_,rfl,D,D2,cs.map (fun mm=>Vm.Fc (By ns) mm),cs.map (fun mm=>A3 es k mm),rfl,AQ.of (JM _ _ (s3 _ _ BU)),AQ.of (JM _ _ Ce),(by rw[AR,AR]),(by rw[CH];exact h14),fun H6 r s6 ZR=>?_⟩
       rw[CH] at ZR
       have T6:=(Vm.Sq (cs.map fun mm=>Vm.Fc (By ns) mm) (cs.map fun mm=>A3 es k mm) cs.length (JZ CH.symm))
       rw[CH] at T6
       generalize hrow:Vm.Ov (cs.map fun mm=>Vm.Fc (By ns) mm) (cs.map fun mm=>A3 es k mm) cs.length=row at ZR ZD T6
       obtain⟨bs,kY,Hk⟩:=ZR
       have NP:=s6 _ _ NM
       have Jk:=Paired.len Hk
       refine⟨r,rfl,⟨_,AQ.of kY⟩,fun D3 Y2=>Fx (K:=K) (a:=r) (xs:=bs.map V.ref)
        (fun i H'=>∃ds:List AA,H' D3=some (.lst (ds.map V.ref))/\Same H6 H'/\Ar (fun a (ns:List Int)=>Ap K H' a (ns.map V.int)) ds (((row.map fun p=>(cs.getD p.1 0,(cs++[b]).getD (p.2.1+1) 0,p.2.2)).map fun p=>[(p.1:Int),(p.2.1:Int),(p.2.2:Int)]).take i))
        ⟨[],AO,Ao Y2,.nil⟩ (fun i H' _ ⟨_,_,s7,_⟩=>AQ.of (s7 _ _ kY)) ?_ ?_⟩
       . rintro i x H7 hx ⟨ds,Qp,s7,Iw⟩
         obtain⟨b1,hb1,rfl⟩:=EA hx
         obtain⟨pz,hpz,w9⟩:=Paired.DJ Hk hb1
         obtain⟨o1,o2⟩:=T6.2 pz (G7 hpz)
         have Y5:=HC.same w9 s7
         have NQ:=AQ.of (K:=K) (s7 _ _ NP)
         have e1:((cs++[b]).map nI)[pz.1]? =some (nI (cs.getD pz.1 0)):=by
          rw[CM,XH (by lia),Gg,DU (by lia)]
          rfl
         have e2:((cs++[b]).map nI)[pz.2.1+1]? =some (nI ((cs++[b]).getD (pz.2.1+1) 0)):=by
          have A1:pz.2.1+1 < (cs++[b]).length:=by rw[BZ];show pz.2.1+1 < cs.length+1;lia
          rw[CM,Gg,DU A1]
          rfl
         refine⟨rfl,?_⟩
         unfold Gy
         refine A9 ⟨_,rfl,_,rfl,b1,_,_,_,rfl,rfl,Y5,rfl,g,_,_,_,rfl,rfl,NQ,at_of (j:=pz.1) rfl e1,_,rfl,_,rfl,b1,_,_,_,rfl,rfl,Y5,rfl,g,_,_,_,rfl,rfl,NQ,at_of (j:=pz.2.1+1) rfl e2,_,rfl,b1,_,_,_,rfl,rfl,Y5,rfl,(by show 3<=AZ;decide),fun t ht=>?_⟩
         have s8:Same H7 (upd H7 t (.tup [nI (cs.getD pz.1 0),nI ((cs++[b]).getD (pz.2.1+1) 0),nI pz.2.2])):=Ao ht
         have UN:upd H7 t (.tup [nI (cs.getD pz.1 0),nI ((cs++[b]).getD (pz.2.1+1) 0),nI pz.2.2]) t=some (.tup [nI (cs.getD pz.1 0),nI ((cs++[b]).getD (pz.2.1+1) 0),nI pz.2.2]):=AO
         generalize jg:upd H7 t (.tup [nI (cs.getD pz.1 0),nI ((cs++[b]).getD (pz.2.1+1) 0),nI pz.2.2])=H8 at s8 UN ⊢
         have Qq:=s8 _ _ Qp
         have hz:((row.map fun p=>(cs.getD p.1 0,(cs++[b]).getD (p.2.1+1) 0,p.2.2)).map fun p=>[(p.1:Int),(p.2.1:Int),(p.2.2:Int)])[i]? =some [((cs.getD pz.1 0:Nat):Int),(((cs++[b]).getD (pz.2.1+1) 0:Nat):Int),(pz.2.2:Int)]:=by
          rw[CM,CM,hpz]
          rfl
         have hdl:ds.length<=14:=by
          rw[Paired.len Iw,Ct,AR,AR]
          have:=T6.1
          lia
         refine⟨_,Qq,?_,ds++[t],?_,fun b' o e=>?_,?_⟩
         . rw[AR]
           lia
         . rw[AO,Ba]
           rfl
         . rw[AV (BF e Y2)]
           exact s8 _ _ (s7 _ _ e)
         . rw[C6 hz]
           exact Paired.snoc (R:=fun (a:AA) (ns:List Int)=>Ap K _ a (ns.map V.int)) (K1 Qq (Ap.of UN)) (Paired.Be Iw fun d y h=>K1 Qq (Ap.same h s8))
       . rintro H7 ⟨ds,Qp,s7,Iw⟩
         have xY:((row.map fun p=>(cs.getD p.1 0,(cs++[b]).getD (p.2.1+1) 0,p.2.2)).map fun p=>[(p.1:Int),(p.2.1:Int),(p.2.2:Int)]).take (bs.map V.ref).length=(row.map fun p=>(cs.getD p.1 0,(cs++[b]).getD (p.2.1+1) 0,p.2.2)).map fun p=>[(p.1:Int),(p.2.1:Int),(p.2.2:Int)]:=DN (by rw[AR,AR,AR,Jk];exact Aj _)
         rw[xY,<-ZD] at Iw
         exact q H7 D3 ds ((IK.trans s6).trans s7) ((IK.trans s6).free Y2) Qp (Paired.Be Iw fun a ns h=>.inl h)
end
open Vm (A7)
section
variable {P:Av} {w:Am} {K:AW} {mg:AG->Option AF} {base:Ae} {W:Cl}
abbrev Ro:Au:=top 80
abbrev N4:Au:=top 81
abbrev RZ:Au:=top 82
abbrev VD:Au:=top 83
abbrev Vf:Au:=top 84
abbrev VN:Au:=top 85
abbrev VB:Au:=top 86
abbrev Rg:Au:=top 87
abbrev VF:Au:=top 88
abbrev Rb:Au:=top 89
def WL (W:Cl):Sp:=fun vs H Q _=>∃(d nd:AA) (kk:Dk) (s:BI) (kvs:List (Key×V)) (c e k a b:Nat),vs=[.ref d,.ref nd]/\Bc W H d kk s/\H nd=some (.dK kvs)/\A7 c/\A7 e/\Num kvs "c" c/\Num kvs "d" e/\Num kvs "k" k/\Num kvs "a" a/\Num kvs "b" b/\a < b/\
 Fj H d kk W s (Mr (LZ (Vm.got s c) (Vm.got s e) k a b)) Q
theorem bP:BD ["desk","numbers","one","other"] ["desk","numbers"] (As VB):={}
theorem AAt {f:AA} {fd:A2} (F:A0 K "differ" "differ" VB f fd) (TD:DI K W.CD) (TC:Cq K W.CC) (gX:Gd P w K mg base 4 "changes_between" ["one","other","key","a","b"] (Rx K W.CE)) (gC:Gd P w K mg base 1 "counted" ["rows"] (IL K)):
 Aa P w K mg base Ag 5 f fd ["desk","numbers"] (WL W):=by
 refine F.ok bP (fun vs H Q E h=>?_) (fun Al A outer s H vs Q E hr h=>?_)
 . obtain⟨d,nd,kk,s,kvs,c,e,k,a,b,rfl,_⟩:=h
   rfl
 . obtain⟨d,nd,kk,st,kvs,c,e,k,a,b,rfl,hD,hn,hc,he,gc,ge,gk,ga,gb,Bk,q⟩:=h
   obtain⟨dx,hd⟩:=hD.ins
   obtain⟨⟨dc,Bb⟩,hE⟩:=hD.BR c hc
   obtain⟨⟨de,hce⟩,Lj⟩:=hD.BR e he
   have Bg:BW 1 _:=hr.mono (by decide)
   have hu:=DC hr
   refine⟨_,AX (A5 (i:=2) bP.nd rfl (Ad rfl) (Ay (Ah hu (Ay (pv 0) rfl) (Ah hu (pv 1) Aw)) rfl))
    (AX (A5 (i:=3) bP.nd rfl (Ad rfl) (Ay (Ah hu (Ay (pv 0) rfl) (Ah hu (pv 1) Aw)) rfl))
    (Ac (A4 (Bm gC Bg rfl (AH (Bm gX hr rfl (AH (pv 2) (AH (pv 3) (AH (Ah hu (pv 1) Aw) (AH (Ah hu (pv 1) Aw) (AH (Ah hu (pv 1) Aw) AK)))))) AK))))),?_⟩
   refine⟨_,rfl,d,W.CD,dx,_,_,rfl,hd,TD.cl,TD.n1,DW _ _ _,_,rfl,nd,_,rfl,BE hn gc,kk.D,_,rfl,Dd hD hc,kk.c c,W.CC,dc,_,_,rfl,Bb,TC.cl,TC.n3,Er _ _ _,?_⟩
   refine⟨_,rfl,d,W.CD,dx,_,_,rfl,hd,TD.cl,TD.n1,DW _ _ _,_,rfl,nd,_,rfl,BE hn ge,kk.D,_,rfl,Dd hD he,kk.c e,W.CC,de,_,_,rfl,hce,TC.cl,TC.n3,Er _ _ _,?_⟩
   have Fe:=Vm.FG hD.good hc
   have Yz:=Vm.FG hD.good he
   refine⟨_,rfl,_,rfl,_,rfl,nd,_,rfl,BE hn gk,_,rfl,nd,_,rfl,BE hn ga,_,rfl,nd,_,rfl,BE hn gb,kk.l c,kk.l e,kk.a c,kk.a e,Vm.got st c,Vm.got st e,k,a,b,rfl,hE,Lj,Bk,BP Fe (by decide),BP Yz (by decide),fun H1 r bs s1 ZQ h1 hb=>?_⟩
   have Lw:=aV hb
   have hll:=iA (Vm.got st c) (Vm.got st e) k a b Bk
   refine⟨r,bs,_,rfl,AQ.of h1,Lw,?_,fun H2 r2 s2 hr2 h2=>?_⟩
   . rw[jN]
     lia
   . rw[<-hW] at h2
     exact q H2 r2 (s1.trans s2) (s1.free hr2) h2
def WU (W:Cl):Sp:=fun vs H Q _=>∃(d nd:AA) (kk:Dk) (s:BI) (kvs:List (Key×V)) (c n k a b v:Nat),vs=[.ref d,.ref nd]/\Bc W H d kk s/\H nd=some (.dK kvs)/\A7 c/\Num kvs "c" c/\Num kvs "n" n/\Num kvs "k" k/\Num kvs "a" a/\Num kvs "b" b/\Num kvs "v" v/\a < b/\
 Fj H d kk W s [(UJ ((Vm.got s c).take n) k a b v:Int)] Q
theorem bg:BD ["desk","numbers","centre","had"] ["desk","numbers"] (As VN):={}
theorem AA6 {f:AA} {fd:A2} (F:A0 K "howlong" "howlong" VN f fd) (TD:DI K W.CD) (TC:Cq K W.CC) (gM:Gd P w K mg base 5 "minutes_with" ["entries","key","a","b","value"] (cU K W.CE)) (gA:Gm P w K mg base W.CC 1 "at_tick" ["self","tick"] (Ky W.CC W.CE)):
 Aa P w K mg base Ag 6 f fd ["desk","numbers"] (WU W):=by
 refine F.ok bg (fun vs H Q E h=>?_) (fun Al A outer s H vs Q E hr h=>?_)
 . obtain⟨d,nd,kk,s,kvs,c,n,k,a,b,v,rfl,_⟩:=h
   rfl
 . obtain⟨d,nd,kk,st,kvs,c,n,k,a,b,v,rfl,hD,hn,hc,gc,gn,gk,ga,gb,gv,Bk,q⟩:=h
   obtain⟨dx,hd⟩:=hD.ins
   obtain⟨⟨dc,Bb⟩,hE⟩:=hD.BR c hc
   have Bg:BW 1 _:=hr.mono (by decide)
   have hu:=DC hr
   refine⟨_,AX (A5 (i:=2) bg.nd rfl (Ad rfl) (Ah hu (Ay (pv 0) rfl) (Ah hu (pv 1) Aw)))
    (AX (A5 (i:=3) bg.nd rfl (Ad rfl) (Gu gA TC.cl (pv 2) Bg (AH (Ah hu (pv 1) Aw) AK)))
    (Ac (A4 (DE (AH (Bm gM hr rfl (AH (pv 3) (AH (Ah hu (pv 1) Aw) (AH (Ah hu (pv 1) Aw) (AH (Ah hu (pv 1) Aw) (AH (Ah hu (pv 1) Aw) AK)))))) AK))))),?_⟩
   refine⟨_,rfl,d,W.CD,dx,_,_,rfl,hd,TD.cl,TD.n1,DW _ _ _,_,rfl,nd,_,rfl,BE hn gc,kk.D,_,rfl,Dd hD hc,?_⟩
   refine⟨_,rfl,kk.c c,dc,_,rfl,Bb,rfl,_,rfl,nd,_,rfl,BE hn gn,kk.c c,kk.l c,kk.a c,c,_,n,_,rfl,hD.BR c hc,fun p hp=>?_⟩
   have s0:=Ao (o:=.lst (((kk.a c).take n).map V.ref)) hp
   have hn0:=s0 _ _ hn
   have Iv:=M7 hE n hp
   have Fe:=Vm.FG hD.good hc
   have A1:((Vm.got st c).take n).length<=60:=by rw[Ct];lia
   refine⟨_,rfl,_,rfl,nd,_,rfl,BE hn0 gk,_,rfl,nd,_,rfl,BE hn0 ga,_,rfl,nd,_,rfl,BE hn0 gb,_,rfl,nd,_,rfl,BE hn0 gv,p,_,_,k,a,b,v,rfl,Iv.at,Bk,BP A1 (by decide),fun H1 s1=>⟨(by show 1<=AZ;decide),fun r hr'=>?_⟩⟩
   exact q _ r ((s0.trans s1).trans (Ao hr')) ((s0.trans s1).free hr') AO
def WQ (W:Cl):Sp:=fun vs H Q _=>∃(d nd:AA) (kk:Dk) (s:BI) (kvs:List (Key×V)) (c k m v n:Nat),vs=[.ref d,.ref nd]/\Bc W H d kk s/\H nd=some (.dK kvs)/\A7 c/\Num kvs "c" c/\Num kvs "k" k/\Num kvs "m" m/\Num kvs "v" v/\firstV (Vm.got s c) k m v=nI n/\
 Fj H d kk W s [(n:Int)] Q
theorem AC3:BD ["desk","numbers"] ["desk","numbers"] (As VF):={}
theorem AA0 {f:AA} {fd:A2} (F:A0 K "first" "first" VF f fd) (TD:DI K W.CD) (TC:Cq K W.CC) (gF:Gm P w K mg base W.CC 5 "first_tick" ["self","key","minute","value"] (WO W.CC W.CE)):
 Aa P w K mg base Ag 6 f fd ["desk","numbers"] (WQ W):=by
 refine F.ok AC3 (fun vs H Q E h=>?_) (fun Al A outer s H vs Q E hr h=>?_)
 . obtain⟨d,nd,kk,s,kvs,c,k,m,v,n,rfl,_⟩:=h
   rfl
 . obtain⟨d,nd,kk,st,kvs,c,k,m,v,n,rfl,hD,hn,hc,gc,gk,gm,gv,hf,q⟩:=h
   obtain⟨dx,hd⟩:=hD.ins
   obtain⟨⟨dc,Bb⟩,hE⟩:=hD.BR c hc
   have hu:=DC hr
   refine⟨_,Ac (A4 (DE (AH (Gu gF TC.cl (Ah hu (Ay (pv 0) rfl) (Ah hu (pv 1) Aw)) hr (AH (Ah hu (pv 1) Aw) (AH (Ah hu (pv 1) Aw) (AH (Ah hu (pv 1) Aw) AK)))) AK))),?_⟩
   refine⟨_,rfl,d,W.CD,dx,_,_,rfl,hd,TD.cl,TD.n1,DW _ _ _,_,rfl,nd,_,rfl,BE hn gc,kk.D,_,rfl,Dd hD hc,kk.c c,dc,_,rfl,Bb,rfl,_,rfl,nd,_,rfl,BE hn gk,_,rfl,nd,_,rfl,BE hn gm,_,rfl,nd,_,rfl,BE hn gv,kk.c c,kk.l c,kk.a c,c,_,k,m,v,_,rfl,hD.BR c hc,BP (Vm.FG hD.good hc) (by decide),fun H1 s1=>⟨(by show 1<=AZ;decide),fun r hr'=>?_⟩⟩
   refine q _ r (s1.trans (Ao hr')) (s1.free hr') ?_
   rw[AO]
   show some (HO.lst [firstV (Vm.got st c) k m v])=_
   rw[hf]
   rfl
def WB (W:Cl):Sp:=fun vs H Q _=>∃(d nd:AA) (kk:Dk) (s:BI) (kvs:List (Key×V)) (c t k m:Nat),vs=[.ref d,.ref nd]/\Bc W H d kk s/\H nd=some (.dK kvs)/\A7 c/\Num kvs "c" c/\Num kvs "clock" t/\Num kvs "k" k/\Num kvs "m" m/\
 Fj H d kk W s (Mt (F7 ((Vm.got s c).filter fun e=>decide (e.clock<=t)) k m)) Q
theorem Vv:BD ["desk","numbers","centre","early","entry"] ["desk","numbers"] (As Rb):={}
theorem uT {C:AA} {H:Hp} {D:AA} {ds:List AA} {es:List Ent} {a:AA} {e:Ent} (hD:H D=some (.lst (ds.map V.ref))) (hs:Ar (CY C H) ds es) (he:CY C H a e):Ar (CY C (upd H D (.lst (ds.map V.ref++[.ref a])))) (ds++[a]) (es++[e]):=by
 have up:∀(d:AA) (e':Ent),CY C H d e'->CY C (upd H D (.lst (ds.map V.ref++[.ref a]))) d e':=fun d e' h=>by
  have h1:=h.L4 hD
  obtain⟨d',h⟩:=h
  exact⟨d',by rw[AV h1];exact h⟩
 exact Paired.snoc (up _ _ he) (Paired.Be hs up)
theorem AAd {f:AA} {fd:A2} (F:A0 K "asof" "asof" Rb f fd) (TD:DI K W.CD) (TC:Cq K W.CC) (TE:FY K W.CE) (gL:Gd P w K mg base 2 "latest" ["entries","key","minute"] (Kz K W.CE)) (gT:Gd P w K mg base 1 "entry_told" ["entry"] (OM W.CE)):
 Aa P w K mg base Ag 3 f fd ["desk","numbers"] (WB W):=by
 refine F.ok Vv (fun vs H Q E h=>?_) (fun Al A outer s H vs Q E hr h=>?_)
 . obtain⟨d,nd,kk,s,kvs,c,t,k,m,rfl,_⟩:=h
   rfl
 . obtain⟨d,nd,kk,st,kvs,c,t,k,m,rfl,hD,hn,hc,gc,gt,gk,gm,q⟩:=h
   obtain⟨dx,hd⟩:=hD.ins
   obtain⟨⟨dc,Bb⟩,hE⟩:=hD.BR c hc
   have Bg:BW 1 _:=hr.mono (by decide)
   have hu:=DC hr
   have Fe:=Vm.FG hD.good hc
   have JB:AZ=16777216:=Dn
   refine⟨_,AX (A5 (i:=2) Vv.nd rfl (Ad rfl) (Ah hu (Ay (pv 0) rfl) (Ah hu (pv 1) Aw)))
    (AX (RT (i:=3) (tt:=Wo (OQ (Jw fun i j=>.bl (decide (i<=j))) (Wl K (JP 4) "clock") (R6 (JP 1) (tC (.str "clock"))))) rfl Vv.nd rfl rfl (R5 rfl rfl rfl rfl) (Dl (Ay (pv 2) rfl)) (Ep (own:=[("entry",4)]) (by show EL ["desk","numbers","centre","early","entry"] (As Rb) _ _=true;decide+kernel))
     (fun _ _ _ _ _=>CW (i:=4) Vv.nd rfl (Ad rfl)) (fun _ _ _ _ _=>MB (DY Jt (Ay (pv 4) rfl) (Ah hu (pv 1) Aw) (Cy _))) (fun _ _ _ _ _=>pv 4))
    (Ac (A4 (Bm gT Bg rfl (AH (Bm gL hr rfl (AH (pv 3) (AH (Ah hu (pv 1) Aw) (AH (Ah hu (pv 1) Aw) AK)))) AK))))),?_⟩
   refine⟨_,rfl,d,W.CD,dx,_,_,rfl,hd,TD.cl,TD.n1,DW _ _ _,_,rfl,nd,_,rfl,BE hn gc,kk.D,_,rfl,Dd hD hc,?_⟩
   have Jm:=Paired.len hE.ent
   refine⟨_,rfl,kk.c c,W.CC,dc,_,_,rfl,Bb,TC.cl,TC.n3,Er _ _ _,kk.l c,rfl,⟨_,AQ.of hE.lst⟩,fun D hD'=>Fx (K:=K) (a:=kk.l c) (xs:=(kk.a c).map V.ref)
    (fun i H'=>∃ds:List AA,H' D=some (.lst (ds.map V.ref))/\Same H H'/\Ar (CY W.CE H') ds (((Vm.got st c).take i).filter fun e=>decide (e.clock<=t)))
    ⟨[],AO,Ao hD',.nil⟩ (fun i H' _ ⟨_,_,s1,_⟩=>AQ.of (s1 _ _ hE.lst)) ?_ ?_⟩
   . rintro i x H1 hx ⟨ds,Eu,s1,hP⟩
     obtain⟨a,ha,rfl⟩:=EA hx
     obtain⟨e,he,FH⟩:=Paired.DJ hE.ent ha
     have jy:=FH.same s1
     obtain⟨ex,UB⟩:=id jy
     refine⟨rfl,_,rfl,a,W.CE,ex,_,_,rfl,UB,TE.cl,TE.n1,M6 e,_,rfl,nd,_,rfl,BE (s1 _ _ hn) gt,_,_,rfl,rfl,_,rfl,?_⟩
     show if decide ((e.clock:Int)<=(t:Int))=true then _ else _
     rw[iS]
     have DS:=C6 he
     cases hb:decide (e.clock<=t) with
     | false=>
      refine BJ ⟨ds,Eu,s1,?_⟩
      rw[DS,Ef,Dv (p:=fun e:Ent=>decide (e.clock<=t)) (by rw[hb];exact Bw),Dx,EG]
      exact hP
     | true=>
      refine A9 ⟨_,rfl,_,Eu,?_,ds++[a],?_,fun b' o e'=>?_,?_⟩
      . rw[AR,Paired.len hP]
        refine Fp (Gh _ _) ?_
        rw[Ct]
        lia
      . rw[AO,Ba]
        rfl
      . rw[AV (BF e' hD')]
        exact s1 _ _ e'
      . rw[DS,Ef,Eg (p:=fun e:Ent=>decide (e.clock<=t)) hb,Dx]
        exact uT Eu hP jy
   . rintro H1 ⟨ds,Eu,s1,hP⟩
     have DK:(Vm.got st c).take ((kk.a c).map V.ref).length=Vm.got st c:=DN (by rw[AR,Jm];exact Aj _)
     rw[DK] at hP
     have hn1:=s1 _ _ hn
     refine⟨_,rfl,_,rfl,nd,_,rfl,BE hn1 gk,_,rfl,nd,_,rfl,BE hn1 gm,D,ds,_,k,m,rfl,⟨AQ.of Eu,hP⟩,fun v H2 s2 hF=>?_⟩
     have hF':=hF.at (Paired.Be hP fun a e h=>h.same s2)
     refine⟨v,_,rfl,hF',fun p hp=>?_⟩
     exact q _ p ((s1.trans s2).trans (Ao hp)) ((s1.trans s2).free hp) AO
def WN (W:Cl):Sp:=fun vs H Q _=>∃(d nd sh:AA) (kk:Dk) (s:BI) (kvs:List (Key×V)) (c k a b:Nat) (ns:List Int),vs=[.ref d,.ref nd]/\Bc W H d kk s/\H nd=some (.dK kvs)/\A7 c/\Num kvs "c" c/\Num kvs "k" k/\Num kvs "a" a/\Num kvs "b" b/\a < b/\
 Bq kvs (B7 "shall")=some (.ref sh)/\H sh=some (.lst (ns.map V.int))/\ns.length<=1000/\Vm.D4 ns a b=true/\(FZ (Vm.got s c) k a b (By ns)).length<=14/\
 Fj H d kk W s (((Hx (Vm.got s c) k a b (By ns)).length:Int)::((Hx (Vm.got s c) k a b (By ns)).map fun p=>[(p.1:Int),(p.2.1:Int),(p.2.2:Int)]).flatten) Q
theorem oY:BD ["desk","numbers","centre"] ["desk","numbers"] (As VD):={}
theorem jM (l:List (Nat×Nat×Nat)):(l.map fun p=>[(p.1:Int),(p.2.1:Int),(p.2.2:Int)]).flatten.length=3*l.length:=by
 induction l with
 | nil=>rfl
 | cons x r ih=>
  have e2:((x::r).map fun p=>[(p.1:Int),(p.2.1:Int),(p.2.2:Int)]).flatten.length=3+(r.map fun p=>[(p.1:Int),(p.2.1:Int),(p.2.2:Int)]).flatten.length:=by
   rw[CP,Oq,BZ]
   rfl
  rw[e2,ih,BO]
  lia
theorem AAy {f:AA} {fd:A2} (F:A0 K "fewest" "fewest" VD f fd) (TD:DI K W.CD) (TC:Cq K W.CC) (gF:Gd P w K mg base 4 "fewest_strokes" ["entries","key","a","b","shall"] (cI K W.CE)) (gC:Gd P w K mg base 1 "counted" ["rows"] (IL K)):
 Aa P w K mg base Ag 5 f fd ["desk","numbers"] (WN W):=by
 refine F.ok oY (fun vs H Q E h=>?_) (fun Al A outer s H vs Q E hr h=>?_)
 . obtain⟨d,nd,sh,kk,s,kvs,c,k,a,b,ns,rfl,_⟩:=h
   rfl
 . obtain⟨d,nd,sh,kk,st,kvs,c,k,a,b,ns,rfl,hD,hn,hc,gc,gk,ga,gb,Bk,gs,hsh,hnl,hline,h14,q⟩:=h
   obtain⟨dx,hd⟩:=hD.ins
   obtain⟨⟨dc,Bb⟩,hE⟩:=hD.BR c hc
   have Bg:BW 1 _:=hr.mono (by decide)
   have hu:=DC hr
   refine⟨_,AX (A5 (i:=2) oY.nd rfl (Ad rfl) (Ah hu (Ay (pv 0) rfl) (Ah hu (pv 1) Aw)))
    (Ac (A4 (Bm gC Bg rfl (AH (Bm gF hr rfl (AH (Ay (pv 2) rfl) (AH (Ah hu (pv 1) Aw) (AH (Ah hu (pv 1) Aw) (AH (Ah hu (pv 1) Aw) (AH (Ah hu (pv 1) Aw) AK)))))) AK)))),?_⟩
   refine⟨_,rfl,d,W.CD,dx,_,_,rfl,hd,TD.cl,TD.n1,DW _ _ _,_,rfl,nd,_,rfl,BE hn gc,kk.D,_,rfl,Dd hD hc,?_⟩
   refine⟨_,rfl,kk.c c,W.CC,dc,_,_,rfl,Bb,TC.cl,TC.n3,Er _ _ _,_,rfl,nd,_,rfl,BE hn gk,_,rfl,nd,_,rfl,BE hn ga,_,rfl,nd,_,rfl,BE hn gb,_,rfl,nd,_,rfl,Fu (.inl hn) gs,kk.l c,sh,kk.a c,Vm.got st c,k,a,b,ns,rfl,hE.at,Bk,BP (Vm.FG hD.good hc) (by decide),AQ.of hsh,hnl,hline,h14,fun H1 r bs s1 ZQ h1 hb=>?_⟩
   have CH:(Hx (Vm.got st c) k a b (By ns)).length<=14:=by
    obtain⟨hok,hup,_⟩:=Vm.Zh (by lia:(0:Int)<=(a:Int)) hline
    rw[Vm.iG _ k a b _ hup,AR]
    have:=(Vm.Sq ((FZ (Vm.got st c) k a b (By ns)).map fun m=>Vm.Fc (By ns) m) ((FZ (Vm.got st c) k a b (By ns)).map fun m=>A3 (Vm.got st c) k m) (FZ (Vm.got st c) k a b (By ns)).length (JZ (AR _).symm)).1
    exact BP this h14
   refine⟨r,bs,_,rfl,AQ.of h1,hb,?_,fun H2 r2 s2 hr2 h2=>?_⟩
   . rw[jM]
     lia
   . rw[AR] at h2
     exact q H2 r2 (s1.trans s2) (s1.free hr2) h2
def V7 (W:Cl):Sp:=fun vs H Q _=>∃(d nd:AA) (kk:Dk) (s:BI) (kvs:List (Key×V)) (c:Nat),vs=[.ref d,.ref nd]/\Bc W H d kk s/\H nd=some (.dK kvs)/\A7 c/\Num kvs "c" c/\
 Fj H d kk W s (((CZ s c).clock:Int)::((Vm.got s c).length:Int)::(Vm.got s c).flatMap La) Q
theorem Vu:BD ["desk","numbers","centre","entry"] ["desk","numbers"] (As RZ):={}
theorem jO (l:List Ent):(l.map La).flatten.length=6*l.length:=by
 induction l with
 | nil=>rfl
 | cons x r ih=>
  have e2:((x::r).map La).flatten.length=6+(r.map La).flatten.length:=by
   rw[CP,Oq,BZ]
   rfl
  rw[e2,ih,BO]
  lia
theorem AAY {f:AA} {fd:A2} (F:A0 K "all_entries" "all_entries" RZ f fd) (TD:DI K W.CD) (TC:Cq K W.CC) (gW:Gd P w K mg base 1 "whole_entry" ["entry"] (cn W.CE)) (gC:Gd P w K mg base 1 "counted" ["rows"] (IL K)):
 Aa P w K mg base Ag 2 f fd ["desk","numbers"] (V7 W):=by
 refine F.ok Vu (fun vs H Q E h=>?_) (fun Al A outer s H vs Q E hr h=>?_)
 . obtain⟨d,nd,kk,s,kvs,c,rfl,_⟩:=h
   rfl
 . obtain⟨d,nd,kk,st,kvs,c,rfl,hD,hn,hc,gc,q⟩:=h
   obtain⟨dx,hd⟩:=hD.ins
   obtain⟨⟨dc,Bb⟩,hE⟩:=hD.BR c hc
   have hu:=DC hr
   have Fe:=Vm.FG hD.good hc
   have JB:AZ=16777216:=Dn
   refine⟨_,AX (A5 (i:=2) Vu.nd rfl (Ad rfl) (Ah hu (Ay (pv 0) rfl) (Ah hu (pv 1) Aw)))
    (Ac (A4 (DF Js (DE (AH (Ay (pv 2) rfl) AK)) (Bm gC hr rfl (AH (GP rfl Vu.nd (Dl (Ay (pv 2) rfl)) (Ep (own:=[("entry",3)]) (by show EL ["desk","numbers","centre","entry"] (As RZ) _ _=true;decide+kernel))
     (fun _ _ _ _ _=>CW (i:=3) Vu.nd rfl (Ad rfl)) (fun _ _ _ _ _=>HM) (fun _ _ _ _ _=>Bm gW hr rfl (AH (pv 3) AK))) AK))))),?_⟩
   refine⟨_,rfl,d,W.CD,dx,_,_,rfl,hd,TD.cl,TD.n1,DW _ _ _,_,rfl,nd,_,rfl,BE hn gc,kk.D,_,rfl,Dd hD hc,?_⟩
   refine⟨_,rfl,kk.c c,W.CC,dc,_,_,rfl,Bb,TC.cl,TC.n2,PH _ _ _,(by show 1<=AZ;decide),fun l1 hl1=>?_⟩
   have s1:Same H (upd H l1 (.lst [nI (CZ st c).clock])):=Ao hl1
   have hl1':upd H l1 (.lst [nI (CZ st c).clock]) l1=some (.lst [nI (CZ st c).clock]):=AO
   generalize hH1:upd H l1 (.lst [nI (CZ st c).clock])=H1 at s1 hl1' ⊢
   have De:=hE.same s1
   have Jm:=Paired.len hE.ent
   refine⟨_,rfl,kk.c c,W.CC,dc,_,_,rfl,s1 _ _ Bb,TC.cl,TC.n3,Er _ _ _,kk.l c,rfl,⟨_,AQ.of De.lst⟩,fun D hD'=>Fx (K:=K) (a:=kk.l c) (xs:=(kk.a c).map V.ref)
    (fun i H'=>∃ds:List AA,H' D=some (.lst (ds.map V.ref))/\Same H1 H'/\Ar (fun a (ns:List Int)=>H' a=some (.lst (ns.map V.int))/\a≠D) ds (((Vm.got st c).take i).map La))
    ⟨[],AO,Ao hD',.nil⟩ (fun i H' _ ⟨_,_,s2,_⟩=>AQ.of (s2 _ _ De.lst)) ?_ ?_⟩
   . rintro i x H2 hx ⟨ds,BU,s2,hP⟩
     obtain⟨a,ha,rfl⟩:=EA hx
     obtain⟨e,he,FH⟩:=Paired.DJ De.ent ha
     refine⟨rfl,?_⟩
     unfold Gy
     refine A9 ⟨_,rfl,a,e,rfl,FH.same s2,fun t ht=>?_⟩
     have st3:Same H2 (upd H2 t (.lst ((La e).map V.int))):=Ao ht
     have Q0:t≠D:=fun z=>by rw[z,BU] at ht;cases ht
     refine⟨_,st3 _ _ BU,?_,ds++[t],?_,fun b' o e'=>?_,?_⟩
     . rw[AR,Paired.len hP,AR,Ct]
       lia
     . rw[AO,Ba]
       rfl
     . rw[AV (BF e' hD')]
       exact st3 _ _ (s2 _ _ e')
     . rw[C6 he,Ba]
       exact Paired.snoc (R:=fun a (ns:List Int)=>_/\a≠D) ⟨by rw[AV Q0,AO],Q0⟩ (Paired.Be hP fun d' ns h=>⟨by rw[AV h.2];exact st3 _ _ h.1,h.2⟩)
   . rintro H2 ⟨ds,BU,s2,hP⟩
     have DK:(Vm.got st c).take ((kk.a c).map V.ref).length=Vm.got st c:=DN (by rw[AR,Jm];exact Aj _)
     rw[DK] at hP
     refine⟨D,ds,_,rfl,AQ.of BU,Paired.Be hP (fun a ns h=>.inr (AQ.of h.1)),?_,fun H3 r s3 Lv h3=>?_⟩
     . rw[jO]
       lia
     refine⟨l1,r,_,_,rfl,rfl,s3 _ _ (s2 _ _ hl1'),h3,?_,fun p hp=>?_⟩
     . rw[AR,BO,BO,jO,D7]
       lia
     have Ec:=(s1.trans s2).trans s3
     refine q _ p (Ec.trans (Ao hp)) (Ec.free hp) ?_
     rw[AO,AR,d8]
     rfl
def WT (W:Cl):Sp:=fun vs H Q _=>∃(d nd:AA) (kk:Dk) (s:BI) (kvs:List (Key×V)) (c:Nat),vs=[.ref d,.ref nd]/\Bc W H d kk s/\H nd=some (.dK kvs)/\A7 c/\Num kvs "c" c/\
 Fj H d kk W s ((((Vm.got s c).filter (Ik (Vm.got s c))).length:Int)::(((Vm.got s c).filter (Ik (Vm.got s c))).map stI).flatten) Q
theorem Rq:BD ["desk","numbers","centre","seen","entry"] ["desk","numbers"] (As Rg):={}
theorem u9 (l:List Ent):(l.map stI).flatten.length=2*l.length:=by
 induction l with
 | nil=>rfl
 | cons x r ih=>
  have e2:((x::r).map stI).flatten.length=2+(r.map stI).flatten.length:=by
   rw[CP,Oq,BZ]
   rfl
  rw[e2,ih,BO]
  lia
theorem AA5 {f:AA} {fd:A2} (F:A0 K "hidden" "hidden" Rg f fd) (TD:DI K W.CD) (TC:Cq K W.CC) (gK:Gd P w K mg base 3 "stamps_known_by" ["entries"] (cZ K W.CE)) (gS:Gd P w K mg base 1 "stamp_of" ["entry"] (J1 W.CE)) (gC:Gd P w K mg base 1 "counted" ["rows"] (IL K)):
 Aa P w K mg base Ag 4 f fd ["desk","numbers"] (WT W):=by
 refine F.ok Rq (fun vs H Q E h=>?_) (fun Al A outer s H vs Q E hr h=>?_)
 . obtain⟨d,nd,kk,s,kvs,c,rfl,_⟩:=h
   rfl
 . obtain⟨d,nd,kk,st,kvs,c,rfl,hD,hn,hc,gc,q⟩:=h
   obtain⟨dx,hd⟩:=hD.ins
   obtain⟨⟨dc,Bb⟩,hE⟩:=hD.BR c hc
   have Bg:BW 1 _:=hr.mono (by decide)
   have hu:=DC hr
   have Fe:=Vm.FG hD.good hc
   have JB:AZ=16777216:=Dn
   refine⟨_,AX (A5 (i:=2) Rq.nd rfl (Ad rfl) (Ah hu (Ay (pv 0) rfl) (Ah hu (pv 1) Aw)))
    (AX (A5 (i:=3) Rq.nd rfl (KQ rfl) (Bm gK hr rfl (AH (Ay (pv 2) rfl) AK)))
    (Ac (A4 (Bm gC Bg rfl (AH (GP rfl Rq.nd (Dl (Ay (pv 2) rfl)) (Ep (own:=[("entry",4)]) (by show EL ["desk","numbers","centre","seen","entry"] (As Rg) _ _=true;decide+kernel))
     (fun _ _ _ _ _=>CW (i:=4) Rq.nd rfl (Ad rfl)) (fun _ _ _ _ _=>MB (Ku (Z8 hu (Bm gS Bg rfl (AH (pv 4) AK)) (pv 3)) (by rfl))) (fun _ _ _ _ _=>Bm gS Bg rfl (AH (pv 4) AK))) AK))))),?_⟩
   refine⟨_,rfl,d,W.CD,dx,_,_,rfl,hd,TD.cl,TD.n1,DW _ _ _,_,rfl,nd,_,rfl,BE hn gc,kk.D,_,rfl,Dd hD hc,?_⟩
   refine⟨_,rfl,kk.c c,W.CC,dc,_,_,rfl,Bb,TC.cl,TC.n3,Er _ _ _,kk.l c,kk.a c,Vm.got st c,rfl,hE.at,BP Fe (by decide),fun H1 sn lK s1 DS yB yA=>?_⟩
   have De:=hE.same s1
   have Jm:=Paired.len hE.ent
   have xq:=hD.good.once c hc
   refine⟨_,rfl,kk.c c,W.CC,dc,_,_,rfl,s1 _ _ Bb,TC.cl,TC.n3,Er _ _ _,kk.l c,rfl,⟨_,AQ.of De.lst⟩,fun D hD'=>Fx (K:=K) (a:=kk.l c) (xs:=(kk.a c).map V.ref)
    (fun i H'=>∃ds:List AA,H' D=some (.lst (ds.map V.ref))/\Same H1 H'/\Ar (fun a (ns:List Int)=>Ap K H' a (ns.map V.int)) ds ((((Vm.got st c).take i).filter (Ik (Vm.got st c))).map stI))
    ⟨[],AO,Ao hD',.nil⟩ (fun i H' _ ⟨_,_,s2,_⟩=>AQ.of (s2 _ _ De.lst)) ?_ ?_⟩
   . rintro i x H2 hx ⟨ds,BU,s2,hP⟩
     obtain⟨a,ha,rfl⟩:=EA hx
     obtain⟨e,he,FH⟩:=Paired.DJ De.ent ha
     have hem:e∈Vm.got st c:=G7 he
     have xP:Ik (Vm.got st c) e= !(Bq lK (stK e)).isSome:=by
      have h1:=Vm.xS xq hem (hD.good.Nm c hc e hem).1
      have h2:=yA (stK e)
      rw[ADJ] at h2
      cases hv:(Bq lK (stK e)).isSome with
      | true=>
       have:=h2.mp hv
       cases hh:Ik (Vm.got st c) e with
       | true=>exact absurd this (h1.mp hh)
       | false=>rfl
      | false=>
       refine h1.mpr fun z=>?_
       rw[h2.mpr z] at hv
       cases hv
     refine⟨rfl,_,rfl,a,e,rfl,FH.same s2,fun t ht=>?_⟩
     have s3:Same H2 (upd H2 t (.tup ((stI e).map V.int))):=Ao ht
     have Lx:upd H2 t (.tup ((stI e).map V.int)) t=some (.tup ((stK e).map kV)):=AO
     generalize Qs:upd H2 t (.tup ((stI e).map V.int))=H3 at s3 Lx ⊢
     refine⟨_,rfl,sn,_,rfl,Fm.t (s3 _ _ (s2 _ _ yB)) Lx,_,rfl,?_⟩
     rw[<-xP]
     have kg:=C6 he
     cases hb:Ik (Vm.got st c) e with
     | false=>
      refine BJ ⟨ds,s3 _ _ BU,s2.trans s3,?_⟩
      rw[kg,Ef,Dv (p:=Ik (Vm.got st c)) (by rw[hb];exact Bw),Dx,EG]
      exact Paired.Be hP fun d' ns h=>Ap.same h s3
     | true=>
      refine A9 ⟨_,rfl,a,e,rfl,(FH.same s2).same s3,fun t4 yE=>?_⟩
      have s4:Same H3 (upd H3 t4 (.tup ((stI e).map V.int))):=Ao yE
      have ki:upd H3 t4 (.tup ((stI e).map V.int)) t4=some (.tup ((stI e).map V.int)):=AO
      generalize Ki:upd H3 t4 (.tup ((stI e).map V.int))=H4 at s4 ki ⊢
      have ag:=s3.trans s4
      have Hi:=ag _ _ BU
      refine⟨_,Hi,?_,ds++[t4],?_,fun b' o e'=>?_,?_⟩
      . rw[AR,Paired.len hP,AR]
        refine Fp (Gh _ _) ?_
        rw[Ct]
        lia
      . rw[AO,Ba]
        rfl
      . rw[AV (BF e' hD')]
        exact ag _ _ (s2 _ _ e')
      . rw[kg,Ef,Eg (p:=Ik (Vm.got st c)) hb,Dx,Ba]
        exact Paired.snoc (R:=fun a (ns:List Int)=>Ap K _ a (ns.map V.int)) (K1 Hi (Ap.of ki)) (Paired.Be hP fun d' ns h=>K1 Hi (Ap.same h ag))
   . rintro H2 ⟨ds,BU,s2,hP⟩
     have DK:(Vm.got st c).take ((kk.a c).map V.ref).length=Vm.got st c:=DN (by rw[AR,Jm];exact Aj _)
     rw[DK] at hP
     refine⟨D,ds,_,rfl,AQ.of BU,Paired.Be hP (fun a ns h=>.inl h),?_,fun H3 r s3 Lv h3=>?_⟩
     . rw[u9]
       have:=Gh (Ik (Vm.got st c)) (Vm.got st c)
       lia
     . rw[AR] at h3
       exact q H3 r ((s1.trans s2).trans s3) ((s1.trans s2).free Lv) h3
def Wd (W:Cl):Sp:=fun vs H Q _=>∃(d nd:AA) (kk:Dk) (s:BI) (kvs:List (Key×V)) (c e:Nat),vs=[.ref d,.ref nd]/\Bc W H d kk s/\H nd=some (.dK kvs)/\A7 c/\A7 e/\Num kvs "c" c/\Num kvs "d" e/\
 Fj H d kk W s [(((Vm.got s c).filter fun x=> !Dy (Vm.got s e) x).length:Int),(((Vm.got s e).filter fun x=> !Dy (Vm.got s c) x).length:Int)] Q
theorem MK:BD ["desk","numbers","one","other","only_one","only_other","entry"] ["desk","numbers"] (As N4):={}
theorem ABc {f:AA} {fd:A2} (F:A0 K "unlike" "unlike" N4 f fd) (TD:DI K W.CD) (TC:Cq K W.CC) (m1:mg "len"=none) (gH:Gm P w K mg base W.CC 2 "has" ["self","entry"] (Ry W.CC W.CE)):
 Aa P w K mg base Ag 3 f fd ["desk","numbers"] (Wd W):=by
 refine F.ok MK (fun vs H Q E h=>?_) (fun Al A outer s H vs Q E hr h=>?_)
 . obtain⟨d,nd,kk,s,kvs,c,e,rfl,_⟩:=h
   rfl
 . obtain⟨d,nd,kk,st,kvs,c,e,rfl,hD,hn,hc,he,gc,ge,q⟩:=h
   obtain⟨dx,hd⟩:=hD.ins
   obtain⟨⟨dc,Bb⟩,hE⟩:=hD.BR c hc
   obtain⟨⟨de,hce⟩,Lj⟩:=hD.BR e he
   have hu:=DC hr
   have Fe:=Vm.FG hD.good hc
   have Yz:=Vm.FG hD.good he
   have JB:AZ=16777216:=Dn
   refine⟨_,AX (A5 (i:=2) MK.nd rfl (KQ rfl) (Ah hu (Ay (pv 0) rfl) (Ah hu (pv 1) Aw)))
    (AX (A5 (i:=3) MK.nd rfl (KQ rfl) (Ah hu (Ay (pv 0) rfl) (Ah hu (pv 1) Aw)))
    (AX (RT (i:=4) rfl MK.nd rfl rfl (R5 rfl rfl rfl rfl) (Dl (Ay (pv 2) rfl)) (Ep (own:=[("entry",6)]) (by show EL ["desk","numbers","one","other","only_one","only_other","entry"] (As N4) _ _=true;decide+kernel))
     (fun _ _ _ _ _=>CW (i:=6) MK.nd rfl (Ad rfl)) (fun _ _ _ _ _=>MB (Jv (Gw (Gu gH TC.cl (pv 3) hr (AH (pv 6) AK))))) (fun _ _ _ _ _=>pv 6))
    (AX (RT (i:=5) rfl MK.nd rfl rfl (R5 rfl rfl rfl rfl) (Dl (Ay (pv 3) rfl)) (Ep (own:=[("entry",6)]) (by show EL ["desk","numbers","one","other","only_one","only_other","entry"] (As N4) _ _=true;decide+kernel))
     (fun _ _ _ _ _=>CW (i:=6) MK.nd rfl (Ad rfl)) (fun _ _ _ _ _=>MB (Jv (Gw (Gu gH TC.cl (pv 2) hr (AH (pv 6) AK))))) (fun _ _ _ _ _=>pv 6))
    (Ac (A4 (DE (AH (Eb F9 (by rfl) m1 F3 (AH (pv 4) AK)) (AH (Eb F9 (by rfl) m1 F3 (AH (pv 5) AK)) AK)))))))),?_⟩
   refine⟨_,rfl,d,W.CD,dx,_,_,rfl,hd,TD.cl,TD.n1,DW _ _ _,_,rfl,nd,_,rfl,BE hn gc,kk.D,_,rfl,Dd hD hc,?_⟩
   refine⟨_,rfl,d,W.CD,dx,_,_,rfl,hd,TD.cl,TD.n1,DW _ _ _,_,rfl,nd,_,rfl,BE hn ge,kk.D,_,rfl,Dd hD he,?_⟩
   have Jm:=Paired.len hE.ent
   have xa:=Paired.len Lj.ent
   refine⟨_,rfl,kk.c c,W.CC,dc,_,_,rfl,Bb,TC.cl,TC.n3,Er _ _ _,kk.l c,rfl,⟨_,AQ.of hE.lst⟩,fun D hD'=>Fx (K:=K) (a:=kk.l c) (xs:=(kk.a c).map V.ref)
    (fun i H'=>∃ds:List AA,H' D=some (.lst (ds.map V.ref))/\Same H H'/\ds.length=(((Vm.got st c).take i).filter fun x=> !Dy (Vm.got st e) x).length)
    ⟨[],AO,Ao hD',rfl⟩ (fun i H' _ ⟨_,_,s1,_⟩=>AQ.of (s1 _ _ hE.lst)) ?_ ?_⟩
   . rintro i x H1 hx ⟨ds,Eu,s1,hl⟩
     obtain⟨a,ha,rfl⟩:=EA hx
     obtain⟨en,EV,FH⟩:=Paired.DJ hE.ent ha
     have DS:=C6 EV
     refine⟨rfl,_,rfl,kk.c e,de,_,rfl,s1 _ _ hce,rfl,_,rfl,kk.c e,kk.l e,a,kk.a e,e,_,_,en,rfl,(hD.BR e he).same s1,FH.same s1,BP Yz (by decide),fun H2 s2=>⟨_,rfl,?_⟩⟩
     have BU:=s2 _ _ Eu
     cases hb:Dy (Vm.got st e) en with
     | true=>
      refine BJ ⟨ds,BU,s1.trans s2,?_⟩
      rw[hl,DS,Ef,Dv (p:=fun x=> !Dy (Vm.got st e) x) (by rw[hb];exact Bw),Dx,EG]
     | false=>
      refine A9 ⟨_,rfl,_,BU,?_,ds++[a],?_,fun b' o e'=>?_,?_⟩
      . rw[AR,hl]
        refine Fp (Gh _ _) ?_
        rw[Ct]
        lia
      . rw[AO,Ba]
        rfl
      . rw[AV (BF e' hD')]
        exact s2 _ _ (s1 _ _ e')
      . rw[BZ,hl,DS,Ef,Eg (p:=fun x=> !Dy (Vm.got st e) x) (by rw[hb];rfl),Dx,BZ]
        rfl
   . rintro H1 ⟨ds,Eu,s1,hl⟩
     have DK:(Vm.got st c).take ((kk.a c).map V.ref).length=Vm.got st c:=DN (by rw[AR,Jm];exact Aj _)
     rw[DK] at hl
     refine⟨_,rfl,kk.c e,W.CC,de,_,_,rfl,s1 _ _ hce,TC.cl,TC.n3,Er _ _ _,kk.l e,rfl,⟨_,AQ.of (s1 _ _ Lj.lst)⟩,fun D2 Qn=>Fx (K:=K) (a:=kk.l e) (xs:=(kk.a e).map V.ref)
      (fun i H'=>∃M5:List AA,H' D2=some (.lst (M5.map V.ref))/\Same H1 H'/\M5.length=(((Vm.got st e).take i).filter fun x=> !Dy (Vm.got st c) x).length)
      ⟨[],AO,Ao Qn,rfl⟩ (fun i H' _ ⟨_,_,s2,_⟩=>AQ.of (s2 _ _ (s1 _ _ Lj.lst))) ?_ ?_⟩
     . rintro i x H2 hx ⟨M5,BU,s2,Cw⟩
       obtain⟨a,ha,rfl⟩:=EA hx
       obtain⟨en,EV,FH⟩:=Paired.DJ Lj.ent ha
       have DS:=C6 EV
       have Em:=s1.trans s2
       refine⟨rfl,_,rfl,kk.c c,dc,_,rfl,Em _ _ Bb,rfl,_,rfl,kk.c c,kk.l c,a,kk.a c,c,_,_,en,rfl,(hD.BR c hc).same Em,FH.same Em,BP Fe (by decide),fun H3 s3=>⟨_,rfl,?_⟩⟩
       have Ce:=s3 _ _ BU
       cases hb:Dy (Vm.got st c) en with
       | true=>
        refine BJ ⟨M5,Ce,s2.trans s3,?_⟩
        rw[Cw,DS,Ef,Dv (p:=fun x=> !Dy (Vm.got st c) x) (by rw[hb];exact Bw),Dx,EG]
       | false=>
        refine A9 ⟨_,rfl,_,Ce,?_,M5++[a],?_,fun b' o e'=>?_,?_⟩
        . rw[AR,Cw]
          refine Fp (Gh _ _) ?_
          rw[Ct]
          lia
        . rw[AO,Ba]
          rfl
        . rw[AV (BF e' Qn)]
          exact s3 _ _ (s2 _ _ e')
        . rw[BZ,Cw,DS,Ef,Eg (p:=fun x=> !Dy (Vm.got st c) x) (by rw[hb];rfl),Dx,BZ]
          rfl
     . rintro H2 ⟨M5,BU,s2,Cw⟩
       have Qx:(Vm.got st e).take ((kk.a e).map V.ref).length=Vm.got st e:=DN (by rw[AR,xa];exact Aj _)
       rw[Qx] at Cw
       refine⟨_,rfl,D,_,rfl,.inl (AQ.of (s2 _ _ Eu)),_,rfl,D2,_,rfl,.inl (AQ.of BU),(by show 2<=AZ;decide),fun p hp=>?_⟩
       have Em:=s1.trans s2
       refine q _ p (Em.trans (Ao hp)) (Em.free hp) ?_
       rw[AO,AR,AR,hl,Cw]
       rfl
def OY (s:BI) (c:Nat):List (Nat×Nat×Nat):=((s.decisions.filter fun z=>z.by_==c).map fun z=>(z.num,A3 ((Vm.got s c).take z.tick) z.key z.min,A3 (Vm.got s c) z.key z.min)).filter fun z=>z.2.1 != z.2.2
def Wg (W:Cl):Sp:=fun vs H Q _=>∃(d nd:AA) (kk:Dk) (s:BI) (kvs:List (Key×V)) (c:Nat),vs=[.ref d,.ref nd]/\Bc W H d kk s/\H nd=some (.dK kvs)/\A7 c/\Num kvs "c" c/\s.decisions.length<=60/\
 Fj H d kk W s (((OY s c).length:Int)::((OY s c).map fun p=>[(p.1:Int),(p.2.1:Int),(p.2.2:Int)]).flatten) Q
theorem J0:BD ["desk","numbers","c","centre","rows","decision","then","now","made"] ["desk","numbers"] (As Ro):={}
theorem ABi {f:AA} {fd:A2} (F:A0 K "wrong" "wrong" Ro f fd) (TD:DI K W.CD) (TC:Cq K W.CC) (TN:O5 K W.CN) (Qi:Gm P w K mg base W.CC 4 "knows" ["self","key","minute"] (Rw W.CC W.CE)) (Yj:Gm P w K mg base W.CC 4 "knew" ["self","tick","key","minute"] (Rv W.CC W.CE)) (gC:Gd P w K mg base 1 "counted" ["rows"] (IL K)):
 Aa P w K mg base Ag 5 f fd ["desk","numbers"] (Wg W):=by
 refine F.ok J0 (fun vs H Q E h=>?_) (fun Al A outer s H vs Q E hr h=>?_)
 . obtain⟨d,nd,kk,s,kvs,c,rfl,_⟩:=h
   rfl
 . obtain⟨d,nd,kk,st,kvs,c,rfl,hD,hn,hc,gc,Fe,q⟩:=h
   obtain⟨dx,hd⟩:=hD.ins
   obtain⟨⟨dc,Bb⟩,hE⟩:=hD.BR c hc
   have Bg:BW 1 _:=hr.mono (by decide)
   have hu:=DC hr
   have JB:AZ=16777216:=Dn
   refine⟨_,AX (A5 (i:=2) J0.nd rfl (KQ rfl) (Ah hu (pv 1) Aw))
    (AX (A5 (i:=3) J0.nd rfl (Ad rfl) (Ah hu (Ay (pv 0) rfl) (pv 2)))
    (AX (A5 (i:=4) J0.nd rfl (Ad rfl) (DE AK))
    (AX (El PassesOwn.never rfl (Dl (GP (tt:=Wo (OQ oB (Wl K (JP 8) "centre") (JP 2))) rfl J0.nd (Dl (Ay (pv 0) rfl)) (Ep (own:=[("made",8)]) (by show EL ["desk","numbers","c","centre","rows","decision","then","now","made"] (As Ro) _ _=true;decide+kernel))
     (fun _ _ _ _ _=>CW (i:=8) J0.nd rfl (Ad rfl)) (fun _ _ _ _ _=>MB (DY Fh (Ay (pv 8) rfl) (pv 2) (Cy _))) (fun _ _ _ _ _=>pv 8))) (CW (i:=5) J0.nd rfl (Ad rfl))
     (AX (A5 (i:=6) J0.nd rfl (Ad rfl) (Gu Yj TC.cl (pv 3) hr (AH (Ay (pv 5) rfl) (AH (Ay (pv 5) rfl) (AH (Ay (pv 5) rfl) AK)))))
     (AX (A5 (i:=7) J0.nd rfl (Ad rfl) (Gu Qi TC.cl (pv 3) hr (AH (Ay (pv 5) rfl) (AH (Ay (pv 5) rfl) AK))))
     (Ac (C9 (DY L8 (pv 6) (pv 7) (Cy _)) (Ac (E8 (F0 F2 Hd He HJ (pv 4) (AH (Ex (AH (Ay (pv 5) rfl) (AH (pv 6) (AH (pv 7) AK)))) AK)))) DG)))))
    (Ac (A4 (Bm gC Bg rfl (AH (pv 4) AK))))))),?_⟩
   refine⟨_,rfl,nd,_,rfl,BE hn gc,?_⟩
   refine⟨_,rfl,d,W.CD,dx,_,_,rfl,hd,TD.cl,TD.n1,DW _ _ _,_,rfl,kk.D,_,rfl,Dd hD hc,?_⟩
   refine⟨Ci _,fun p hp=>?_⟩
   have s1:Same H (upd H p (.lst [])):=Ao hp
   have C5:upd H p (.lst []) p=some (.lst ([]:List V)):=AO
   generalize hH1:upd H p (.lst [])=H1 at s1 C5 ⊢
   have hdl:=Paired.len hD.dec
   refine⟨_,rfl,d,W.CD,dx,_,_,rfl,s1 _ _ hd,TD.cl,TD.n2,TR _ _ _,kk.L,rfl,⟨_,AQ.of (s1 _ _ hD.lst)⟩,fun D hD'=>Fx (K:=K) (a:=kk.L) (xs:=kk.ds.map V.ref)
    (fun i H'=>∃ds:List AA,H' D=some (.lst (ds.map V.ref))/\Same H1 H'/\Ar (G4 W.CN H') ds ((st.decisions.take i).filter fun z=>z.by_==c))
    ⟨[],AO,Ao hD',.nil⟩ (fun i H' _ ⟨_,_,s2,_⟩=>AQ.of (s2 _ _ (s1 _ _ hD.lst))) ?_ ?_⟩
   . rintro i x H2 hx ⟨ds,BU,s2,hP⟩
     obtain⟨a,ha,rfl⟩:=EA hx
     obtain⟨z,hz,Zc⟩:=Paired.DJ hD.dec ha
     have lA:=(Zc.same s1).same s2
     obtain⟨ez,UR⟩:=id lA
     have DS:=C6 hz
     refine⟨rfl,_,rfl,a,W.CN,ez,_,_,rfl,UR,TN.cl,TN.n2,tV z,_,rfl,rfl,_,rfl,?_⟩
     rw[Hz]
     cases hb:(z.by_==c) with
     | false=>
      refine BJ ⟨ds,BU,s2,?_⟩
      rw[DS,Ef,Dv (p:=fun z:Dec=>z.by_==c) (by rw[hb];exact Bw),Dx,EG]
      exact hP
     | true=>
      have up:∀(d':AA) (e':Dec),G4 W.CN H2 d' e'->G4 W.CN (upd H2 D (.lst (ds.map V.ref++[.ref a]))) d' e':=fun d' e' h=>by
       obtain⟨x',h⟩:=h
       exact⟨x',by rw[AV (B9 h BU (by intro z;cases z))];exact h⟩
      refine A9 ⟨_,rfl,_,BU,?_,ds++[a],?_,fun b' o e'=>?_,?_⟩
      . rw[AR,Paired.len hP]
        refine Fp (Gh _ _) ?_
        rw[Ct]
        lia
      . rw[AO,Ba]
        rfl
      . rw[AV (BF e' hD')]
        exact s2 _ _ e'
      . rw[DS,Ef,Eg (p:=fun z:Dec=>z.by_==c) hb,Dx]
        exact Paired.snoc (up _ _ lA) (Paired.Be hP up)
   . rintro H2 ⟨ds,BU,s2,hP⟩
     have DK:st.decisions.take (kk.ds.map V.ref).length=st.decisions:=DN (by rw[AR,hdl];exact Aj _)
     rw[DK] at hP
     have hfl:(st.decisions.filter fun z=>z.by_==c).length<=60:=BP (Gh _ _) Fe
     have YZ:OY st c=((st.decisions.filter fun z=>z.by_==c).map fun z=>(z.num,A3 ((Vm.got st c).take z.tick) z.key z.min,A3 (Vm.got st c) z.key z.min)).filter fun z=>z.2.1 != z.2.2:=rfl
     generalize (st.decisions.filter fun z=>z.by_==c)=FL at hP hfl YZ
     have hp2:=s2 _ _ C5
     have Qr:D≠p:=fun z=>by rw[z,C5] at hD';cases hD'
     have Y1:∀{a:AA} {C Le:AA} {fs:List (AG×V)},H2 a=some (.ins C Le fs)->a≠p:=fun h=>B9 h hp2 (by intro z;cases z)
     refine⟨D,rfl,⟨_,AQ.of BU⟩,Ir (K:=K) (a:=D) (xs:=ds.map V.ref) (fun i σ H'=>∃(z5 z6 z7 z8:Option V) (zs:List AA),σ=[some (.ref d),some (.ref nd),some (nI c),some (.ref (kk.c c)),some (.ref p),z5,z6,z7,z8]/\(∀b o,H2 b=some o->b≠p->H' b=some o)/\H' p=some (.lst (zs.map V.ref))/\
      Ar (fun a (ns:List Int)=>Ap K H' a (ns.map V.int)) zs ((((FL.take i).map fun z=>(z.num,A3 ((Vm.got st c).take z.tick) z.key z.min,A3 (Vm.got st c) z.key z.min)).filter fun z=>z.2.1 != z.2.2).map fun p=>[(p.1:Int),(p.2.1:Int),(p.2.2:Int)]))
      ⟨none,none,none,none,[],rfl,fun b o e _=>e,hp2,.nil⟩ (fun i σ H' _ ⟨_,_,_,_,_,_,s3,_⟩=>AQ.of (s3 _ _ BU Qr)) ?_ ?_⟩
     . rintro i x σ H3 hx ⟨z5,z6,z7,z8,zs,rfl,s3,hp3,hZ⟩
       obtain⟨a,ha,rfl⟩:=EA hx
       obtain⟨z,hz,Zc⟩:=Paired.DJ hP ha
       obtain⟨ez,UR⟩:=Zc
       have Q7:=s3 _ _ UR (Y1 UR)
       have DS:=C6 hz
       have ZA:Dt W.CC W.CE H3 (kk.c c) (kk.l c) (kk.a c) c (CZ st c).clock (Vm.got st c):=by
        obtain⟨⟨tU,hc2⟩,IA⟩:=((hD.BR c hc).same s1).same s2
        refine⟨⟨tU,s3 _ _ hc2 (Y1 hc2)⟩,⟨s3 _ _ IA.lst fun z=>?_,Paired.Be IA.ent fun a' e' h=>?_⟩⟩
        . have:=(hD.BR c hc).ents.lst
          rw[z,hp] at this
          cases this
        . obtain⟨x',h⟩:=h
          exact⟨x',s3 _ _ h (Y1 h)⟩
       obtain⟨iM,hc3⟩:=ZA.ins
       refine⟨_,rfl,kk.c c,iM,_,rfl,hc3,rfl,_,rfl,a,W.CN,ez,_,_,rfl,Q7,TN.cl,TN.n3,tW z,_,rfl,a,W.CN,ez,_,_,rfl,Q7,TN.cl,TN.n4,iN z,_,rfl,a,W.CN,ez,_,_,rfl,Q7,TN.cl,TN.n5,iO z,kk.c c,kk.l c,kk.a c,c,_,z.tick,z.key,z.min,_,rfl,ZA,fun H4 s4=>?_⟩
       have k0:=s4 _ _ Q7
       refine⟨_,rfl,kk.c c,iM,_,rfl,s4 _ _ hc3,rfl,_,rfl,a,W.CN,ez,_,_,rfl,k0,TN.cl,TN.n4,iN z,_,rfl,a,W.CN,ez,_,_,rfl,k0,TN.cl,TN.n5,iO z,kk.c c,kk.l c,kk.a c,c,_,z.key,z.min,_,rfl,ZA.same s4,fun H5 s5=>?_⟩
       have JM:=s4.trans s5
       have hz5:=JM _ _ Q7
       have JA:=JM _ _ hp3
       refine⟨_,rfl,_,rfl,rfl,_,rfl,?_⟩
       show if (!decide (nI (A3 ((Vm.got st c).take z.tick) z.key z.min)=nI (A3 (Vm.got st c) z.key z.min)))=true then _ else _
       rw[Hz]
       have Q8:zs.length<=60:=by
        rw[Paired.len hZ,AR]
        refine BP (Gh _ _) ?_
        rw[AR,Ct]
        lia
       cases hb:(A3 ((Vm.got st c).take z.tick) z.key z.min==A3 (Vm.got st c) z.key z.min) with
       | true=>
        refine BJ ⟨_,_,_,_,zs,rfl,fun b o e BX=>JM _ _ (s3 _ _ e BX),JA,?_⟩
        rw[DS,Ba,Ef,CP,KL,Dv (p:=fun z:Nat×Nat×Nat=>z.2.1 != z.2.2) (by show ¬(!(_==_))=true;rw[hb];exact Bw),Dx,EG]
        exact Paired.Be hZ fun a' ns h=>Ap.same h JM
       | false=>
        refine A9 ⟨_,rfl,.inl ⟨rfl,_,AQ.of JA⟩,_,rfl,a,W.CN,ez,_,_,rfl,hz5,TN.cl,TN.n1,iP z,_,rfl,_,rfl,(by show 3<=AZ;decide),fun t ht=>?_⟩
        have s6:Same H5 (upd H5 t (.tup [nI z.num,nI (A3 ((Vm.got st c).take z.tick) z.key z.min),nI (A3 (Vm.got st c) z.key z.min)])):=Ao ht
        have NZ:upd H5 t (.tup [nI z.num,nI (A3 ((Vm.got st c).take z.tick) z.key z.min),nI (A3 (Vm.got st c) z.key z.min)]) t=some (.tup [nI z.num,nI (A3 ((Vm.got st c).take z.tick) z.key z.min),nI (A3 (Vm.got st c) z.key z.min)]):=AO
        generalize jf:upd H5 t (.tup [nI z.num,nI (A3 ((Vm.got st c).take z.tick) z.key z.min),nI (A3 (Vm.got st c) z.key z.min)])=H6 at s6 NZ ⊢
        have Hk:=s6 _ _ JA
        refine⟨p,_,_,rfl,rfl,Hk,?_,_,_,_,_,zs++[t],rfl,fun b o e BX=>?_,?_,?_⟩
        . rw[AR]
          lia
        . rw[AV BX]
          exact s6 _ _ (JM _ _ (s3 _ _ e BX))
        . rw[AO,Ba]
          rfl
        . rw[DS,Ba,Ef,CP,KL,Eg (p:=fun z:Nat×Nat×Nat=>z.2.1 != z.2.2) (by show (!(_==_))=true;rw[hb];rfl),Dx,Ba]
          exact Paired.snoc (R:=fun a (ns:List Int)=>Ap K _ a (ns.map V.int)) (K1 Hk (Ap.of NZ)) (Paired.Be hZ fun a' ns h=>K1 Hk (Ap.same h (JM.trans s6)))
     . rintro σ H3 ⟨z5,z6,z7,z8,zs,rfl,s3,hp3,hZ⟩
       have Qx:FL.take (ds.map V.ref).length=FL:=DN (by rw[AR,Paired.len hP];exact Aj _)
       rw[Qx,<-YZ] at hZ
       have hwl:(OY st c).length<=60:=by
        rw[YZ]
        refine BP (Gh _ _) ?_
        rw[AR]
        exact hfl
       refine⟨_,rfl,p,zs,_,rfl,AQ.of hp3,Paired.Be hZ (fun a ns h=>.inl h),?_,fun H4 r s4 Qy h4=>?_⟩
       . rw[jM]
         lia
       . rw[AR] at h4
         have Ec:Same H H3:=fun b o e=>s3 _ _ (s2 _ _ (s1 _ _ e)) (BF e hp)
         exact q H4 r (Ec.trans s4) (Ec.free Qy) h4
def WY (W:Cl):Sp:=fun vs H Q _=>∃(d nd sh:AA) (kk:Dk) (s:BI) (kvs:List (Key×V)) (c k a b:Nat) (ns:List Int),vs=[.ref d,.ref nd]/\Bc W H d kk s/\H nd=some (.dK kvs)/\A7 c/\Num kvs "c" c/\Num kvs "k" k/\Num kvs "a" a/\Num kvs "b" b/\a < b/\
 Bq kvs (B7 "strokes")=some (.ref sh)/\H sh=some (.lst (ns.map V.int))/\ns.length<=1000/\Vm.F8 ns a b=true/\
 Fj H d kk W s (Ms (F6 (Vm.got s c++newOf (CZ s c).clock c k ((Vm.EE ns).map Vm.HK)) k a b)) Q
theorem V2:BD ["desk","numbers","key","strokes","would_have"] ["desk","numbers"] (As Vf):={}
theorem pH {H:Hp} {a b:Nat}:∀(TT:List (Int×Int×Int)) {ss:List AA},Ar (eX H) ss (TT.map fun t=>[V.int t.1,V.int t.2.1,V.int t.2.2])->(∀t∈TT,Vm.Ga (a:Int) (b:Int) t=true)->Ar (Xn K H) ss (TT.map Vm.HK)
 | [],_,h,_=>by cases h;exact .nil
 | t::r,_,h,all=>by
  cases h with
  | cons r1 r2=>
   refine .cons ?_ (pH r r2 fun x hx=>all x (B2 _ hx))
   have ht:=all t Bl
   unfold Vm.Ga EK Cb at ht
   simp only[CB,decide_eq_true_eq] at ht
   have e1:[V.int t.1,V.int t.2.1,V.int t.2.2]=[nI (Vm.HK t).1,nI (Vm.HK t).2.1,nI (Vm.HK t).2.2]:=by
    show _=[V.int ((t.1.toNat:Nat):Int),V.int ((t.2.1.toNat:Nat):Int),V.int ((t.2.2.toNat:Nat):Int)]
    rw[JV (by lia),JV (by lia),JV (by lia)]
   exact AQ.of (by rw[<-e1];exact r1)
theorem ABO {f:AA} {fd:A2} (F:A0 K "painted" "painted" Vf f fd) (TD:DI K W.CD) (TC:Cq K W.CC) (gP:Gd P w K mg base 1 "pieces_of" ["row","size"] (R3 K)) (gI:Gm P w K mg base W.CC 3 "entries_if_written" ["self","key","strokes"] (cO K W.CC W.CE))
 (gL:Gd P w K mg base 4 "line_of" ["entries","key","a","b"] (OJ K W.CE)) (gC:Gd P w K mg base 1 "counted" ["rows"] (IL K)):Aa P w K mg base Ag 5 f fd ["desk","numbers"] (WY W):=by
 refine F.ok V2 (fun vs H Q E h=>?_) (fun Al A outer s H vs Q E hr h=>?_)
 . obtain⟨d,nd,sh,kk,s,kvs,c,k,a,b,ns,rfl,_⟩:=h
   rfl
 . obtain⟨d,nd,sh,kk,st,kvs,c,k,a,b,ns,rfl,hD,hn,hc,gc,gk,ga,gb,Bk,gs,hsh,hnl,hstr,q⟩:=h
   obtain⟨dx,hd⟩:=hD.ins
   obtain⟨⟨dc,Bb⟩,hE⟩:=hD.BR c hc
   have Bg:BW 1 _:=hr.mono (by decide)
   have hu:=DC hr
   have Fe:=Vm.FG hD.good hc
   refine⟨_,AX (A5 (i:=2) V2.nd rfl (Ad rfl) (Ah hu (pv 1) Aw))
    (AX (A5 (i:=3) V2.nd rfl (Ad rfl) (Bm gP Bg rfl (AH (Ah hu (pv 1) Aw) (AH Ax AK))))
    (AX (A5 (i:=4) V2.nd rfl (Ad rfl) (Gu gI TC.cl (Ah hu (Ay (pv 0) rfl) (Ah hu (pv 1) Aw)) (hr.mono (by decide)) (AH (pv 2) (AH (pv 3) AK))))
    (Ac (A4 (Bm gC Bg rfl (AH (Bm gL hr rfl (AH (pv 4) (AH (pv 2) (AH (Ah hu (pv 1) Aw) (AH (Ah hu (pv 1) Aw) AK))))) AK)))))),?_⟩
   refine⟨_,rfl,nd,_,rfl,BE hn gk,?_⟩
   unfold Vm.F8 at hstr
   rw[CB,decide_eq_true_eq] at hstr
   have h3:ns.length=3*(ns.length / 3):=by lia
   have htl:=Vm.cx _ ns h3
   refine⟨_,rfl,nd,_,rfl,Fu (.inl hn) gs,sh,_,3,ns.length / 3,rfl,AQ.of hsh,.inr rfl,(by rw[AR];exact h3),(by lia),fun H1 sp ss s1 hsp h1 hss=>?_⟩
   rw[nc h3] at hss
   have yC:Ar (Xn K H1) ss ((Vm.EE ns).map Vm.HK):=by
    exact pH (a:=a) (b:=b) _ hss (MY.mp hstr.2)
   have jw:(CZ st c).clock<=1000000:=BP (hD.good.KY c hc) (BP hD.good.SV (by decide))
   refine⟨_,rfl,d,W.CD,dx,_,_,rfl,s1 _ _ hd,TD.cl,TD.n1,DW _ _ _,_,rfl,nd,_,rfl,BE (s1 _ _ hn) gc,kk.D,_,rfl,Dd (hD.same s1) hc,kk.c c,dc,_,rfl,s1 _ _ Bb,rfl,_,rfl,_,rfl,kk.c c,kk.l c,sp,kk.a c,ss,c,_,k,_,_,rfl,(hD.BR c hc).same s1,AQ.of h1,yC,(by rw[AR,htl];lia),jw,fun H2 wh as2 s2 hwh IA=>?_⟩
   have Em:=s1.trans s2
   have hn2:=Em _ _ hn
   have hlen2:(Vm.got st c++newOf (CZ st c).clock c k ((Vm.EE ns).map Vm.HK)).length<=450:=by
    rw[BZ,Z3,AR,htl]
    lia
   refine⟨_,rfl,_,rfl,_,rfl,nd,_,rfl,BE hn2 ga,_,rfl,nd,_,rfl,BE hn2 gb,wh,as2,_,k,a,b,rfl,IA.at,Bk,hlen2,fun H3 r bs s3 Lv h3' hb=>?_⟩
   have Lw:=aW hb
   have hll:=lj (Vm.got st c++newOf (CZ st c).clock c k ((Vm.EE ns).map Vm.HK)) k a b Bk
   refine⟨r,bs,_,rfl,AQ.of h3',Lw,?_,fun H4 r2 s4 Qy h4=>?_⟩
   . rw[jL]
     lia
   . rw[<-nM] at h4
     exact q H4 r2 ((Em.trans s3).trans s4) ((Em.trans s3).free Qy) h4
end
def intOf (AB:B1) (x:AG):Int:=match A8 AB x with
 | some (.inl z)=>z
 | _=>0
def Hl (AB:B1):Bool:=
 (match A8 AB "shall" with | some (.inr l)=>Vm.D4 l (intOf AB "a") (intOf AB "b") | _=>true)&&
 (match A8 AB "strokes" with | some (.inr l)=>Vm.F8 l (intOf AB "a") (intOf AB "b") | _=>true)
def NB (s:BI) (p:Int):Bool:=if p=1 then decide (60<=Fb s) else decide (p=9)&&decide (60<=s.decisions.length)
def HN (s:BI) (AB:B1) (x:AG):Bool:=match A8 AB x with
 | some (.inl z)=>decide (0<=z)&&decide (z<=((Vm.got s (intOf AB "c").toNat).length:Int))
 | _=>true
def HP (s:BI) (AB:B1):Bool:=HN s AB "n"&&HN s AB "t"
structure LC (mg:AG->Option AF):Prop where
 c1:∃t,mg "WRITE"=some (.int 1 t)
 c2:∃t,mg "HAND"=some (.int 2 t)
 c3:∃t,mg "SYNC"=some (.int 3 t)
 c9:∃t,mg "DECIDE"=some (.int 9 t)
 X2:∃t,mg "FEWEST"=some (.int 13 t)
 X3:∃t,mg "FIRST"=some (.int 18 t)
 r0:∃t,mg "NONE_DUE"=some (.int 0 t)
 r1:∃t,mg "OUT_OF_RANGE"=some (.int (-1) t)
 r2:∃t,mg "LIST_NOT_AS_TOLD"=some (.int (-2) t)
 r3:∃t,mg "KNOWN_DECISION"=some (.int (-3) t)
 r4:∃t,mg "SAME_CENTRE"=some (.int (-4) t)
 r5:∃t,mg "NO_SUCH_TICK"=some (.int (-5) t)
 r6:∃t,mg "FULL"=some (.int (-6) t)
 r10:∃t,mg "NOT_THERE"=some (.int (-10) t)
 r11:∃t,mg "TOO_MANY_CELLS"=some (.int (-11) t)
 Zv:∃t,mg "MOST_WRITTEN"=some (.int 60 t)
 Zw:∃t,mg "MOST_DECISIONS"=some (.int 60 t)
 RG:∃t,mg "MOST_CELLS"=some (.int 14 t)
section
variable {P:Av} {w:Am} {K:AW} {mg:AG->Option AF} {base:Ae} {W:Cl}
abbrev Vb:Au:=top 62
abbrev VG:Au:=top 63
abbrev Vl:Au:=top 64
abbrev Vc:Au:=top 65
abbrev Vo:Au:=top 66
abbrev Vg:Au:=top 67
def cS:Sp:=fun vs H Q _=>∃(nd:AA) (kvs:List (Key×V)) (AB:B1),vs=[.ref nd]/\Ee H nd kvs AB/\
 (∀x:AG,x="shall"\/x="strokes"->∀it,A8 AB x=some it->∃l a b,it= .inr l/\l.length<=1000/\A8 AB "a"=some (.inl a)/\A8 AB "b"=some (.inl b))/\∀H',Same H H'->Q (.bl (Hl AB)) H'
theorem AC7:BD ["numbers"] ["numbers"] (As Vb):={}
theorem ABI {f:AA} {fd:A2} (F:A0 K "lists_as_told" "lists_as_told" Vb f fd) (gL:Gd P w K mg base 2 "is_line" ["shall","a","b"] (cQ K)) (gS:Gd P w K mg base 3 "are_strokes" ["strokes","a","b"] (V9 K)):Aa P w K mg base Ag 4 f fd ["numbers"] cS:=by
 refine F.ok AC7 (fun vs H Q E h=>?_) (fun Al A outer s H vs Q E hr h=>?_)
 . obtain⟨nd,kvs,AB,rfl,_⟩:=h
   rfl
 . obtain⟨nd,kvs,AB,rfl,hn,hls,q⟩:=h
   have hu:=DC hr
   have hr2:BW 2 _:=hr.mono (by decide)
   refine⟨_,AX (C9 (PW.pt (Nv (Ku (nO hu Aw (pv 0)) (by rfl)) (Nw (Jv (Gw (Bm gL hr2 rfl (AH (Ah hu (pv 0) Aw) (AH (Ah hu (pv 0) Aw) (AH (Ah hu (pv 0) Aw) AK)))))))))
    (Ac (A4 Ju)) DG)
    (Ac (A4 (nU (aB (Z8 hu Aw (pv 0)) (by rfl)) (Nr (Bm gS hr rfl (AH (Ah hu (pv 0) Aw) (AH (Ah hu (pv 0) Aw) (AH (Ah hu (pv 0) Aw) AK)))))))),?_⟩
   have second:∀H1,Same H H1->(∀r:Bool,Hl AB=((match A8 AB "shall" with | some (.inr l)=>Vm.D4 l (intOf AB "a") (intOf AB "b") | _=>true)&&r)->r=(match A8 AB "strokes" with | some (.inr l)=>Vm.F8 l (intOf AB "a") (intOf AB "b") | _=>true)->True):=fun _ _ _ _ _=>trivial
   refine⟨_,rfl,nd,_,rfl,TX (.inl hn.at_),_,rfl,?_⟩
   have rest:∀H1,Same H H1->(match A8 AB "shall" with | some (.inr l)=>Vm.D4 l (intOf AB "a") (intOf AB "b") | _=>true)=true->
    ∃v,([some (V.ref nd)]:L2.St)[0]? =some (some v)/\∃(a:AA) (o:Option V),v= .ref a/\Fm H1 a (.str "strokes") o/\∃c,V.bl (!o.isSome)= .bl c/\(if c=true then Q (.bl true) H1 else
     cv (V9 K) [] E0 (Wk (R6 (JP 0) (tC (.str "strokes"))) (Wk (R6 (JP 0) (tC (.str "a"))) (Wk (R6 (JP 0) (tC (.str "b"))) R7))) [some (V.ref nd)] H1 Q):=fun H1 s1 hsh=>by
    have hn1:=hn.same s1
    refine⟨_,rfl,nd,_,rfl,TX (.inl hn1.at_),_,rfl,?_⟩
    cases BG:A8 AB "strokes" with
    | none=>
     rw[hn1.no BG]
     have q':=q H1 s1
     unfold Hl at q'
     rw[hsh,BG] at q'
     exact A9 q'
    | some it=>
     obtain⟨l,a,b,rfl,hl,ha,hb⟩:=hls "strokes" (.inr rfl) it BG
     obtain⟨p,hv,hp⟩:=hn1.lst BG
     rw[hv]
     refine BJ ⟨_,rfl,nd,_,rfl,Fu (.inl hn1.at_) hv,_,rfl,nd,_,rfl,Fu (.inl hn1.at_) (hn1.int ha),_,rfl,nd,_,rfl,Fu (.inl hn1.at_) (hn1.int hb),p,l,a,b,rfl,AQ.of hp,hl,fun H2 s2=>?_⟩
     have q':=q H2 (s1.trans s2)
     unfold Hl intOf at q'
     unfold intOf at hsh
     rw[hsh,BG,ha,hb] at q'
     exact q'
   cases hsh:A8 AB "shall" with
   | none=>
    rw[hn.no hsh]
    refine BJ ?_
    exact rest H (Same.refl H) (by rw[hsh])
   | some it=>
    obtain⟨l,a,b,rfl,hl,ha,hb⟩:=hls "shall" (.inl rfl) it hsh
    obtain⟨p,hv,hp⟩:=hn.lst hsh
    rw[hv]
    refine A9 ⟨_,rfl,nd,_,rfl,Fu (.inl hn.at_) hv,_,rfl,nd,_,rfl,Fu (.inl hn.at_) (hn.int ha),_,rfl,nd,_,rfl,Fu (.inl hn.at_) (hn.int hb),p,l,a,b,rfl,AQ.of hp,hl,fun H1 s1=>⟨_,rfl,?_⟩⟩
    cases hb':Vm.D4 l a b with
    | false=>
     have q':=q H1 s1
     unfold Hl intOf at q'
     rw[hsh,ha,hb] at q'
     show if true=true then _ else _
     rw[show (match (some (B7 l):Option Item) with | some (.inr l)=>Vm.D4 l (match (some (Di a):Option Item) with | some (.inl z)=>z | _=>0) (match (some (Di b):Option Item) with | some (.inl z)=>z | _=>0) | _=>true)=Vm.D4 l a b from rfl,hb',G0] at q'
     exact A9 q'
    | true=>
     refine BJ (rest H1 s1 ?_)
     rw[hsh]
     unfold intOf
     rw[ha,hb]
     exact hb'
def cJ (W:Cl):Sp:=fun vs H Q _=>∃(d:AA) (kk:Dk) (s:BI) (p:Int),vs=[.ref d,.int p]/\Bc W H d kk s/\Q (.bl (NB s p)) H
theorem AC4:BD ["desk","place"] ["desk","place"] (As VG):={}
theorem AA1 {f:AA} {fd:A2} (F:A0 K "is_full" "is_full" VG f fd) (TD:DI K W.CD) (CC:LC mg) (m1:mg "len"=none):Aa P w K mg base Ag 1 f fd ["desk","place"] (cJ W):=by
 refine F.ok AC4 (fun vs H Q E h=>?_) (fun Al A outer s H vs Q E hr h=>?_)
 . obtain⟨d,kk,s,p,rfl,_⟩:=h
   rfl
 . obtain⟨d,kk,st,p,rfl,hD,q⟩:=h
   obtain⟨dx,hd⟩:=hD.ins
   obtain⟨t1,k1⟩:=CC.c1
   obtain⟨t9,k9⟩:=CC.c9
   obtain⟨ta,ka⟩:=CC.Zv
   obtain⟨tb,kb⟩:=CC.Zw
   refine⟨_,AX (C9 (DY Fh (pv 1) (Dg (v:=.int 1) rfl k1 ⟨t1,rfl⟩) (Cy _)) (Ac (A4 (IG Uo (Ay (pv 0) rfl) (Dg (v:=.int 60) rfl ka ⟨ta,rfl⟩) (Cy _)))) DG)
    (Ac (A4 (Us (IG Fh (pv 1) (Dg (v:=.int 9) rfl k9 ⟨t9,rfl⟩) (Cy _)) (Nr (IG Uo (Eb F9 (by rfl) m1 F3 (AH (Ay (pv 0) rfl) AK)) (Dg (v:=.int 60) rfl kb ⟨tb,rfl⟩) (Cy _)))))),?_⟩
   refine⟨_,rfl,rfl,_,rfl,?_⟩
   show if decide (V.int p=V.int 1)=true then _ else _
   rw[GF]
   unfold NB at q
   by_cases h1:p=1
   . rw[if_pos h1] at q
     rw[h1,beq_self_eq_true]
     refine A9 ⟨_,rfl,d,W.CD,dx,_,_,rfl,hd,TD.cl,TD.n3,iV _ _ _,_,_,rfl,rfl,?_⟩
     have e:decide ((60:Int)<=((Fb st:Nat):Int))=decide (60<=Fb st):=by rw[Gz,decide_eq_true_eq,decide_eq_true_eq];lia
     show Q (.bl (decide ((60:Int)<=((Fb st:Nat):Int)))) H
     rw[e]
     exact q
   . rw[if_neg h1] at q
     rw[beq_eq_false_iff_ne.mpr h1]
     refine BJ ⟨_,rfl,rfl,_,rfl,?_⟩
     show if decide (V.int p=V.int 9)=true then _ else _
     rw[GF]
     by_cases h9:p=9
     . rw[decide_eq_true h9,G3] at q
       rw[h9,beq_self_eq_true]
       refine A9 ⟨_,rfl,d,W.CD,dx,_,_,rfl,hd,TD.cl,TD.n2,TR _ _ _,kk.L,_,rfl,.inl (AQ.of hD.lst),_,_,rfl,rfl,?_⟩
       have hl:=Paired.len hD.dec
       have e:decide ((60:Int)<=(((kk.ds.map V.ref).length:Nat):Int))=decide (60<=st.decisions.length):=by rw[AR,hl,Gz,decide_eq_true_eq,decide_eq_true_eq];lia
       show Q (.bl (decide ((60:Int)<=(((kk.ds.map V.ref).length:Nat):Int)))) H
       rw[e]
       exact q
     . rw[decide_eq_false h9,G0] at q
       rw[beq_eq_false_iff_ne.mpr h9]
       exact BJ q
def cg (W:Cl):Sp:=fun vs H Q _=>∃(d nd:AA) (kk:Dk) (s:BI) (kvs:List (Key×V)) (AB:B1),vs=[.ref d,.ref nd]/\Bc W H d kk s/\Ee H nd kvs AB/\
 (∀x:AG,x="n"\/x="t"->∀it,A8 AB x=some it->∃(z:Int) (c:Nat),it= .inl z/\A8 AB "c"=some (.inl (c:Int))/\A7 c)/\∀H',Same H H'->Q (.bl (HP s AB)) H'
theorem om:BD ["desk","numbers","letter"] ["desk","numbers"] (As Vl):={}
theorem ABa {f:AA} {fd:A2} (F:A0 K "ticks_there" "ticks_there" Vl f fd) (TD:DI K W.CD) (TC:Cq K W.CC) (gT:Gm P w K mg base W.CC 1 "tick_now" ["self"] (J2 W.CC W.CE)):Aa P w K mg base Ag 2 f fd ["desk","numbers"] (cg W):=by
 refine F.ok om (fun vs H Q E h=>?_) (fun Al A outer s H vs Q E hr h=>?_)
 . obtain⟨d,nd,kk,s,kvs,AB,rfl,_⟩:=h
   rfl
 . obtain⟨d,nd,kk,st,kvs,AB,rfl,hD,hn,hls,q⟩:=h
   have hu:=DC hr
   refine⟨_,AX (El PassesOwn.never rfl (Uu (Ex (AH Aw (AH Aw AK)))) (CW (i:=2) om.nd rfl (Ad rfl))
    (Ac (C9 (PW.pt (Nv (Ku (nO hu (pv 2) (pv 1)) (by rfl)) (Nw (Jv (n8 Jt Jt Ax (Ah hu (pv 1) (pv 2)) (Ut gT TC.cl (Ah hu (Ay (pv 0) rfl) (Ah hu (pv 1) Aw)) hr))))))
     (Ac (A4 Ju)) DG)))
    (Ac (A4 Ju)),?_⟩
   refine⟨(by show 2<=AZ;decide),fun t ht=>?_⟩
   have s0:Same H (upd H t (.tup [.str "n",.str "t"])):=Ao ht
   have ht0:upd H t (.tup [.str "n",.str "t"]) t=some (.tup [.str "n",.str "t"]):=AO
   generalize wq:upd H t (.tup [.str "n",.str "t"])=H0 at s0 ht0 ⊢
   have hn0:=hn.same s0
   have Lh:=hD.same s0
   obtain⟨dx,hd⟩:=Lh.ins
   refine⟨t,rfl,⟨_,Ap.of ht0⟩,Yf (K:=K) (a:=t) (xs:=[.str "n",.str "t"]) (fun j σ H'=>∃z:Option V,σ=[some (.ref d),some (.ref nd),z]/\H'=H0/\(0 < j->HN st AB "n"=true)/\(1 < j->HN st AB "t"=true))
    ⟨none,rfl,rfl,fun h=>absurd h (Hc _),fun h=>absurd h (by decide)⟩ (fun j σ H' _ ⟨_,_,e,_⟩=>by rw[e];exact Ap.of ht0) ?_ ?_⟩
   . rintro j x σ H1 hx ⟨z,rfl,rfl,hj1,hj2⟩
     obtain⟨y,hy,hxy,xU⟩:∃y:AG,(y="n"\/y="t")/\x= .str y/\((j=0/\y="n")\/(j=1/\y="t")):=by
      match j,hx with
      | 0,hx=>exact⟨"n",.inl rfl,(CL hx).symm,.inl ⟨rfl,rfl⟩⟩
      | 1,hx=>exact⟨"t",.inr rfl,(CL hx).symm,.inr ⟨rfl,rfl⟩⟩
      | j+2,hx=>simp at hx
     subst hxy
     have nxt:HN st AB y=true->(0 < j+1->HN st AB "n"=true)/\(1 < j+1->HN st AB "t"=true):=fun h=>by
      rcases xU with ⟨e1,e2⟩ | ⟨e1,e2⟩
      . subst e1 e2
        exact⟨fun _=>h,fun z=>absurd z (by decide)⟩
      . subst e1 e2
        exact⟨fun _=>hj1 (by decide),fun _=>h⟩
     have bad:HN st AB y=false->Q (.bl false) H1:=fun h=>by
      have q':=q H1 s0
      have ef:HP st AB=false:=by
       unfold HP
       rcases hy with e | e
       . subst e;rw[h,G0]
       . subst e;rw[h,Oa]
      rw[ef] at q'
      exact q'
     refine⟨_,rfl,_,rfl,nd,_,rfl,TX (.inl hn0.at_),_,rfl,?_⟩
     cases hg:A8 AB y with
     | none=>
      rw[hn0.no hg]
      refine BJ ?_
      have:HN st AB y=true:=by unfold HN;rw[hg]
      exact⟨_,rfl,rfl,nxt this⟩
     | some it=>
      obtain⟨zz,c,rfl,hc,hok⟩:=hls y hy it hg
      rw[hn0.int hg]
      obtain⟨⟨dc,Bb⟩,hE⟩:=Lh.BR c hok
      have Tq:HN st AB y=(decide (0<=zz)&&decide (zz<=((Vm.got st c).length:Int))):=by
       unfold HN intOf
       rw[hg,hc]
       rfl
      refine A9 ⟨_,rfl,_,rfl,nd,_,rfl,Fu (.inl hn0.at_) (hn0.int hg),_,_,rfl,rfl,_,rfl,?_⟩
      cases h0:decide ((0:Int)<=zz) with
      | false=>
       rw[h0,G0] at Tq
       exact BJ ⟨_,rfl,A9 (bad Tq)⟩
      | true=>
       rw[h0,G3] at Tq
       refine A9 ⟨_,rfl,d,W.CD,dx,_,_,rfl,hd,TD.cl,TD.n1,DW _ _ _,_,rfl,nd,_,rfl,Fu (.inl hn0.at_) (hn0.int hc),kk.D,_,rfl,Dd Lh hok,kk.c c,dc,_,rfl,Bb,rfl,kk.c c,kk.l c,kk.a c,c,_,_,rfl,Lh.BR c hok,_,_,rfl,rfl,_,rfl,?_⟩
       rw[<-Tq]
       cases hb:HN st AB y with
       | true=>exact BJ ⟨_,rfl,rfl,nxt hb⟩
       | false=>exact A9 (bad hb)
   . rintro σ H1 ⟨z,rfl,rfl,hj1,hj2⟩
     have q':=q H1 s0
     have ef:HP st AB=true:=by
      unfold HP
      rw[hj1 (by decide),hj2 (by decide)]
      rfl
     rw[ef] at q'
     exact q'
end
def Kf (es:List Ent) (k m v:Nat):Option Nat:=(Ca (es.length+1)).find? fun n=>A3 (es.take n) k m==v
theorem jJ (es:List Ent) (k m v:Nat):firstV es k m v=match Kf es k m v with | none=>.non | some n=>nI n:=rfl
def Ko (s:BI) (p:Int) (AB:B1):Bool:=
 if p=2 then decide (((Vm.got s (intOf AB "c").toNat).length:Int)<=intOf AB "i")
 else if p=18 then (Kf (Vm.got s (intOf AB "c").toNat) (intOf AB "k").toNat (intOf AB "m").toNat (intOf AB "v").toNat).isNone
 else false
def cellsOf (s:BI) (AB:B1):List Nat:=match A8 AB "shall" with
 | some (.inr l)=>FZ (Vm.got s (intOf AB "c").toNat) (intOf AB "k").toNat (intOf AB "a").toNat (intOf AB "b").toNat (By l)
 | _=>[]
def Nj (s:BI) (p:Int) (AB:B1):Bool:=decide (p=13)&&decide (14 < (cellsOf s AB).length)
structure Has (AB:B1) (x:AG) (n:Nat):Prop where
 at_:A8 AB x=some (.inl (n:Int))
section
variable {P:Av} {w:Am} {K:AW} {mg:AG->Option AF} {base:Ae} {W:Cl}
theorem Has.num {H:Hp} {nd:AA} {kvs:List (Key×V)} {AB:B1} {x:AG} {n:Nat} (h:Has AB x n) (hn:Ee H nd kvs AB):Num kvs x n:=hn.num h.at_
theorem Has.int {AB:B1} {x:AG} {n:Nat} (h:Has AB x n):intOf AB x=(n:Int):=by
 unfold intOf
 rw[h.at_]
def cV (W:Cl):Sp:=fun vs H Q _=>∃(d nd:AA) (kk:Dk) (s:BI) (kvs:List (Key×V)) (AB:B1) (p:Int),vs=[.ref d,.int p,.ref nd]/\Bc W H d kk s/\Ee H nd kvs AB/\
 (p=2->∃c i,A7 c/\Has AB "c" c/\Has AB "i" i)/\(p=18->∃c k m v,A7 c/\Has AB "c" c/\Has AB "k" k/\Has AB "m" m/\Has AB "v" v)/\∀H',Same H H'->Q (.bl (Ko s p AB)) H'
theorem AC8:BD ["desk","place","numbers"] ["desk","place","numbers"] (As Vc):={}
theorem ABL {f:AA} {fd:A2} (F:A0 K "is_missing" "is_missing" Vc f fd) (TD:DI K W.CD) (TC:Cq K W.CC) (CC:LC mg) (gT:Gm P w K mg base W.CC 1 "tick_now" ["self"] (J2 W.CC W.CE)) (gF:Gm P w K mg base W.CC 5 "first_tick" ["self","key","minute","value"] (WO W.CC W.CE)):
 Aa P w K mg base Ag 6 f fd ["desk","place","numbers"] (cV W):=by
 refine F.ok AC8 (fun vs H Q E h=>?_) (fun Al A outer s H vs Q E hr h=>?_)
 . obtain⟨d,nd,kk,s,kvs,AB,p,rfl,_⟩:=h
   rfl
 . obtain⟨d,nd,kk,st,kvs,AB,p,rfl,hD,hn,h2,h18,q⟩:=h
   obtain⟨dx,hd⟩:=hD.ins
   have hu:=DC hr
   have Bg:BW 1 _:=hr.mono (by decide)
   obtain⟨t2,k2⟩:=CC.c2
   obtain⟨t18,yo⟩:=CC.X3
   refine⟨_,AX (C9 (DY Fh (pv 1) (Dg (v:=.int 2) rfl k2 ⟨t2,rfl⟩) (Cy _)) (Ac (A4 (IG Uo (Ah hu (pv 2) Aw) (Ut gT TC.cl (Ah hu (Ay (pv 0) rfl) (Ah hu (pv 2) Aw)) Bg) (Cy _)))) DG)
    (AX (C9 (DY Fh (pv 1) (Dg (v:=.int 18) rfl yo ⟨t18,rfl⟩) (Cy _)) (Ac (A4 (aB (Ur (Gu gF TC.cl (Ah hu (Ay (pv 0) rfl) (Ah hu (pv 2) Aw)) hr (AH (Ah hu (pv 2) Aw) (AH (Ah hu (pv 2) Aw) (AH (Ah hu (pv 2) Aw) AK)))))))) DG)
    (Ac (A4 Ju))),?_⟩
   refine⟨_,rfl,rfl,_,rfl,?_⟩
   show if decide (V.int p=V.int 2)=true then _ else _
   rw[GF]
   by_cases e2:p=2
   . obtain⟨c,i,hok,hc,hi⟩:=h2 e2
     obtain⟨⟨dc,Bb⟩,hE⟩:=hD.BR c hok
     rw[e2,beq_self_eq_true]
     refine A9 ⟨_,rfl,nd,_,rfl,BE hn.at_ (hi.num hn),_,rfl,d,W.CD,dx,_,_,rfl,hd,TD.cl,TD.n1,DW _ _ _,_,rfl,nd,_,rfl,BE hn.at_ (hc.num hn),kk.D,_,rfl,Dd hD hok,kk.c c,dc,_,rfl,Bb,rfl,kk.c c,kk.l c,kk.a c,c,_,_,rfl,hD.BR c hok,_,_,rfl,rfl,?_⟩
     have q':=q H (Same.refl H)
     unfold Ko at q'
     rw[if_pos e2,hc.int,hi.int] at q'
     exact q'
   . rw[beq_eq_false_iff_ne.mpr e2]
     refine BJ ⟨_,rfl,rfl,_,rfl,?_⟩
     show if decide (V.int p=V.int 18)=true then _ else _
     rw[GF]
     by_cases Qa:p=18
     . obtain⟨c,k,m,v,hok,hc,hk,hm,hv⟩:=h18 Qa
       obtain⟨⟨dc,Bb⟩,hE⟩:=hD.BR c hok
       rw[Qa,beq_self_eq_true]
       refine A9 ⟨_,rfl,d,W.CD,dx,_,_,rfl,hd,TD.cl,TD.n1,DW _ _ _,_,rfl,nd,_,rfl,BE hn.at_ (hc.num hn),kk.D,_,rfl,Dd hD hok,kk.c c,dc,_,rfl,Bb,rfl,_,rfl,nd,_,rfl,BE hn.at_ (hk.num hn),_,rfl,nd,_,rfl,BE hn.at_ (hm.num hn),_,rfl,nd,_,rfl,BE hn.at_ (hv.num hn),kk.c c,kk.l c,kk.a c,c,_,k,m,v,_,rfl,hD.BR c hok,BP (Vm.FG hD.good hok) (by decide),fun H1 s1=>?_⟩
       have q':=q H1 s1
       unfold Ko at q'
       rw[if_neg e2,if_pos Qa,hc.int,hk.int,hm.int,hv.int] at q'
       simp only[IY] at q'
       rw[jJ]
       cases hf:Kf (Vm.got st c) k m v with
       | none=>
        rw[hf] at q'
        exact q'
       | some n=>
        rw[hf] at q'
        exact q'
     . rw[beq_eq_false_iff_ne.mpr Qa]
       have q':=q H (Same.refl H)
       unfold Ko at q'
       rw[if_neg e2,if_neg Qa] at q'
       exact BJ q'
def cT (W:Cl):Sp:=fun vs H Q _=>∃(d nd:AA) (kk:Dk) (s:BI) (kvs:List (Key×V)) (AB:B1) (p:Int),vs=[.ref d,.int p,.ref nd]/\Bc W H d kk s/\Ee H nd kvs AB/\
 (p=13->∃(c k a b:Nat) (ns:List Int),A7 c/\Has AB "c" c/\Has AB "k" k/\Has AB "a" a/\Has AB "b" b/\a < b/\A8 AB "shall"=some (.inr ns)/\ns.length<=1000/\Vm.D4 ns a b=true)/\∀H',Same H H'->Q (.bl (Nj s p AB)) H'
theorem bj:BD ["desk","place","numbers","entries","minutes"] ["desk","place","numbers"] (As Vo):={}
theorem ABJ {f:AA} {fd:A2} (F:A0 K "has_too_many_cells" "has_too_many_cells" Vo f fd) (TD:DI K W.CD) (TC:Cq K W.CC) (CC:LC mg) (m1:mg "len"=none) (gC:Gd P w K mg base 2 "cell_starts" ["entries","key","a","b","shall"] (WG K W.CE)):
 Aa P w K mg base Ag 3 f fd ["desk","place","numbers"] (cT W):=by
 refine F.ok bj (fun vs H Q E h=>?_) (fun Al A outer s H vs Q E hr h=>?_)
 . obtain⟨d,nd,kk,s,kvs,AB,p,rfl,_⟩:=h
   rfl
 . obtain⟨d,nd,kk,st,kvs,AB,p,rfl,hD,hn,h13,q⟩:=h
   obtain⟨dx,hd⟩:=hD.ins
   have hu:=DC hr
   obtain⟨t13,k13⟩:=CC.X2
   obtain⟨t14,k14⟩:=CC.RG
   refine⟨_,AX (C9 (DY L8 (pv 1) (Dg (v:=.int 13) rfl k13 ⟨t13,rfl⟩) (Cy _)) (Ac (A4 Ju)) DG)
    (AX (A5 (i:=3) bj.nd rfl (Ad rfl) (Ay (Ah hu (Ay (pv 0) rfl) (Ah hu (pv 2) Aw)) rfl))
    (AX (A5 (i:=4) bj.nd rfl (Ad rfl) (Bm gC hr rfl (AH (pv 3) (AH (Ah hu (pv 2) Aw) (AH (Ah hu (pv 2) Aw) (AH (Ah hu (pv 2) Aw) (AH (Ah hu (pv 2) Aw) AK)))))))
    (Ac (A4 (IG nB (Eb F9 (by rfl) m1 F3 (AH (pv 4) AK)) (Dg (v:=.int 14) rfl k14 ⟨t14,rfl⟩) (Cy _)))))),?_⟩
   refine⟨_,rfl,rfl,_,rfl,?_⟩
   show if (!decide (V.int p=V.int 13))=true then _ else _
   rw[GF]
   by_cases QZ:p=13
   . obtain⟨c,k,a,b,ns,hok,hc,hk,ha,hb,Bk,hsh,hnl,hline⟩:=h13 QZ
     obtain⟨⟨dc,Bb⟩,hE⟩:=hD.BR c hok
     obtain⟨ps,hv,hps⟩:=hn.lst hsh
     rw[QZ,beq_self_eq_true]
     refine BJ ⟨_,rfl,d,W.CD,dx,_,_,rfl,hd,TD.cl,TD.n1,DW _ _ _,_,rfl,nd,_,rfl,BE hn.at_ (hc.num hn),kk.D,_,rfl,Dd hD hok,kk.c c,W.CC,dc,_,_,rfl,Bb,TC.cl,TC.n3,Er _ _ _,?_⟩
     refine⟨_,rfl,_,rfl,nd,_,rfl,BE hn.at_ (hk.num hn),_,rfl,nd,_,rfl,BE hn.at_ (ha.num hn),_,rfl,nd,_,rfl,BE hn.at_ (hb.num hn),_,rfl,nd,_,rfl,Fu (.inl hn.at_) hv,kk.l c,ps,kk.a c,Vm.got st c,k,a,b,ns,rfl,hE.at,Bk,BP (Vm.FG hD.good hok) (by decide),AQ.of hps,hnl,hline,fun H1 r s1 Bg h1=>?_⟩
     refine⟨_,rfl,r,_,rfl,.inl (AQ.of h1),_,_,rfl,rfl,?_⟩
     have q':=q H1 s1
     unfold Nj cellsOf at q'
     rw[decide_eq_true QZ,G3,hsh,hc.int,hk.int,ha.int,hb.int] at q'
     simp only[IY] at q'
     rw[AR]
     show Q (.bl (decide ((14:Int) < (((FZ (Vm.got st c) k a b (By ns)).length:Nat):Int)))) H1
     have e:decide ((14:Int) < (((FZ (Vm.got st c) k a b (By ns)).length:Nat):Int))=decide (14 < (FZ (Vm.got st c) k a b (By ns)).length):=by rw[Gz,decide_eq_true_eq,decide_eq_true_eq];omega
     rw[e]
     exact q'
   . rw[beq_eq_false_iff_ne.mpr QZ]
     have q':=q H (Same.refl H)
     unfold Nj at q'
     rw[decide_eq_false QZ,G0] at q'
     exact A9 q'
end
def BH (rg:AG->Option (Int×Int)) (x:AG×Item):Bool:=match x.2 with
 | .inl n=>(match rg x.1 with | some r=>decide (r.1<=n)&&decide (n<=r.2) | none=>true)
 | .inr _=>true
def Dj (rg:AG->Option (Int×Int)) (AB:B1):Bool:=AB.all (BH rg)&&(match A8 AB "a",A8 AB "b" with | some (.inl a),some (.inl b)=>decide (a < b) | _,_=>true)
theorem Zd {rg:AG->Option (Int×Int)} {AB:B1} (hn:(AB.map (·.1)).Nodup):Dj rg AB=true↔(∀x n,A8 AB x=some (.inl n)->J8 rg x n)/\∀a b,A8 AB "a"=some (.inl a)->A8 AB "b"=some (.inl b)->a < b:=by
 unfold Dj
 rw[CB,MY]
 constructor
 . rintro⟨h1,h2⟩
   refine⟨fun x n hx lo hi hr=>?_,fun a b ha hb=>?_⟩
   . obtain⟨i,hi'⟩:=Qj hx
     have:=h1 _ (G7 hi')
     unfold BH at this
     simp only[hr,CB,decide_eq_true_eq] at this
     exact this
   . rw[ha,hb] at h2
     exact of_decide_eq_true h2
 . rintro⟨h1,h2⟩
   refine⟨fun x hx=>?_,?_⟩
   . obtain⟨i,hi⟩:=Mb hx
     have hg:=jZ hn hi
     obtain⟨x1,x2⟩:=x
     unfold BH
     cases x2 with
     | inr l=>rfl
     | inl n=>
      show (match rg x1 with | some r=>decide (r.1<=n)&&decide (n<=r.2) | none=>true)=true
      cases hr:rg x1 with
      | none=>rfl
      | some r=>
       have:=h1 x1 n hg r.1 r.2 hr
       show (decide (r.1<=n)&&decide (n<=r.2))=true
       rw[decide_eq_true this.1,decide_eq_true this.2]
       rfl
   . cases ha:A8 AB "a" with
     | none=>rfl
     | some ia=>
      cases ia with
      | inr l=>rfl
      | inl a=>
       cases hb:A8 AB "b" with
       | none=>rfl
       | some ib=>
        cases ib with
        | inr l=>rfl
        | inl b=>exact decide_eq_true (h2 a b ha hb)
def Lk (s:BI) (AB:B1):Bool:=s.decisions.any fun x=>x.num==(intOf AB "j").toNat
def Cz (rg:AG->Option (Int×Int)) (s:BI) (p:Int) (AB:B1):Int:=
 if Dj rg AB=false then -1 else if Hl AB=false then -2 else if ((p==2||p==3)&&intOf AB "c"==intOf AB "d")=true then -4
 else if (p==9&&Lk s AB)=true then -3 else if NB s p=true then -6 else if HP s AB=false then -5 else if Ko s p AB=true then -10 else if Nj s p AB=true then -11 else 0
structure Sb (rg:AG->Option (Int×Int)) (AB:B1) (p:Int):Prop where
 f1:∀x l,A8 AB x=some (.inr l)->rg x=none
 f2:∀it,A8 AB "b"=some it->∃a b,A8 AB "a"=some (.inl a)/\it= .inl b
 f3:∀x:AG,x="shall"\/x="strokes"->∀it,A8 AB x=some it->∃l a b,it= .inr l/\l.length<=1000/\A8 AB "a"=some (.inl a)/\A8 AB "b"=some (.inl b)
 f4:p=2\/p=3->∃c d,A8 AB "c"=some (.inl c)/\A8 AB "d"=some (.inl d)
 f5:p=9->∃j,A8 AB "j"=some (.inl j)
 f6:∀x:AG,x="n"\/x="t"->∀it,A8 AB x=some it->∃z c,it= .inl z/\A8 AB "c"=some (.inl c)
 f7:p=2->∃c i,A8 AB "c"=some (.inl c)/\A8 AB "i"=some (.inl i)
 f8:p=18->∃c k m v,A8 AB "c"=some (.inl c)/\A8 AB "k"=some (.inl k)/\A8 AB "m"=some (.inl m)/\A8 AB "v"=some (.inl v)
 f9:p=13->∃c k a b l,A8 AB "c"=some (.inl c)/\A8 AB "k"=some (.inl k)/\A8 AB "a"=some (.inl a)/\A8 AB "b"=some (.inl b)/\A8 AB "shall"=some (.inr l)
structure CQ (rg:AG->Option (Int×Int)):Prop where
 c:rg "c"=some (1,3)
 d:rg "d"=some (1,3)
 k:rg "k"=some (1,20)
 m:rg "m"=some (0,999999)
 a:rg "a"=some (0,999999)
 b:rg "b"=some (1,1000000)
 v:rg "v"=some (0,1000000000)
 i:rg "i"=some (0,1000000000)
 j:rg "j"=some (1,1000000000)
 clock:rg "clock"=some (0,1000000000)
theorem Hj {rg:AG->Option (Int×Int)} {AB:B1} {x:AG} {z lo hi:Int} (h:∀x n,A8 AB x=some (.inl n)->J8 rg x n) (hx:A8 AB x=some (.inl z)) (hr:rg x=some (lo,hi)) (hlo:0<=lo):Has AB x z.toNat:=⟨by
 have:=h x z hx lo hi hr
 rw[hx,JV (by lia)]⟩
theorem Uk {rg:AG->Option (Int×Int)} {AB:B1} {x:AG} {z:Int} (h:∀x n,A8 AB x=some (.inl n)->J8 rg x n) (hx:A8 AB x=some (.inl z)) (hr:rg x=some (1,3)):A7 z.toNat:=by
 have:=h x z hx 1 3 hr
 unfold A7
 lia
section
variable {P:Av} {w:Am} {K:AW} {mg:AG->Option AF} {base:Ae} {W:Cl}
def cX (rg:AG->Option (Int×Int)) (W:Cl):Sp:=fun vs H Q _=>∃(d nd:AA) (kk:Dk) (s:BI) (kvs:List (Key×V)) (AB:B1) (p:Int),vs=[.ref d,.int p,.ref nd]/\Bc W H d kk s/\Ee H nd kvs AB/\Sb rg AB p/\∀H',Same H H'->Q (.int (Cz rg s p AB)) H'
theorem ADA:BD ["desk","place","numbers"] ["desk","place","numbers"] (As Vg):={}
theorem yd (p:Int):inV (.int p) [.int 2,.int 3]=(p==2||p==3):=by
 unfold inV
 show ((2:Int)==p||((3:Int)==p||false))=(p==2||p==3)
 rw[dR,Gz]
 simp only[Oc,beq_iff_eq]
 lia
theorem fm {b:Bool} {tA:TT} {σ:L2.St} {H5:Hp} {G:Bool->Hp->Prop} {IW:Hp->Prop} (hA:(∀H,IW H->G false H)->b=true->tA σ H5 G) (hB:b=false->IW H5) (hR:∀H,IW H->G false H):if b=true then tA σ H5 G else G false H5:=by
 cases b with
 | false=>exact BJ (hR H5 (hB rfl))
 | true=>exact A9 (hA hR rfl)
theorem ph {A B:Prop} (h:if false=true then A else B):B:=by
 rw[if_neg Bw] at h
 exact h
theorem ABQ {f:AA} {fd:A2} {rg:AG->Option (Int×Int)} (F:A0 K "refusal" "refusal" Vg f fd) (R:CQ rg) (TD:DI K W.CD) (CC:LC mg) (gI:Gd P w K mg base 2 "in_range" ["numbers"] (cP rg)) (gL:Gd P w K mg base 4 "lists_as_told" ["numbers"] cS)
 (gH:Gm P w K mg base W.CD 1 "has_decision" ["self","number"] (cM W)) (gF:Gd P w K mg base 1 "is_full" ["desk","place"] (cJ W)) (gT:Gd P w K mg base 2 "ticks_there" ["desk","numbers"] (cg W)) (gM:Gd P w K mg base 6 "is_missing" ["desk","place","numbers"] (cV W)) (gY:Gd P w K mg base 3 "has_too_many_cells" ["desk","place","numbers"] (cT W)):
 Aa P w K mg base Ag 7 f fd ["desk","place","numbers"] (cX rg W):=by
 refine F.ok ADA (fun vs H Q E h=>?_) (fun Al A outer s H vs Q E hr h=>?_)
 . obtain⟨d,nd,kk,s,kvs,AB,p,rfl,_⟩:=h
   rfl
 . obtain⟨d,nd,kk,st,kvs,AB,p,rfl,hD,hn,hF,q⟩:=h
   have hu:=DC hr
   obtain⟨t2,k2⟩:=CC.c2
   obtain⟨t3,k3⟩:=CC.c3
   obtain⟨t9,k9⟩:=CC.c9
   obtain⟨u0,v0⟩:=CC.r0
   obtain⟨u1,v1⟩:=CC.r1
   obtain⟨u2,v2⟩:=CC.r2
   obtain⟨u3,v3⟩:=CC.r3
   obtain⟨u4,v4⟩:=CC.r4
   obtain⟨u5,v5⟩:=CC.r5
   obtain⟨u6,v6⟩:=CC.r6
   obtain⟨u10,v10⟩:=CC.r10
   obtain⟨u11,v11⟩:=CC.r11
   refine⟨_,AX (C9 (Jv (Gw (Bm gI (hr.mono (by decide)) rfl (AH (pv 2) AK)))) (Ac (A4 (Dg (v:=.int (-1)) rfl v1 ⟨u1,rfl⟩))) DG)
    (AX (C9 (Jv (Gw (Bm gL (hr.mono (by decide)) rfl (AH (pv 2) AK)))) (Ac (A4 (Dg (v:=.int (-2)) rfl v2 ⟨u2,rfl⟩))) DG)
    (AX (C9 (PW.pt (Nv (DY Z7 (pv 1) (Ex (AH (Dg (v:=.int 2) rfl k2 ⟨t2,rfl⟩) (AH (Dg (v:=.int 3) rfl k3 ⟨t3,rfl⟩) AK))) (by with_unfolding_all rfl)) (Nw (DY Fh (Ah hu (pv 2) Aw) (Ah hu (pv 2) Aw) (Cy _)))))
     (Ac (A4 (Dg (v:=.int (-4)) rfl v4 ⟨u4,rfl⟩))) DG)
    (AX (C9 (PW.pt (Nv (DY Fh (pv 1) (Dg (v:=.int 9) rfl k9 ⟨t9,rfl⟩) (Cy _)) (Nw (Gw (Gu gH TD.cl (pv 0) (hr.mono (by decide)) (AH (Ah hu (pv 2) Aw) AK))))))
     (Ac (A4 (Dg (v:=.int (-3)) rfl v3 ⟨u3,rfl⟩))) DG)
    (AX (C9 (Gw (Bm gF (hr.mono (by decide)) rfl (AH (pv 0) (AH (pv 1) AK)))) (Ac (A4 (Dg (v:=.int (-6)) rfl v6 ⟨u6,rfl⟩))) DG)
    (AX (C9 (Jv (Gw (Bm gT (hr.mono (by decide)) rfl (AH (pv 0) (AH (pv 2) AK))))) (Ac (A4 (Dg (v:=.int (-5)) rfl v5 ⟨u5,rfl⟩))) DG)
    (AX (C9 (Gw (Bm gM hr rfl (AH (pv 0) (AH (pv 1) (AH (pv 2) AK))))) (Ac (A4 (Dg (v:=.int (-10)) rfl v10 ⟨u10,rfl⟩))) DG)
    (AX (C9 (Gw (Bm gY (hr.mono (by decide)) rfl (AH (pv 0) (AH (pv 1) (AH (pv 2) AK))))) (Ac (A4 (Dg (v:=.int (-11)) rfl v11 ⟨u11,rfl⟩))) DG)
    (Ac (A4 (Dg (v:=.int 0) rfl v0 ⟨u0,rfl⟩)))))))))),?_⟩
   refine⟨_,rfl,nd,kvs,AB,rfl,hn,hF.f1,hF.f2,fun r hr0=>⟨_,rfl,?_⟩⟩
   have er:r=Dj rg AB:=Gz.mpr (hr0.trans (Zd hn.once).symm)
   subst er
   cases h1:Dj rg AB with
   | false=>
    have q':=q H (Same.refl H)
    unfold Cz at q'
    rw[if_pos h1] at q'
    exact A9 q'
   | true=>
    have BQ:=((Zd hn.once).mp h1).1
    have Bk:=((Zd hn.once).mp h1).2
    refine BJ ⟨_,rfl,nd,kvs,AB,rfl,hn,hF.f3,fun H1 s1=>⟨_,rfl,?_⟩⟩
    have e1:¬Dj rg AB=false:=by rw[h1];decide
    cases h2:Hl AB with
    | false=>
     have q':=q H1 s1
     unfold Cz at q'
     rw[if_neg e1,if_pos h2] at q'
     exact A9 q'
    | true=>
     have e2:¬Hl AB=false:=by rw[h2];decide
     have hn1:=hn.same s1
     have Eu:=hD.same s1
     refine BJ ⟨_,rfl,(by show 2<=AZ;decide),fun t ht=>⟨t,_,rfl,.inr (Ap.of AO),rfl,rfl,_,rfl,?_⟩⟩
     have s2:Same H1 (upd H1 t (.tup [.int 2,.int 3])):=Ao ht
     generalize hH2:upd H1 t (.tup [.int 2,.int 3])=H2 at s2 ⊢
     have Em:=s1.trans s2
     have hn2:=hn.same Em
     have BU:=hD.same Em
     obtain⟨QY,hd2⟩:=BU.ins
     show if (if false=true then !inV (.int p) [.int 2,.int 3] else inV (.int p) [.int 2,.int 3])=true then _ else _
     rw[if_neg Bw,yd]
     refine fm (b:=(p==2||p==3)) (H5:=H2) (IW:=fun H'=>H'=H2/\((p==2||p==3)&&intOf AB "c"==intOf AB "d")=false) (fun go hb=>?_) (fun hb=>⟨rfl,by rw[hb,G0]⟩) (fun H' hC=>?_)
     . have xt:p=2\/p=3:=by simpa only[Oc,beq_iff_eq] using hb
       obtain⟨c,e,hc,he⟩:=hF.f4 xt
       have ec:intOf AB "c"=c:=by unfold intOf;rw[hc]
       have ee:intOf AB "d"=e:=by unfold intOf;rw[he]
       refine⟨_,rfl,nd,_,rfl,Fu (.inl hn2.at_) (hn2.int hc),_,rfl,nd,_,rfl,Fu (.inl hn2.at_) (hn2.int he),rfl,_,rfl,?_⟩
       show if decide (V.int c=V.int e)=true then _ else _
       rw[GF]
       cases hce:(c==e) with
       | true=>
        have q':=q H2 Em
        unfold Cz at q'
        rw[if_neg e1,if_neg e2,hb,ec,ee,hce,if_pos (dQ true)] at q'
        exact A9 q'
       | false=>
        refine BJ (ph (go H2 ⟨rfl,?_⟩))
        rw[ec,ee,hce,Oa]
     obtain⟨rfl,h3⟩:=hC
     refine BJ ⟨_,rfl,rfl,_,rfl,?_⟩
     show if decide (V.int p=V.int 9)=true then _ else _
     rw[GF]
     have e3:¬((p==2||p==3)&&intOf AB "c"==intOf AB "d")=true:=by rw[h3];decide
     refine fm (b:=(p==9)) (H5:=H') (IW:=fun H3=>Same H' H3/\(p==9&&Lk st AB)=false) (fun go hb=>?_) (fun hb=>⟨Same.refl _,by rw[hb,G0]⟩) (fun H3 hC=>?_)
     . obtain⟨j,hj⟩:=hF.f5 (beq_iff_eq.mp hb)
       have hj':=Hj BQ hj R.j (by decide)
       have ej:intOf AB "j"=j:=by unfold intOf;rw[hj]
       refine⟨_,rfl,d,QY,_,rfl,hd2,rfl,_,rfl,nd,_,rfl,BE hn2.at_ (hj'.num hn2),d,kk,st,j.toNat,rfl,BU,fun H3 s3=>⟨_,rfl,?_⟩⟩
       have uH:(st.decisions.any fun x=>x.num==j.toNat)=Lk st AB:=by unfold Lk;rw[ej]
       rw[uH]
       cases hh:Lk st AB with
       | true=>
        have q':=q H3 (Em.trans s3)
        unfold Cz at q'
        rw[if_neg e1,if_neg e2,if_neg e3,hb,hh,if_pos (dQ true)] at q'
        exact A9 q'
       | false=>
        refine BJ (ph (go H3 ⟨s3,?_⟩))
        rw[hh,Oa]
     obtain⟨s3,h4⟩:=hC
     have e4:¬(p==9&&Lk st AB)=true:=by rw[h4];decide
     have Ec:=Em.trans s3
     have xj:=hn.same Ec
     have Ce:=hD.same Ec
     refine BJ ⟨_,rfl,_,rfl,d,kk,st,p,rfl,Ce,_,rfl,?_⟩
     cases h5:NB st p with
     | true=>
      have q':=q H3 Ec
      unfold Cz at q'
      rw[if_neg e1,if_neg e2,if_neg e3,if_neg e4,if_pos h5] at q'
      exact A9 q'
     | false=>
      have e5:¬NB st p=true:=by rw[h5];decide
      refine BJ ⟨_,rfl,_,rfl,d,nd,kk,st,kvs,AB,rfl,Ce,xj,fun x hx it CJ=>?_,fun H4 s4=>⟨_,rfl,?_⟩⟩
      . obtain⟨z,c,rfl,hc⟩:=hF.f6 x hx it CJ
        exact⟨z,c.toNat,rfl,(Hj BQ hc R.c (by decide)).at_,Uk BQ hc R.c⟩
      have GR:=Ec.trans s4
      have xk:=hn.same GR
      have Hi:=hD.same GR
      cases h6:HP st AB with
      | false=>
       have q':=q H4 GR
       unfold Cz at q'
       rw[if_neg e1,if_neg e2,if_neg e3,if_neg e4,if_neg e5,if_pos h6] at q'
       exact A9 q'
      | true=>
       have e6:¬HP st AB=false:=by rw[h6];decide
       refine BJ ⟨_,rfl,_,rfl,_,rfl,d,nd,kk,st,kvs,AB,p,rfl,Hi,xk,fun e=>?_,fun e=>?_,fun H5 s5=>⟨_,rfl,?_⟩⟩
       . obtain⟨c,i,hc,hi⟩:=hF.f7 e
         exact⟨_,_,Uk BQ hc R.c,Hj BQ hc R.c (by decide),Hj BQ hi R.i (by decide)⟩
       . obtain⟨c,k,m,v,hc,hk,hm,hv⟩:=hF.f8 e
         exact⟨_,_,_,_,Uk BQ hc R.c,Hj BQ hc R.c (by decide),Hj BQ hk R.k (by decide),Hj BQ hm R.m (by decide),Hj BQ hv R.v (by decide)⟩
       have IK:=GR.trans s5
       have kK:=hn.same IK
       have T4:=hD.same IK
       cases h7:Ko st p AB with
       | true=>
        have q':=q H5 IK
        unfold Cz at q'
        rw[if_neg e1,if_neg e2,if_neg e3,if_neg e4,if_neg e5,if_neg e6,if_pos h7] at q'
        exact A9 q'
       | false=>
        have e7:¬Ko st p AB=true:=by rw[h7];decide
        refine BJ ⟨_,rfl,_,rfl,_,rfl,d,nd,kk,st,kvs,AB,p,rfl,T4,kK,fun e=>?_,fun H6 s6=>⟨_,rfl,?_⟩⟩
        . obtain⟨c,k,a,b,l,hc,hk,ha,hb,hl⟩:=hF.f9 e
          obtain⟨l',a',b',el,BV,ha',hb'⟩:=hF.f3 "shall" (.inl rfl) _ hl
          cases el
          have i1:=BQ "a" a ha _ _ R.a
          have i2:=BQ "b" b hb _ _ R.b
          have i3:=Bk a b ha hb
          refine⟨_,_,a.toNat,b.toNat,l,Uk BQ hc R.c,Hj BQ hc R.c (by decide),Hj BQ hk R.k (by decide),Hj BQ ha R.a (by decide),Hj BQ hb R.b (by decide),by lia,hl,BV,?_⟩
          rw[JV i1.1,JV (by lia)]
          unfold Hl intOf at h2
          rw[hl,ha,hb,CB] at h2
          exact h2.1
        have q':=q H6 (IK.trans s6)
        unfold Cz at q'
        rw[if_neg e1,if_neg e2,if_neg e3,if_neg e4,if_neg e5,if_neg e6,if_neg e7] at q'
        cases h8:Nj st p AB with
        | true=>
         rw[if_pos h8] at q'
         exact A9 q'
        | false=>
         rw[if_neg (by rw[h8];decide)] at q'
         exact BJ q'
end
def Lb (p:Int) (nd:AA) (e:Nat):List (AG×V):=[("place",.int p),("numbers",.ref nd),("end",nI e)]
theorem sY (p:Int) (nd:AA) (e:Nat):(Lb p nd e).lookup ("place":AG)=some (.int p):=rfl
theorem sX (p:Int) (nd:AA) (e:Nat):(Lb p nd e).lookup ("numbers":AG)=some (.ref nd):=rfl
theorem sW (p:Int) (nd:AA) (e:Nat):(Lb p nd e).lookup ("end":AG)=some (nI e):=rfl
structure Sz (K:AW) (C:AA):Prop where
 cl:FU K C
 n1:DH K C "place"
 n2:DH K C "numbers"
 n3:DH K C "end"
def Qb:Item->List Int
 | .inl z=>[z]
 | .inr l=>(l.length:Int)::l
def CT (AB:B1):List Int:=AB.flatMap fun x=>Qb x.2
def Jq:List V:=[.str "shall",.str "strokes"]
def letters:Nat->List AG
 | 1=>["c","k","a","b","v"]
 | 2=>["c","d","i"]
 | 3=>["c","d"]
 | 4=>["c","k","m"]
 | 5=>["c","n","k","m"]
 | 6=>["c","n","k","a","b"]
 | 7=>["c","k","m"]
 | 8=>["c","n","t","k","a","b"]
 | 9=>["c","j","k","m"]
 | 10=>["c"]
 | 11=>["c","d"]
 | 12=>["c"]
 | 13=>["c","k","a","b","shall"]
 | 14=>["c","k","a","b","strokes"]
 | 15=>["c","n","k","a","b","v"]
 | 16=>["c","d","k","a","b"]
 | 17=>["c"]
 | 18=>["c","k","m","v"]
 | 19=>["c","clock","k","m"]
 | _=>[]
def SY (K:AW) (a:AA):Prop:=∃fs:List AA,fs.length=20/\(∀H:Hp,Ap K H a (fs.map V.ref))/\∀(i:Nat) (f:AA),fs[i]? =some f->∀H:Hp,Ap K H f ((letters i).map V.str)
def dh (x:AG×Item):Prop:=match x.2 with
 | .inl _=>inV (.str x.1) Jq=false
 | .inr _=>inV (.str x.1) Jq=true
theorem iw {AB:B1} {i:Nat} {x:AG×Item} (h:AB[i]? =some x):CT (AB.take (i+1))=CT (AB.take i)++Qb x.2:=by
 unfold CT
 rw[C6 h,List.flatMap_append]
 simp
theorem uN {AB:B1} {i:Nat} {x:AG×Item} (h:AB[i]? =some x):∃r,CT AB=CT (AB.take i)++Qb x.2++r:=by
 refine⟨CT (AB.drop (i+1)),?_⟩
 have e:AB=AB.take (i+1)++AB.drop (i+1):=(List.take_append_drop _ _).symm
 have e2:CT AB=CT (AB.take (i+1))++CT (AB.drop (i+1)):=by
  unfold CT
  rw[<-List.flatMap_append,<-e]
 rw[e2,iw h]
section
variable {P:Av} {w:Am} {K:AW} {mg:AG->Option AF} {base:Ae} {CK:AA}
abbrev VW:Au:=inClass (top 22) 0
abbrev U5:Au:=top 23
def o7 (C:AA):Sp:=fun vs H Q _=>∃(x dx nd:AA) (p:Int) (e:Nat),vs=[.ref x,.int p,.ref nd,nI e]/\H x=some (.ins C dx [])/\Q .non (upd H x (.ins C dx (Lb p nd e)))
theorem AC6:BD ["self","place","numbers","end"] ["self","place","numbers","end"] (As VW):={}
theorem ABC {f:AA} {fd:A2} (F:A0 K "__init__" "Call.__init__" VW f fd) (T:Sz K CK):Aa P w K mg base Ag 1 f fd ["self","place","numbers","end"] (o7 CK):=by
 refine F.ok AC6 (fun vs H Q E h=>?_) (fun Al A outer s H vs Q E hr h=>?_)
 . obtain⟨x,dx,nd,p,e,rfl,_⟩:=h
   rfl
 . obtain⟨x,dx,nd,p,e,rfl,hx,k⟩:=h
   refine⟨_,AX (EC (pv 0) (pv 1) rfl) (AX (EC (pv 0) (pv 2) rfl) (Ac (EC (pv 0) (pv 3) rfl))),?_⟩
   refine⟨_,rfl,_,rfl,x,CK,dx,[],rfl,hx,T.cl,T.n1,(by show 0 < 1000;decide),?_⟩
   refine⟨_,rfl,_,rfl,x,CK,dx,_,rfl,AO,T.cl,T.n2,(by show 1 < 1000;decide),?_⟩
   refine⟨_,rfl,_,rfl,x,CK,dx,_,rfl,AO,T.cl,T.n3,(by show 2 < 1000;decide),?_⟩
   rw[FQ,FQ]
   exact k
def cA (K:AW) (CK:AA):Sp:=fun vs H Q _=>∃(a:AA) (ns pre post:List Int) (i:Nat) (AB:B1),vs=[.ref a,nI pre.length]/\AQ K H a (ns.map V.int)/\ns=pre++((i:Int)::CT AB)++post/\i < 20/\AB.map (·.1)=letters i/\(∀x∈AB,dh x)/\(AB.map (·.1)).Nodup/\AB.length<=20/\
 ∀(H':Hp) (x dx nd:AA) (kvs:List (Key×V)),Same H H'->H' x=some (.ins CK dx (Lb (i:Int) nd (pre.length+1+(CT AB).length)))->Ee H' nd kvs AB->Q (.ref x) H'
theorem Kx:BD ["calls","at","place","numbers","end","letter","begins"] ["calls","at"] (As U5):={}
theorem AAh {f fI aF aL:AA} {fd ER:A2} (F:A0 K "call_at" "call_at" U5 f fd) (T:Sz K CK) (M:Mk K CK fI) (mC:mg "Call"=some (.ref CK)) (FI:A0 K "__init__" "Call.__init__" VW fI ER) (bI:Binds K ER ["self","place","numbers","end"] [])
 (mF:mg "FORMS"=some (.ref aF)) (hF:SY K aF) (mL:mg "LISTS"=some (.ref aL)) (hLs:∀H:Hp,Ap K H aL Jq):Aa P w K mg base Ag 3 f fd ["calls","at"] (cA K CK):=by
 have GI:Aa P w K mg base Ag 1 fI ER ["self","place","numbers","end"] (o7 CK):=ABC FI T
 refine F.ok Kx (fun vs H Q E h=>?_) (fun Al A outer s H vs Q E hr h=>?_)
 . obtain⟨a,ns,pre,post,i,AB,rfl,_⟩:=h
   rfl
 . obtain⟨a,ns,pre,post,i,AB,rfl,hA,hns,hi,NS,hok,hnd,hil,q⟩:=h
   have hu:=DC hr
   have JB:AZ=16777216:=Dn
   refine⟨_,AX (A5 (i:=2) Kx.nd rfl (Ad rfl) (Br Df (pv 0) (pv 1)))
    (AX (A5 (i:=3) Kx.nd rfl (Ad rfl) ABt)
    (AX (A5 (i:=4) Kx.nd rfl (Ad rfl) (DF Fz (pv 1) Ax))
    (AX (El PassesOwn.never rfl (Uu (Br D5 (Dg (v:=.ref aF) rfl mF rfl) (pv 2))) (CW (i:=5) Kx.nd rfl (Ad rfl))
     (Ac (C9 (DY Z7 (pv 5) (Dg (v:=.ref aL) rfl mL rfl) (by rfl))
      (AX (A5 (i:=6) Kx.nd rfl (Ad rfl) (DF Fz (pv 4) Ax))
      (AX (A5 (i:=4) Kx.nd rfl (Ad rfl) (DF Fz (pv 6) (Br Df (pv 0) (pv 4))))
      (Ac (RQ hu (pv 3) (pv 5) (Nt OI (pv 0) (II (pv 6)) (II (pv 4))) rfl))))
      (AX (RQ hu (pv 3) (pv 5) (Br Df (pv 0) (pv 4)) rfl)
      (Ac (A5 (i:=4) Kx.nd rfl (Ad rfl) (DF Fz (pv 4) Ax)))))))
    (Ac (A4 (L9 M GI hr rfl mC bI .nil CV (AH (pv 2) (AH (pv 3) (AH (pv 4) AK))))))))),?_⟩
   have xN:ns[pre.length]? =some (i:Int):=by
    rw[hns,Ha,Ot (Aj _),Oz]
    rfl
   refine⟨_,rfl,_,rfl,a,_,_,_,rfl,rfl,hA,at_of (j:=pre.length) rfl (by rw[CM,xN];rfl),?_⟩
   intro nd ZM
   have s0:Same H (upd H nd (.dK [])):=Ao ZM
   have kM:upd H nd (.dK []) nd=some (.dK []):=AO
   generalize wq:upd H nd (.dK [])=H0 at s0 kM ⊢
   obtain⟨fs,hfl,hfs,hfi⟩:=hF
   have A1:i < fs.length:=by lia
   refine⟨_,rfl,_,_,rfl,rfl,?_⟩
   refine⟨_,rfl,aF,_,_,_,rfl,rfl,hfs _,at_of (j:=i) (v:=.ref fs[i]) rfl (by rw[CM,DU A1];rfl),fs[i],rfl,⟨_,hfi i fs[i] (DU A1) _⟩,?_⟩
   have w8:=hfi i fs[i] (DU A1)
   have e0:V.int ((pre.length:Int)+1)=nI (pre.length+1):=by unfold nI;congr 1
   have hll:(letters i).length=AB.length:=by rw[<-NS,AR]
   refine Yf (K:=K) (a:=fs[i]) (xs:=(letters i).map V.str) (fun j σ H'=>∃(z5 z6:Option V) (kvs:List (Key×V)),σ=[some (.ref a),some (nI pre.length),some (.int (i:Int)),some (.ref nd),some (nI (pre.length+1+(CT (AB.take j)).length)),z5,z6]/\(∀b o,H b=some o->H' b=some o)/\H' nd=some (.dK kvs)/\Ar (XD H') kvs (AB.take j))
    ⟨none,none,[],by rw[show (CT (AB.take 0)).length=0 from rfl,Nat.add_zero,<-e0];rfl,fun b o e=>s0 _ _ e,kM,.nil⟩ (fun j σ H' _ _=>w8 H') ?_ ?_
   . rintro j x σ H1 hx ⟨z5,z6,kvs,rfl,s1,Lr,hP⟩
     rw[<-NS,Dq,CM] at hx
     cases hj:AB[j]? with
     | none=>rw[hj] at hx;cases hx
     | some it=>
      rw[hj] at hx
      have ex:V.str it.1=x:=CL hx
      subst ex
      have hjl:j < AB.length:=(Fo.mp hj).1
      have hkl:kvs.length=j:=by rw[Paired.len hP,Ct];lia
      have DS:=C6 hj
      have henc:=iw hj
      obtain⟨rr,hsplit⟩:=uN hj
      have Y0:AQ K H1 a (ns.map V.int):=Same.seq (fun b o e=>s1 b o e) hA
      have hnew:Bq kvs (B7 it.1)=none:=by
       rcases Lz it.1 hP with ⟨_,e⟩ | ⟨v,it',e1,_⟩
       . exact e
       . exfalso
         obtain⟨m,hm⟩:=Qj e1
         have hml:m < j:=by
          have:=(Fo.mp hm).1
          rw[Ct] at this
          lia
         rw[List.getElem?_take_of_lt hml] at hm
         have h1:(AB.map (·.1))[m]? =some it.1:=by rw[CM,hm];rfl
         have h2:(AB.map (·.1))[j]? =some it.1:=by rw[CM,hj];rfl
         have:=AAF hnd h1 h2
         lia
      have UG:ns=pre++((i:Int)::CT (AB.take j))++(Qb it.2++(rr++post)):=by
       rw[hns,hsplit]
       simp[Ha]
      have NT:(pre++((i:Int)::CT (AB.take j))).length=pre.length+1+(CT (AB.take j)).length:=by
       rw[BZ,BO]
       lia
      have CJ:=hok it (G7 hj)
      refine⟨_,rfl,aL,_,rfl,.inr (hLs _),rfl,rfl,_,rfl,?_⟩
      show if (if false=true then !inV (.str it.1) Jq else inV (.str it.1) Jq)=true then _ else _
      rw[if_neg Bw]
      obtain⟨x1,x2⟩:=it
      cases x2 with
      | inl z=>
       have hz0:inV (.str x1) Jq=false:=CJ
       rw[hz0]
       have ZF:ns[pre.length+1+(CT (AB.take j)).length]? =some z:=by
        rw[UG,Ot (by rw[NT];exact Aj _),NT,Oz]
        rfl
       refine BJ ⟨_,rfl,_,rfl,a,_,_,_,rfl,rfl,Y0,at_of (j:=pre.length+1+(CT (AB.take j)).length) rfl (by rw[CM,ZF];rfl),_,rfl,_,rfl,nd,_,rfl,IX.k (k:=B7 x1) Lr (by lia),?_⟩
       refine⟨_,rfl,_,_,rfl,rfl,some (.str x1),z6,kvs++[(B7 x1,.int z)],?_,fun b o e=>?_,?_,?_⟩
       . have e1:(CT (AB.take (j+1))).length=(CT (AB.take j)).length+1:=by rw[henc,BZ];rfl
         rw[e1]
         have e2:V.int (((pre.length+1+(CT (AB.take j)).length:Nat):Int)+1)=nI (pre.length+1+((CT (AB.take j)).length+1)):=by unfold nI;congr 1
         rw[<-e2]
         rfl
       . rw[AV (BF e ZM)]
         exact s1 _ _ e
       . rw[AO,n9 _ hnew]
       . rw[DS]
         exact Paired.snoc ⟨rfl,rfl⟩ (Paired.Be hP fun kv it' h=>⟨h.1,by
          obtain⟨_,h2⟩:=h
          cases hi2:it'.2 with
          | inl z'=>rw[hi2] at h2;exact h2
          | inr l'=>
           rw[hi2] at h2
           obtain⟨pp,h3,h4⟩:=h2
           exact⟨pp,h3,by rw[AV (B9 h4 Lr (by intro e;cases e))];exact h4⟩⟩)
      | inr l=>
       have hz0:inV (.str x1) Jq=true:=CJ
       rw[hz0]
       have ZF:ns[pre.length+1+(CT (AB.take j)).length]? =some (l.length:Int):=by
        rw[UG,Ot (by rw[NT];exact Aj _),NT,Oz]
        rfl
       refine A9 ⟨_,rfl,_,_,rfl,rfl,?_⟩
       refine⟨_,rfl,_,rfl,_,rfl,a,_,_,_,rfl,rfl,Y0,at_of (j:=pre.length+1+(CT (AB.take j)).length) rfl (by rw[CM,ZF];rfl),_,_,rfl,rfl,?_⟩
       refine⟨_,rfl,_,rfl,_,rfl,_,rfl,_,rfl,a,_,rfl,Y0,fun r hr'=>?_⟩
       have YN:HD (ns.map V.int) (some (((pre.length+1+(CT (AB.take j)).length:Nat):Int)+1)) (some (((pre.length+1+(CT (AB.take j)).length:Nat):Int)+1+(l.length:Int)))=l.map V.int:=by
        have e1:((pre.length+1+(CT (AB.take j)).length:Nat):Int)+1=((pre.length+1+(CT (AB.take j)).length+1:Nat):Int):=by lia
        have e2:((pre.length+1+(CT (AB.take j)).length+1:Nat):Int)+(l.length:Int)=((pre.length+1+(CT (AB.take j)).length+1+l.length:Nat):Int):=by lia
        have hle:pre.length+1+(CT (AB.take j)).length+1+l.length<=ns.length:=by
         rw[UG,BZ,NT,BZ]
         show _<=_+((l.length+1)+_)
         lia
        unfold HD
        rw[e1,e2,HT.N2,HT.N2,AR,Ox hle,Ox (a:=pre.length+1+(CT (AB.take j)).length+1) (by lia),Nat.add_sub_cancel_left,<-Mh,<-XO]
        congr 1
        have hd:ns.drop (pre.length+1+(CT (AB.take j)).length+1)=l++(rr++post):=by
         have e3:ns=(pre++((i:Int)::CT (AB.take j))++[(l.length:Int)])++(l++(rr++post)):=by
          rw[UG]
          simp[Qb,Ha]
         rw[e3,List.drop_left' (by rw[BZ,NT];rfl)]
        rw[hd,List.take_left' rfl]
       rw[YN]
       have sr:Same H1 (upd H1 r (.lst (l.map V.int))):=Ao hr'
       have Bg:upd H1 r (.lst (l.map V.int)) r=some (.lst (l.map V.int)):=AO
       have hrnd:r≠nd:=fun z=>by rw[z,Lr] at hr';cases hr'
       generalize hH2:upd H1 r (.lst (l.map V.int))=H2 at sr Bg ⊢
       have hnd2:=sr _ _ Lr
       refine⟨_,rfl,_,rfl,nd,_,rfl,IX.k (k:=B7 x1) hnd2 (by lia),some (.str x1),some (V.int (((pre.length+1+(CT (AB.take j)).length:Nat):Int)+1)),kvs++[(B7 x1,.ref r)],?_,fun b o e=>?_,?_,?_⟩
       . have e1:(CT (AB.take (j+1))).length=(CT (AB.take j)).length+(l.length+1):=by rw[henc,BZ];rfl
         rw[e1]
         have e2:V.int (((pre.length+1+(CT (AB.take j)).length:Nat):Int)+1+(l.length:Int))=nI (pre.length+1+((CT (AB.take j)).length+(l.length+1))):=by unfold nI;congr 1;lia
         rw[<-e2]
         rfl
       . rw[AV (BF e ZM)]
         exact sr _ _ (s1 _ _ e)
       . rw[AO,n9 _ hnew]
       . rw[DS]
         exact Paired.snoc ⟨rfl,r,rfl,by rw[AV hrnd];exact Bg⟩ (Paired.Be hP fun kv it' h=>⟨h.1,by
          obtain⟨_,h2⟩:=h
          cases hi2:it'.2 with
          | inl z'=>rw[hi2] at h2;exact h2
          | inr l'=>
           rw[hi2] at h2
           obtain⟨pp,h3,h4⟩:=h2
           exact⟨pp,h3,by rw[AV (B9 h4 Lr (by intro e;cases e))];exact sr _ _ h4⟩⟩)
   . rintro σ H1 ⟨z5,z6,kvs,rfl,s1,Lr,hP⟩
     have DK:AB.take ((letters i).map V.str).length=AB:=DN (by rw[AR,hll];exact Aj _)
     rw[DK] at hP ⊢
     refine⟨_,rfl,_,rfl,_,rfl,?_⟩
     intro x dx nx ndx ne
     refine⟨x,dx,nd,(i:Int),_,rfl,AO,rfl,?_⟩
     rw[FQ]
     have s2:Same H1 (upd (upd H1 dx (.own x)) x (.ins CK dx (Lb (i:Int) nd (pre.length+1+(CT AB).length)))):=fun b o e=>by
      rw[AV (BF e nx),AV (BF e ndx)]
      exact e
     exact q _ x dx nd kvs (Same.trans (fun b o e=>s1 b o e) s2) AO ⟨s2 _ _ Lr,Paired.Be hP fun kv it h=>⟨h.1,h.2.same s2⟩,hnd⟩
end
def isI (AB:B1) (x:AG):Bool:=match A8 AB x with | some (.inl _)=>true | _=>false
def Nf (AB:B1) (x:AG):Bool:=match A8 AB x with | some (.inr _)=>true | _=>false
def Jn (AB:B1) (x:AG):Bool:=match A8 AB x with | none=>true | _=>false
theorem E7 {AB:B1} {x:AG} (h:isI AB x=true):∃z,A8 AB x=some (.inl z):=by
 unfold isI at h
 cases e:A8 AB x with
 | none=>rw[e] at h;cases h
 | some it=>cases it with
  | inl z=>exact⟨z,rfl⟩
  | inr l=>rw[e] at h;cases h
theorem lC {AB:B1} {x:AG} (h:Nf AB x=true):∃l,A8 AB x=some (.inr l):=by
 unfold Nf at h
 cases e:A8 AB x with
 | none=>rw[e] at h;cases h
 | some it=>cases it with
  | inl z=>rw[e] at h;cases h
  | inr l=>exact⟨l,rfl⟩
theorem Zi {AB:B1} {x:AG} (h:Jn AB x=true):A8 AB x=none:=by
 unfold Jn at h
 cases e:A8 AB x with
 | none=>rfl
 | some it=>rw[e] at h;cases h
def zU (AB:B1):Bool:=AB.all fun x=>match x.2 with | .inl _=>true | .inr _=>decide (x.1="shall")||decide (x.1="strokes")
def jT (AB:B1) (p:Int):Bool:=
 zU AB&&((Jn AB "b"||(isI AB "a"&&isI AB "b"))&&((Jn AB "shall"||(Nf AB "shall"&&(isI AB "a"&&isI AB "b")))&&((Jn AB "strokes"||(Nf AB "strokes"&&(isI AB "a"&&isI AB "b")))&&
 ((decide (¬(p=2\/p=3))||(isI AB "c"&&isI AB "d"))&&((decide (¬p=9)||isI AB "j")&&((Jn AB "n"||(isI AB "n"&&isI AB "c"))&&((Jn AB "t"||(isI AB "t"&&isI AB "c"))&&
 ((decide (¬p=2)||(isI AB "c"&&isI AB "i"))&&((decide (¬p=18)||(isI AB "c"&&(isI AB "k"&&(isI AB "m"&&isI AB "v"))))&&(decide (¬p=13)||(isI AB "c"&&(isI AB "k"&&(isI AB "a"&&(isI AB "b"&&Nf AB "shall"))))))))))))))
theorem Et {rg:AG->Option (Int×Int)} {AB:B1} {p:Int} (h:jT AB p=true) (h1:rg "shall"=none) (h2:rg "strokes"=none) (hl:∀x∈AB,∀l,x.2= .inr l->l.length<=1000):Sb rg AB p:=by
 unfold jT at h
 simp only[CB,Oc,decide_eq_true_eq] at h
 obtain⟨g1,g2,g3,g4,g5,g6,g7,g8,g9,vL,vM⟩:=h
 refine⟨fun x l hx=>?_,fun it hb=>?_,fun x hx it CJ=>?_,fun e=>?_,fun e=>?_,fun x hx it CJ=>?_,fun e=>?_,fun e=>?_,fun e=>?_⟩
 . obtain⟨i,hi⟩:=Qj hx
   have:=(MY.mp g1) _ (G7 hi)
   simp only[Oc,decide_eq_true_eq] at this
   rcases this with z | z
   . rw[z];exact h1
   . rw[z];exact h2
 . rcases g2 with z | ⟨z1,z2⟩
   . rw[Zi z] at hb;cases hb
   . obtain⟨a,ha⟩:=E7 z1
     obtain⟨b,hb'⟩:=E7 z2
     rw[hb'] at hb
     cases hb
     exact⟨a,b,ha,rfl⟩
 . have key:(Jn AB x=true\/(Nf AB x=true/\isI AB "a"=true/\isI AB "b"=true)):=by
    rcases hx with e | e
    . rw[e];exact g3
    . rw[e];exact g4
   rcases key with z | ⟨z1,z2,z3⟩
   . rw[Zi z] at CJ;cases CJ
   . obtain⟨l,hl'⟩:=lC z1
     obtain⟨a,ha⟩:=E7 z2
     obtain⟨b,hb⟩:=E7 z3
     have hit':=CJ
     rw[hl'] at CJ
     cases CJ
     obtain⟨i,hi⟩:=Qj hl'
     exact⟨l,a,b,rfl,hl _ (G7 hi) l rfl,ha,hb⟩
 . rcases g5 with z | ⟨z1,z2⟩
   . exact absurd e z
   . obtain⟨c,hc⟩:=E7 z1
     obtain⟨d,hd⟩:=E7 z2
     exact⟨c,d,hc,hd⟩
 . rcases g6 with z | z
   . exact absurd e z
   . exact E7 z
 . have key:(Jn AB x=true\/(isI AB x=true/\isI AB "c"=true)):=by
    rcases hx with e | e
    . rw[e];exact g7
    . rw[e];exact g8
   rcases key with z | ⟨z1,z2⟩
   . rw[Zi z] at CJ;cases CJ
   . obtain⟨v,hv⟩:=E7 z1
     obtain⟨c,hc⟩:=E7 z2
     rw[hv] at CJ
     cases CJ
     exact⟨v,c,rfl,hc⟩
 . rcases g9 with z | ⟨z1,z2⟩
   . exact absurd e z
   . obtain⟨c,hc⟩:=E7 z1
     obtain⟨d,hd⟩:=E7 z2
     exact⟨c,d,hc,hd⟩
 . rcases vL with z | ⟨z1,z2,z3,z4⟩
   . exact absurd e z
   . obtain⟨c,hc⟩:=E7 z1
     obtain⟨k,hk⟩:=E7 z2
     obtain⟨m,hm⟩:=E7 z3
     obtain⟨v,hv⟩:=E7 z4
     exact⟨c,k,m,v,hc,hk,hm,hv⟩
 . rcases vM with z | ⟨z1,z2,z3,z4,z5⟩
   . exact absurd e z
   . obtain⟨c,hc⟩:=E7 z1
     obtain⟨k,hk⟩:=E7 z2
     obtain⟨a,ha⟩:=E7 z3
     obtain⟨b,hb⟩:=E7 z4
     obtain⟨l,hl'⟩:=lC z5
     exact⟨c,k,a,b,l,hc,hk,ha,hb,hl'⟩
section
variable {rg:AG->Option (Int×Int)}
structure Cu (rg:AG->Option (Int×Int)):Prop where
 n:rg "n"=none
 t:rg "t"=none
 shall:rg "shall"=none
 strokes:rg "strokes"=none
theorem Bd {x:AG} {lo hi:Int} (h:rg x=some (lo,hi)) (z:Int):BH rg (x,.inl z)=Cb z lo hi:=by
 unfold BH
 simp only[h]
 rfl
theorem RJ {x:AG} (h:rg x=none) (z:Int):BH rg (x,.inl z)=true:=by
 unfold BH
 simp only[h]
end
structure EI (rg:AG->Option (Int×Int)) (W:Cl) (i:Nat) (AB:B1) (c:List (List Int)) (sp:Sp):Prop where
 no:∀s:BI,Cz rg s (i:Int) AB≠0->Cd s c=(s,[Cz rg s (i:Int) AB])
 yes:∀(s:BI),Cz rg s (i:Int) AB=0->∀(H:Hp) (d nd:AA) (kk:Dk) (kvs:List (Key×V)) (Q:VK),Bc W H d kk s->Ee H nd kvs AB->Ge W H d kk (Cd s c).1 (Cd s c).2 Q->sp [.ref d,.ref nd] H Q E0
theorem Ge.ans {W:Cl} {H:Hp} {d:AA} {kk:Dk} {s:BI} {ns:List Int} {Q:VK} (h:Bc W H d kk s) (q:Ge W H d kk s ns Q):Fj H d kk W s ns Q:=fun H' p s1 hp h1=>q H' kk p (h.same s1) (Mv.same s1) hp h1
theorem BM {AB:B1} {x:AG} {z lo hi:Int} (hx:A8 AB x=some (.inl z)) (h:Cb z lo hi=true) (hlo:0<=lo):Has AB x z.toNat:=⟨by
 unfold Cb at h
 simp only[CB,decide_eq_true_eq] at h
 rw[hx,JV (by lia)]⟩
theorem EB {z:Int} (h:A6 z=true):A7 z.toNat:=by
 unfold A6 Cb at h
 simp only[CB,decide_eq_true_eq] at h
 unfold A7
 lia
theorem L6 {a b:Int} (h:DV a b=true):Cb a 0 999999=true/\Cb b 1 1000000=true/\a < b:=by
 unfold DV at h
 simp only[CB,decide_eq_true_eq] at h
 exact⟨h.1,h.2.1,h.2.2⟩
theorem HG {z lo hi:Int} (h:Cb z lo hi=true) (hlo:0<=lo):0<=z/\z<=hi:=by
 unfold Cb at h
 simp only[CB,decide_eq_true_eq] at h
 lia
theorem Ey {rg:AG->Option (Int×Int)} {AB:B1} {s:BI} {p:Int} {A L B4 B3 B6 B5 B10 B11:Bool} (BQ:Dj rg AB=A) (hl:Hl AB=L) (h4:((p==2||p==3)&&intOf AB "c"==intOf AB "d")=B4) (h3:(p==9&&Lk s AB)=B3) (h6:NB s p=B6) (h5:HP s AB=B5) (h10:Ko s p AB=B10) (h11:Nj s p AB=B11):
 Cz rg s p AB=if A=false then -1 else if L=false then -2 else if B4=true then -4 else if B3=true then -3 else if B6=true then -6 else if B5=false then -5 else if B10=true then -10 else if B11=true then -11 else 0:=by
 subst BQ hl h4 h3 h6 h5 h10 h11
 rfl
theorem bl1 (A:Bool):((A&&true)&&true)=A:=by cases A <;> rfl
theorem bl2 (A B:Bool):((A&&(B&&true))&&true)=(A&&B):=by cases A <;> cases B <;> rfl
theorem Xy (A B C:Bool):((A&&(B&&(C&&true)))&&true)=(A&&(B&&C)):=by cases A <;> cases B <;> cases C <;> rfl
theorem rP (A B C:Bool):((A&&(true&&(B&&(C&&true))))&&true)=(A&&(B&&C)):=by cases A <;> cases B <;> cases C <;> rfl
theorem Xz (A B C D:Bool):((A&&(B&&(C&&(D&&true))))&&true)=(A&&(B&&(C&&D))):=by cases A <;> cases B <;> cases C <;> cases D <;> rfl
theorem rY (A B C D E F:Bool):((A&&(B&&(C&&(D&&(E&&true)))))&&F)=(A&&(B&&((C&&(D&&F))&&E))):=by cases A <;> cases B <;> cases C <;> cases D <;> cases E <;> cases F <;> rfl
theorem rW (A B C D F:Bool):((A&&(true&&(B&&(C&&(D&&true)))))&&F)=(A&&(B&&(C&&(D&&F)))):=by cases A <;> cases B <;> cases C <;> cases D <;> cases F <;> rfl
theorem rX (A B C D F:Bool):((A&&(true&&(true&&(B&&(C&&(D&&true))))))&&F)=(A&&(B&&(C&&(D&&F)))):=by cases A <;> cases B <;> cases C <;> cases D <;> cases F <;> rfl
theorem gq (A B C D F:Bool):((A&&(B&&(C&&(D&&(true&&true)))))&&F)=(A&&(B&&(C&&(D&&F)))):=by cases A <;> cases B <;> cases C <;> cases D <;> cases F <;> rfl
theorem rh (A B C D E F:Bool):((A&&(true&&(B&&(C&&(D&&(E&&true))))))&&F)=(A&&(B&&((C&&(D&&F))&&E))):=by cases A <;> cases B <;> cases C <;> cases D <;> cases E <;> cases F <;> rfl
theorem rZ (A B C D E F:Bool):((A&&(B&&(C&&(D&&(E&&true)))))&&F)=(A&&(B&&(C&&(D&&(E&&F))))):=by cases A <;> cases B <;> cases C <;> cases D <;> cases E <;> cases F <;> rfl
section
variable {rg:AG->Option (Int×Int)} {W:Cl}
theorem AB1:EI rg W 0 [] [[0]] (WD W):=by
 have Bj:∀s,Cz rg s ((0:Nat):Int) []=0:=fun s=>(Ey (A:=true) rfl rfl rfl rfl rfl rfl rfl rfl).trans rfl
 exact⟨fun s h=>absurd (Bj s) h,fun s _ H d nd kk kvs Q hD hn q=>⟨d,nd,kk,s,rfl,hD,q⟩⟩
theorem AB2 (R:CQ rg) (x0 x1 x2 x3 x4:Int):EI rg W 1 [("c",.inl x0),("k",.inl x1),("a",.inl x2),("b",.inl x3),("v",.inl x4)] [[1,x0,x1,x2,x3,x4]] (Wf W):=by
 have BQ:Dj rg [("c",.inl x0),("k",.inl x1),("a",.inl x2),("b",.inl x3),("v",.inl x4)]=(A6 x0&&(Bx x1&&(DV x2 x3&&EK x4))):=by
  show ((BH rg ("c",.inl x0)&&(BH rg ("k",.inl x1)&&(BH rg ("a",.inl x2)&&(BH rg ("b",.inl x3)&&(BH rg ("v",.inl x4)&&true)))))&&decide (x2 < x3))=_
  rw[Bd R.c,Bd R.k,Bd R.a,Bd R.b,Bd R.v]
  exact rY _ _ _ _ _ _
 have Bj:∀s,Cz rg s ((1:Nat):Int) [("c",.inl x0),("k",.inl x1),("a",.inl x2),("b",.inl x3),("v",.inl x4)]=if (A6 x0&&(Bx x1&&(DV x2 x3&&EK x4)))=false then -1 else if decide (60<=Fb s)=true then -6 else 0:=fun s=>by
  rw[Ey (L:=true) (B4:=false) (B3:=false) (B6:=decide (60<=Fb s)) (B5:=true) (B10:=false) (B11:=false) BQ rfl rfl rfl rfl rfl rfl rfl]
  simp only[reduceIte,E9,Cg]
 have BG:∀s,Cd s [[1,x0,x1,x2,x3,x4]]=if (A6 x0&&(Bx x1&&(DV x2 x3&&EK x4)))=false then Cj s [-1] else if 60<=Fb s then Cj s [-6] else (Vm.wrote s x0.toNat x1.toNat x2.toNat x3.toNat x4.toNat,[0,(((CZ s x0.toNat).clock+1:Nat):Int),(((Vm.got s x0.toNat).length+1:Nat):Int)]):=fun s=>rfl
 refine⟨fun s h=>?_,fun s h H d nd kk kvs Q hD hn q=>?_⟩
 . rw[Bj] at h ⊢
   rw[BG]
   by_cases h1:(A6 x0&&(Bx x1&&(DV x2 x3&&EK x4)))=false
   . rw[if_pos h1,if_pos h1];rfl
   . rw[if_neg h1] at h ⊢
     rw[if_neg h1]
     by_cases h2:60<=Fb s
     . rw[if_pos h2,if_pos (decide_eq_true h2)];rfl
     . rw[if_neg (by rw[decide_eq_false h2];decide)] at h
       exact absurd rfl h
 . rw[Bj] at h
   by_cases h1:(A6 x0&&(Bx x1&&(DV x2 x3&&EK x4)))=false
   . rw[if_pos h1] at h;exact absurd h (by decide)
   . rw[if_neg h1] at h
     by_cases h2:60<=Fb s
     . rw[if_pos (decide_eq_true h2)] at h;exact absurd h (by decide)
     . rw[BG,if_neg h1,if_neg h2] at q
       have hb:=(LB _).mp h1
       simp only[CB] at hb
       obtain⟨b0,b1,b2,b4⟩:=hb
       obtain⟨w1,w2,w3⟩:=L6 b2
       have n2:=HG w1 (by decide)
       have n3:=HG w2 (by decide)
       exact⟨d,nd,kk,s,kvs,x0.toNat,x1.toNat,x2.toNat,x3.toNat,x4.toNat,rfl,hD,hn.at_,EB b0,(BM rfl b0 (by decide)).num hn,(BM rfl b1 (by decide)).num hn,(BM rfl w1 (by decide)).num hn,(BM rfl w2 (by decide)).num hn,(BM rfl b4 (by decide)).num hn,by lia,by lia,by lia,q⟩
theorem ACD (R:CQ rg) (x0 x1 x2:Int):EI rg W 2 [("c",.inl x0),("d",.inl x1),("i",.inl x2)] [[2,x0,x1,x2]] (WR W):=by
 have BQ:Dj rg [("c",.inl x0),("d",.inl x1),("i",.inl x2)]=(A6 x0&&(A6 x1&&Cb x2 0 1000000000)):=by
  show ((BH rg ("c",.inl x0)&&(BH rg ("d",.inl x1)&&(BH rg ("i",.inl x2)&&true)))&&true)=_
  rw[Bd R.c,Bd R.d,Bd R.i]
  exact Xy _ _ _
 have Bj:∀s,Cz rg s ((2:Nat):Int) [("c",.inl x0),("d",.inl x1),("i",.inl x2)]=if (A6 x0&&(A6 x1&&Cb x2 0 1000000000))=false then -1 else if (x0==x1)=true then -4 else if decide (((Vm.got s x0.toNat).length:Int)<=x2)=true then -10 else 0:=fun s=>by
  rw[Ey (L:=true) (B4:=(x0==x1)) (B3:=false) (B6:=false) (B5:=true) (B10:=decide (((Vm.got s x0.toNat).length:Int)<=x2)) (B11:=false) BQ rfl rfl rfl rfl rfl rfl rfl]
  simp only[reduceIte,E9,Cg]
 have BG:∀s,Cd s [[2,x0,x1,x2]]=if (A6 x0&&(A6 x1&&Cb x2 0 1000000000))=false then Cj s [-1] else if x0=x1 then Cj s [-4] else (match (Vm.got s x0.toNat)[x2.toNat]? with
  | none=>Cj s [-10]
  | some e=>(Hy s x1.toNat (FD (CZ s x1.toNat) e),[0,if Dy (Vm.got s x1.toNat) e=true then 0 else 1])):=fun s=>rfl
 refine⟨fun s h=>?_,fun s h H d nd kk kvs Q hD hn q=>?_⟩
 . rw[Bj] at h ⊢
   rw[BG]
   by_cases h1:(A6 x0&&(A6 x1&&Cb x2 0 1000000000))=false
   . rw[if_pos h1,if_pos h1];rfl
   . rw[if_neg h1] at h ⊢
     rw[if_neg h1]
     have hb:=(LB _).mp h1
     simp only[CB] at hb
     have n2:=HG hb.2.2 (by decide)
     by_cases h2:x0=x1
     . rw[if_pos h2,if_pos (beq_iff_eq.mpr h2)];rfl
     . have h2':¬(x0==x1)=true:=fun z=>h2 (beq_iff_eq.mp z)
       rw[if_neg h2'] at h ⊢
       rw[if_neg h2]
       by_cases h3:((Vm.got s x0.toNat).length:Int)<=x2
       . rw[if_pos (decide_eq_true h3),List.getElem?_eq_none_iff.mpr (by lia)];rfl
       . rw[if_neg (by rw[decide_eq_false h3];decide)] at h
         exact absurd rfl h
 . rw[Bj] at h
   by_cases h1:(A6 x0&&(A6 x1&&Cb x2 0 1000000000))=false
   . rw[if_pos h1] at h;exact absurd h (by decide)
   . rw[if_neg h1] at h
     have hb:=(LB _).mp h1
     simp only[CB] at hb
     obtain⟨b0,b1,b2⟩:=hb
     have n2:=HG b2 (by decide)
     by_cases h2:x0=x1
     . rw[if_pos (beq_iff_eq.mpr h2)] at h;exact absurd h (by decide)
     . rw[if_neg (fun z=>h2 (beq_iff_eq.mp z))] at h
       by_cases h3:((Vm.got s x0.toNat).length:Int)<=x2
       . rw[if_pos (decide_eq_true h3)] at h;exact absurd h (by decide)
       . have A1:x2.toNat < (Vm.got s x0.toNat).length:=by lia
         rw[BG,if_neg h1,if_neg h2,DU A1] at q
         exact⟨d,nd,kk,s,kvs,x0.toNat,x1.toNat,x2.toNat,(Vm.got s x0.toNat)[x2.toNat],rfl,hD,hn.at_,EB b0,EB b1,(BM rfl b0 (by decide)).num hn,(BM rfl b1 (by decide)).num hn,(BM rfl b2 (by decide)).num hn,DU A1,q⟩
theorem ACE (R:CQ rg) (x0 x1:Int):EI rg W 3 [("c",.inl x0),("d",.inl x1)] [[3,x0,x1]] (Wb W):=by
 have BQ:Dj rg [("c",.inl x0),("d",.inl x1)]=(A6 x0&&A6 x1):=by
  show ((BH rg ("c",.inl x0)&&(BH rg ("d",.inl x1)&&true))&&true)=_
  rw[Bd R.c,Bd R.d]
  exact bl2 _ _
 have Bj:∀s,Cz rg s ((3:Nat):Int) [("c",.inl x0),("d",.inl x1)]=if (A6 x0&&A6 x1)=false then -1 else if (x0==x1)=true then -4 else 0:=fun s=>by
  rw[Ey (L:=true) (B4:=(x0==x1)) (B3:=false) (B6:=false) (B5:=true) (B10:=false) (B11:=false) BQ rfl rfl rfl rfl rfl rfl rfl]
  simp only[reduceIte,E9,Cg]
 have BG:∀s,Cd s [[3,x0,x1]]=if (A6 x0&&A6 x1)=false then Cj s [-1] else if x0=x1 then Cj s [-4] else (Hy s x1.toNat (synced s x0.toNat x1.toNat),[0,(((synced s x0.toNat x1.toNat).got.length - (Vm.got s x1.toNat).length:Nat):Int)]):=fun s=>rfl
 refine⟨fun s h=>?_,fun s h H d nd kk kvs Q hD hn q=>?_⟩
 . rw[Bj] at h ⊢
   rw[BG]
   by_cases h1:(A6 x0&&A6 x1)=false
   . rw[if_pos h1,if_pos h1];rfl
   . rw[if_neg h1] at h ⊢
     rw[if_neg h1]
     by_cases h2:x0=x1
     . rw[if_pos h2,if_pos (beq_iff_eq.mpr h2)];rfl
     . rw[if_neg (fun z=>h2 (beq_iff_eq.mp z))] at h
       exact absurd rfl h
 . rw[Bj] at h
   by_cases h1:(A6 x0&&A6 x1)=false
   . rw[if_pos h1] at h;exact absurd h (by decide)
   . rw[if_neg h1] at h
     have hb:=(LB _).mp h1
     simp only[CB] at hb
     obtain⟨b0,b1⟩:=hb
     by_cases h2:x0=x1
     . rw[if_pos (beq_iff_eq.mpr h2)] at h;exact absurd h (by decide)
     . rw[BG,if_neg h1,if_neg h2] at q
       have n0:=HG b0 (by decide)
       have n1:=HG b1 (by decide)
       exact⟨d,nd,kk,s,kvs,x0.toNat,x1.toNat,rfl,hD,hn.at_,EB b0,EB b1,by lia,(BM rfl b0 (by decide)).num hn,(BM rfl b1 (by decide)).num hn,q⟩
theorem Jo {b:Bool} {r:Int} (hr:r≠0) (h:(if b=false then r else 0)=0):b=true:=by
 cases b with
 | true=>rfl
 | false=>exact absurd h hr
theorem J3 {b:Bool} {s:BI} {r:Int} {x:BI×List Int} (h:(if b=false then r else 0)≠0):(if b=false then Cj s [r] else x)=(s,[if b=false then r else 0]):=by
 cases b with
 | true=>exact absurd rfl h
 | false=>rfl
theorem UT {b c:Bool} {r t:Int} (hr:r≠0) (ht:t≠0) (h:(if b=false then r else if c=false then t else 0)=0):b=true/\c=true:=by
 cases b with
 | true=>exact⟨rfl,Jo ht h⟩
 | false=>exact absurd h hr
theorem Wi {b c:Bool} {s:BI} {r t:Int} {x:BI×List Int} (h:(if b=false then r else if c=false then t else 0)≠0):(if b=false then Cj s [r] else if c=false then Cj s [t] else x)=(s,[if b=false then r else if c=false then t else 0]):=by
 cases b with
 | true=>exact J3 h
 | false=>rfl
theorem ACF (R:CQ rg) (N:Cu rg) (x0 x1 x2:Int):EI rg W 4 [("c",.inl x0),("k",.inl x1),("m",.inl x2)] [[4,x0,x1,x2]] (WW W):=by
 have BQ:Dj rg [("c",.inl x0),("k",.inl x1),("m",.inl x2)]=(A6 x0&&(Bx x1&&Ei x2)):=by
  show ((BH rg ("c",.inl x0)&&(BH rg ("k",.inl x1)&&(BH rg ("m",.inl x2)&&true)))&&true)=_
  rw[Bd R.c,Bd R.k,Bd R.m]
  exact Xy _ _ _
 have Bj:∀s,Cz rg s ((4:Nat):Int) [("c",.inl x0),("k",.inl x1),("m",.inl x2)]=if (A6 x0&&(Bx x1&&Ei x2))=false then -1 else 0:=fun s=>by
  rw[Ey (L:=true) (B4:=false) (B3:=false) (B6:=false) (B5:=true) (B10:=false) (B11:=false) BQ rfl rfl rfl rfl rfl rfl rfl]
  simp only[reduceIte,E9,Cg]
 have BG:∀s,Cd s [[4,x0,x1,x2]]=if (A6 x0&&(Bx x1&&Ei x2))=false then Cj s [-1] else (s,Mt (F7 (Vm.got s x0.toNat) x1.toNat x2.toNat)):=fun s=>rfl
 refine⟨fun s h=>?_,fun s h H d nd kk kvs Q hD hn q=>?_⟩
 . rw[Bj] at h ⊢
   rw[BG]
   exact J3 h
 . rw[Bj] at h
   have hb:=Jo (by decide) h
   rw[BG,if_neg (by rw[hb];decide)] at q
   simp only[CB] at hb
   obtain⟨b0,b1,b2⟩:=hb
   exact⟨d,nd,kk,s,kvs,x0.toNat,x1.toNat,x2.toNat,rfl,hD,hn.at_,EB b0,(BM rfl b0 (by decide)).num hn,(BM rfl b1 (by decide)).num hn,(BM rfl b2 (by decide)).num hn,q.ans hD⟩
theorem ACI (R:CQ rg) (N:Cu rg) (x0 x1 x2:Int):EI rg W 7 [("c",.inl x0),("k",.inl x1),("m",.inl x2)] [[7,x0,x1,x2]] (WZ W):=by
 have BQ:Dj rg [("c",.inl x0),("k",.inl x1),("m",.inl x2)]=(A6 x0&&(Bx x1&&Ei x2)):=by
  show ((BH rg ("c",.inl x0)&&(BH rg ("k",.inl x1)&&(BH rg ("m",.inl x2)&&true)))&&true)=_
  rw[Bd R.c,Bd R.k,Bd R.m]
  exact Xy _ _ _
 have Bj:∀s,Cz rg s ((7:Nat):Int) [("c",.inl x0),("k",.inl x1),("m",.inl x2)]=if (A6 x0&&(Bx x1&&Ei x2))=false then -1 else 0:=fun s=>by
  rw[Ey (L:=true) (B4:=false) (B3:=false) (B6:=false) (B5:=true) (B10:=false) (B11:=false) BQ rfl rfl rfl rfl rfl rfl rfl]
  simp only[reduceIte,E9,Cg]
 have BG:∀s,Cd s [[7,x0,x1,x2]]=if (A6 x0&&(Bx x1&&Ei x2))=false then Cj s [-1] else (s,bu s x0.toNat x1.toNat x2.toNat):=fun s=>rfl
 refine⟨fun s h=>?_,fun s h H d nd kk kvs Q hD hn q=>?_⟩
 . rw[Bj] at h ⊢
   rw[BG]
   exact J3 h
 . rw[Bj] at h
   have hb:=Jo (by decide) h
   rw[BG,if_neg (by rw[hb];decide)] at q
   simp only[CB] at hb
   obtain⟨b0,b1,b2⟩:=hb
   exact⟨d,nd,kk,s,kvs,x0.toNat,x1.toNat,x2.toNat,rfl,hD,hn.at_,EB b0,(BM rfl b0 (by decide)).num hn,(BM rfl b1 (by decide)).num hn,(BM rfl b2 (by decide)).num hn,q.ans hD⟩
theorem AB3 (R:CQ rg) (N:Cu rg) (x0:Int):EI rg W 10 [("c",.inl x0)] [[10,x0]] (Wg W):=by
 have BQ:Dj rg [("c",.inl x0)]=A6 x0:=by
  show ((BH rg ("c",.inl x0)&&true)&&true)=_
  rw[Bd R.c]
  exact bl1 _
 have Bj:∀s,Cz rg s ((10:Nat):Int) [("c",.inl x0)]=if A6 x0=false then -1 else 0:=fun s=>by
  rw[Ey (L:=true) (B4:=false) (B3:=false) (B6:=false) (B5:=true) (B10:=false) (B11:=false) BQ rfl rfl rfl rfl rfl rfl rfl]
  simp only[reduceIte,E9,Cg]
 have BG:∀s,Cd s [[10,x0]]=if A6 x0=false then Cj s [-1] else (s,((OY s x0.toNat).length:Int)::((OY s x0.toNat).map fun p=>[(p.1:Int),(p.2.1:Int),(p.2.2:Int)]).flatten):=fun s=>rfl
 refine⟨fun s h=>?_,fun s h H d nd kk kvs Q hD hn q=>?_⟩
 . rw[Bj] at h ⊢
   rw[BG]
   exact J3 h
 . rw[Bj] at h
   have hb:=Jo (by decide) h
   rw[BG,if_neg (by rw[hb];decide)] at q
   have b0:=hb
   exact⟨d,nd,kk,s,kvs,x0.toNat,rfl,hD,hn.at_,EB b0,(BM rfl b0 (by decide)).num hn,hD.good.dec,q.ans hD⟩
theorem AB4 (R:CQ rg) (N:Cu rg) (x0 x1:Int):EI rg W 11 [("c",.inl x0),("d",.inl x1)] [[11,x0,x1]] (Wd W):=by
 have BQ:Dj rg [("c",.inl x0),("d",.inl x1)]=(A6 x0&&A6 x1):=by
  show ((BH rg ("c",.inl x0)&&(BH rg ("d",.inl x1)&&true))&&true)=_
  rw[Bd R.c,Bd R.d]
  exact bl2 _ _
 have Bj:∀s,Cz rg s ((11:Nat):Int) [("c",.inl x0),("d",.inl x1)]=if (A6 x0&&A6 x1)=false then -1 else 0:=fun s=>by
  rw[Ey (L:=true) (B4:=false) (B3:=false) (B6:=false) (B5:=true) (B10:=false) (B11:=false) BQ rfl rfl rfl rfl rfl rfl rfl]
  simp only[reduceIte,E9,Cg]
 have BG:∀s,Cd s [[11,x0,x1]]=if (A6 x0&&A6 x1)=false then Cj s [-1] else (s,[(((Vm.got s x0.toNat).filter fun x=> !Dy (Vm.got s x1.toNat) x).length:Int),(((Vm.got s x1.toNat).filter fun x=> !Dy (Vm.got s x0.toNat) x).length:Int)]):=fun s=>rfl
 refine⟨fun s h=>?_,fun s h H d nd kk kvs Q hD hn q=>?_⟩
 . rw[Bj] at h ⊢
   rw[BG]
   exact J3 h
 . rw[Bj] at h
   have hb:=Jo (by decide) h
   rw[BG,if_neg (by rw[hb];decide)] at q
   simp only[CB] at hb
   obtain⟨b0,b1⟩:=hb
   exact⟨d,nd,kk,s,kvs,x0.toNat,x1.toNat,rfl,hD,hn.at_,EB b0,EB b1,(BM rfl b0 (by decide)).num hn,(BM rfl b1 (by decide)).num hn,q.ans hD⟩
theorem AB5 (R:CQ rg) (N:Cu rg) (x0:Int):EI rg W 12 [("c",.inl x0)] [[12,x0]] (V7 W):=by
 have BQ:Dj rg [("c",.inl x0)]=A6 x0:=by
  show ((BH rg ("c",.inl x0)&&true)&&true)=_
  rw[Bd R.c]
  exact bl1 _
 have Bj:∀s,Cz rg s ((12:Nat):Int) [("c",.inl x0)]=if A6 x0=false then -1 else 0:=fun s=>by
  rw[Ey (L:=true) (B4:=false) (B3:=false) (B6:=false) (B5:=true) (B10:=false) (B11:=false) BQ rfl rfl rfl rfl rfl rfl rfl]
  simp only[reduceIte,E9,Cg]
 have BG:∀s,Cd s [[12,x0]]=if A6 x0=false then Cj s [-1] else (s,((CZ s x0.toNat).clock:Int)::((Vm.got s x0.toNat).length:Int)::(Vm.got s x0.toNat).flatMap La):=fun s=>rfl
 refine⟨fun s h=>?_,fun s h H d nd kk kvs Q hD hn q=>?_⟩
 . rw[Bj] at h ⊢
   rw[BG]
   exact J3 h
 . rw[Bj] at h
   have hb:=Jo (by decide) h
   rw[BG,if_neg (by rw[hb];decide)] at q
   have b0:=hb
   exact⟨d,nd,kk,s,kvs,x0.toNat,rfl,hD,hn.at_,EB b0,(BM rfl b0 (by decide)).num hn,q.ans hD⟩
theorem AB9 (R:CQ rg) (N:Cu rg) (x0 x1 x2 x3 x4:Int):EI rg W 16 [("c",.inl x0),("d",.inl x1),("k",.inl x2),("a",.inl x3),("b",.inl x4)] [[16,x0,x1,x2,x3,x4]] (WL W):=by
 have BQ:Dj rg [("c",.inl x0),("d",.inl x1),("k",.inl x2),("a",.inl x3),("b",.inl x4)]=(A6 x0&&(A6 x1&&(Bx x2&&DV x3 x4))):=by
  show ((BH rg ("c",.inl x0)&&(BH rg ("d",.inl x1)&&(BH rg ("k",.inl x2)&&(BH rg ("a",.inl x3)&&(BH rg ("b",.inl x4)&&true)))))&&decide (x3 < x4))=_
  rw[Bd R.c,Bd R.d,Bd R.k,Bd R.a,Bd R.b]
  exact rZ _ _ _ _ _ _
 have Bj:∀s,Cz rg s ((16:Nat):Int) [("c",.inl x0),("d",.inl x1),("k",.inl x2),("a",.inl x3),("b",.inl x4)]=if (A6 x0&&(A6 x1&&(Bx x2&&DV x3 x4)))=false then -1 else 0:=fun s=>by
  rw[Ey (L:=true) (B4:=false) (B3:=false) (B6:=false) (B5:=true) (B10:=false) (B11:=false) BQ rfl rfl rfl rfl rfl rfl rfl]
  simp only[reduceIte,E9,Cg]
 have BG:∀s,Cd s [[16,x0,x1,x2,x3,x4]]=if (A6 x0&&(A6 x1&&(Bx x2&&DV x3 x4)))=false then Cj s [-1] else (s,Mr (LZ (Vm.got s x0.toNat) (Vm.got s x1.toNat) x2.toNat x3.toNat x4.toNat)):=fun s=>rfl
 refine⟨fun s h=>?_,fun s h H d nd kk kvs Q hD hn q=>?_⟩
 . rw[Bj] at h ⊢
   rw[BG]
   exact J3 h
 . rw[Bj] at h
   have hb:=Jo (by decide) h
   rw[BG,if_neg (by rw[hb];decide)] at q
   simp only[CB] at hb
   obtain⟨b0,b1,b2,b3⟩:=hb
   obtain⟨w1,w2,w3⟩:=L6 b3
   have n3:=HG w1 (by decide)
   exact⟨d,nd,kk,s,kvs,x0.toNat,x1.toNat,x2.toNat,x3.toNat,x4.toNat,rfl,hD,hn.at_,EB b0,EB b1,(BM rfl b0 (by decide)).num hn,(BM rfl b1 (by decide)).num hn,(BM rfl b2 (by decide)).num hn,(BM rfl w1 (by decide)).num hn,(BM rfl w2 (by decide)).num hn,by lia,q.ans hD⟩
theorem ACA (R:CQ rg) (N:Cu rg) (x0:Int):EI rg W 17 [("c",.inl x0)] [[17,x0]] (WT W):=by
 have BQ:Dj rg [("c",.inl x0)]=A6 x0:=by
  show ((BH rg ("c",.inl x0)&&true)&&true)=_
  rw[Bd R.c]
  exact bl1 _
 have Bj:∀s,Cz rg s ((17:Nat):Int) [("c",.inl x0)]=if A6 x0=false then -1 else 0:=fun s=>by
  rw[Ey (L:=true) (B4:=false) (B3:=false) (B6:=false) (B5:=true) (B10:=false) (B11:=false) BQ rfl rfl rfl rfl rfl rfl rfl]
  simp only[reduceIte,E9,Cg]
 have BG:∀s,Cd s [[17,x0]]=if A6 x0=false then Cj s [-1] else (s,(((Vm.got s x0.toNat).filter (Ik (Vm.got s x0.toNat))).length:Int)::(((Vm.got s x0.toNat).filter (Ik (Vm.got s x0.toNat))).map stI).flatten):=fun s=>rfl
 refine⟨fun s h=>?_,fun s h H d nd kk kvs Q hD hn q=>?_⟩
 . rw[Bj] at h ⊢
   rw[BG]
   exact J3 h
 . rw[Bj] at h
   have hb:=Jo (by decide) h
   rw[BG,if_neg (by rw[hb];decide)] at q
   have b0:=hb
   exact⟨d,nd,kk,s,kvs,x0.toNat,rfl,hD,hn.at_,EB b0,(BM rfl b0 (by decide)).num hn,q.ans hD⟩
theorem ACC (R:CQ rg) (N:Cu rg) (x0 x1 x2 x3:Int):EI rg W 19 [("c",.inl x0),("clock",.inl x1),("k",.inl x2),("m",.inl x3)] [[19,x0,x1,x2,x3]] (WB W):=by
 have BQ:Dj rg [("c",.inl x0),("clock",.inl x1),("k",.inl x2),("m",.inl x3)]=(A6 x0&&(Cb x1 0 1000000000&&(Bx x2&&Ei x3))):=by
  show ((BH rg ("c",.inl x0)&&(BH rg ("clock",.inl x1)&&(BH rg ("k",.inl x2)&&(BH rg ("m",.inl x3)&&true))))&&true)=_
  rw[Bd R.c,Bd R.clock,Bd R.k,Bd R.m]
  exact Xz _ _ _ _
 have Bj:∀s,Cz rg s ((19:Nat):Int) [("c",.inl x0),("clock",.inl x1),("k",.inl x2),("m",.inl x3)]=if (A6 x0&&(Cb x1 0 1000000000&&(Bx x2&&Ei x3)))=false then -1 else 0:=fun s=>by
  rw[Ey (L:=true) (B4:=false) (B3:=false) (B6:=false) (B5:=true) (B10:=false) (B11:=false) BQ rfl rfl rfl rfl rfl rfl rfl]
  simp only[reduceIte,E9,Cg]
 have BG:∀s,Cd s [[19,x0,x1,x2,x3]]=if (A6 x0&&(Cb x1 0 1000000000&&(Bx x2&&Ei x3)))=false then Cj s [-1] else (s,Mt (F7 ((Vm.got s x0.toNat).filter fun e=>decide (e.clock<=x1.toNat)) x2.toNat x3.toNat)):=fun s=>rfl
 refine⟨fun s h=>?_,fun s h H d nd kk kvs Q hD hn q=>?_⟩
 . rw[Bj] at h ⊢
   rw[BG]
   exact J3 h
 . rw[Bj] at h
   have hb:=Jo (by decide) h
   rw[BG,if_neg (by rw[hb];decide)] at q
   simp only[CB] at hb
   obtain⟨b0,b1,b2,b3⟩:=hb
   exact⟨d,nd,kk,s,kvs,x0.toNat,x1.toNat,x2.toNat,x3.toNat,rfl,hD,hn.at_,EB b0,(BM rfl b0 (by decide)).num hn,(BM rfl b1 (by decide)).num hn,(BM rfl b2 (by decide)).num hn,(BM rfl b3 (by decide)).num hn,q.ans hD⟩
theorem ACG (R:CQ rg) (N:Cu rg) (x0 x1 x2 x3:Int):EI rg W 5 [("c",.inl x0),("n",.inl x1),("k",.inl x2),("m",.inl x3)] [[5,x0,x1,x2,x3]] (WV W):=by
 have BQ:Dj rg [("c",.inl x0),("n",.inl x1),("k",.inl x2),("m",.inl x3)]=(A6 x0&&(Bx x2&&Ei x3)):=by
  show ((BH rg ("c",.inl x0)&&(BH rg ("n",.inl x1)&&(BH rg ("k",.inl x2)&&(BH rg ("m",.inl x3)&&true))))&&true)=_
  rw[Bd R.c,RJ N.n,Bd R.k,Bd R.m]
  exact rP _ _ _
 have ht:∀s,HP s [("c",.inl x0),("n",.inl x1),("k",.inl x2),("m",.inl x3)]=Cb x1 0 ((Vm.got s x0.toNat).length:Int):=fun s=>W5 _
 have Bj:∀s,Cz rg s ((5:Nat):Int) [("c",.inl x0),("n",.inl x1),("k",.inl x2),("m",.inl x3)]=if (A6 x0&&(Bx x2&&Ei x3))=false then -1 else if Cb x1 0 ((Vm.got s x0.toNat).length:Int)=false then -5 else 0:=fun s=>by
  rw[Ey (L:=true) (B4:=false) (B3:=false) (B6:=false) (B10:=false) (B11:=false) BQ rfl rfl rfl rfl (ht s) rfl rfl]
  simp only[reduceIte,E9,Cg]
 have BG:∀s,Cd s [[5,x0,x1,x2,x3]]=if (A6 x0&&(Bx x2&&Ei x3))=false then Cj s [-1] else if Cb x1 0 ((Vm.got s x0.toNat).length:Int)=false then Cj s [-5] else (s,Mt (F7 ((Vm.got s x0.toNat).take x1.toNat) x2.toNat x3.toNat)):=fun s=>rfl
 refine⟨fun s h=>?_,fun s h H d nd kk kvs Q hD hn q=>?_⟩
 . rw[Bj] at h ⊢
   rw[BG]
   exact Wi h
 . rw[Bj] at h
   obtain⟨hb,hb2⟩:=UT (by decide) (by decide) h
   rw[BG,if_neg (by rw[hb];decide),if_neg (by rw[hb2];decide)] at q
   simp only[CB] at hb
   obtain⟨b0,b2,b3⟩:=hb
   exact⟨d,nd,kk,s,kvs,x0.toNat,x1.toNat,x2.toNat,x3.toNat,rfl,hD,hn.at_,EB b0,(BM rfl b0 (by decide)).num hn,(BM rfl hb2 (by decide)).num hn,(BM rfl b2 (by decide)).num hn,(BM rfl b3 (by decide)).num hn,q.ans hD⟩
theorem ACH (R:CQ rg) (N:Cu rg) (x0 x1 x2 x3 x4:Int):EI rg W 6 [("c",.inl x0),("n",.inl x1),("k",.inl x2),("a",.inl x3),("b",.inl x4)] [[6,x0,x1,x2,x3,x4]] (WX W):=by
 have BQ:Dj rg [("c",.inl x0),("n",.inl x1),("k",.inl x2),("a",.inl x3),("b",.inl x4)]=(A6 x0&&(Bx x2&&DV x3 x4)):=by
  show ((BH rg ("c",.inl x0)&&(BH rg ("n",.inl x1)&&(BH rg ("k",.inl x2)&&(BH rg ("a",.inl x3)&&(BH rg ("b",.inl x4)&&true)))))&&decide (x3 < x4))=_
  rw[Bd R.c,RJ N.n,Bd R.k,Bd R.a,Bd R.b]
  exact rW _ _ _ _ _
 have ht:∀s,HP s [("c",.inl x0),("n",.inl x1),("k",.inl x2),("a",.inl x3),("b",.inl x4)]=Cb x1 0 ((Vm.got s x0.toNat).length:Int):=fun s=>W5 _
 have Bj:∀s,Cz rg s ((6:Nat):Int) [("c",.inl x0),("n",.inl x1),("k",.inl x2),("a",.inl x3),("b",.inl x4)]=if (A6 x0&&(Bx x2&&DV x3 x4))=false then -1 else if Cb x1 0 ((Vm.got s x0.toNat).length:Int)=false then -5 else 0:=fun s=>by
  rw[Ey (L:=true) (B4:=false) (B3:=false) (B6:=false) (B10:=false) (B11:=false) BQ rfl rfl rfl rfl (ht s) rfl rfl]
  simp only[reduceIte,E9,Cg]
 have BG:∀s,Cd s [[6,x0,x1,x2,x3,x4]]=if (A6 x0&&(Bx x2&&DV x3 x4))=false then Cj s [-1] else if Cb x1 0 ((Vm.got s x0.toNat).length:Int)=false then Cj s [-5] else (s,Ms (F6 ((Vm.got s x0.toNat).take x1.toNat) x2.toNat x3.toNat x4.toNat)):=fun s=>rfl
 refine⟨fun s h=>?_,fun s h H d nd kk kvs Q hD hn q=>?_⟩
 . rw[Bj] at h ⊢
   rw[BG]
   exact Wi h
 . rw[Bj] at h
   obtain⟨hb,hb2⟩:=UT (by decide) (by decide) h
   rw[BG,if_neg (by rw[hb];decide),if_neg (by rw[hb2];decide)] at q
   simp only[CB] at hb
   obtain⟨b0,b2,b3⟩:=hb
   obtain⟨w1,w2,w3⟩:=L6 b3
   have n3:=HG w1 (by decide)
   exact⟨d,nd,kk,s,kvs,x0.toNat,x1.toNat,x2.toNat,x3.toNat,x4.toNat,rfl,hD,hn.at_,EB b0,(BM rfl b0 (by decide)).num hn,(BM rfl hb2 (by decide)).num hn,(BM rfl b2 (by decide)).num hn,(BM rfl w1 (by decide)).num hn,(BM rfl w2 (by decide)).num hn,by lia,q.ans hD⟩
theorem AB8 (R:CQ rg) (N:Cu rg) (x0 x1 x2 x3 x4 x5:Int):EI rg W 15 [("c",.inl x0),("n",.inl x1),("k",.inl x2),("a",.inl x3),("b",.inl x4),("v",.inl x5)] [[15,x0,x1,x2,x3,x4,x5]] (WU W):=by
 have BQ:Dj rg [("c",.inl x0),("n",.inl x1),("k",.inl x2),("a",.inl x3),("b",.inl x4),("v",.inl x5)]=(A6 x0&&(Bx x2&&(DV x3 x4&&EK x5))):=by
  show ((BH rg ("c",.inl x0)&&(BH rg ("n",.inl x1)&&(BH rg ("k",.inl x2)&&(BH rg ("a",.inl x3)&&(BH rg ("b",.inl x4)&&(BH rg ("v",.inl x5)&&true))))))&&decide (x3 < x4))=_
  rw[Bd R.c,RJ N.n,Bd R.k,Bd R.a,Bd R.b,Bd R.v]
  exact rh _ _ _ _ _ _
 have ht:∀s,HP s [("c",.inl x0),("n",.inl x1),("k",.inl x2),("a",.inl x3),("b",.inl x4),("v",.inl x5)]=Cb x1 0 ((Vm.got s x0.toNat).length:Int):=fun s=>W5 _
 have Bj:∀s,Cz rg s ((15:Nat):Int) [("c",.inl x0),("n",.inl x1),("k",.inl x2),("a",.inl x3),("b",.inl x4),("v",.inl x5)]=if (A6 x0&&(Bx x2&&(DV x3 x4&&EK x5)))=false then -1 else if Cb x1 0 ((Vm.got s x0.toNat).length:Int)=false then -5 else 0:=fun s=>by
  rw[Ey (L:=true) (B4:=false) (B3:=false) (B6:=false) (B10:=false) (B11:=false) BQ rfl rfl rfl rfl (ht s) rfl rfl]
  simp only[reduceIte,E9,Cg]
 have BG:∀s,Cd s [[15,x0,x1,x2,x3,x4,x5]]=if (A6 x0&&(Bx x2&&(DV x3 x4&&EK x5)))=false then Cj s [-1] else if Cb x1 0 ((Vm.got s x0.toNat).length:Int)=false then Cj s [-5] else (s,[(UJ ((Vm.got s x0.toNat).take x1.toNat) x2.toNat x3.toNat x4.toNat x5.toNat:Int)]):=fun s=>rfl
 refine⟨fun s h=>?_,fun s h H d nd kk kvs Q hD hn q=>?_⟩
 . rw[Bj] at h ⊢
   rw[BG]
   exact Wi h
 . rw[Bj] at h
   obtain⟨hb,hb2⟩:=UT (by decide) (by decide) h
   rw[BG,if_neg (by rw[hb];decide),if_neg (by rw[hb2];decide)] at q
   simp only[CB] at hb
   obtain⟨b0,b2,b3,b5⟩:=hb
   obtain⟨w1,w2,w3⟩:=L6 b3
   have n3:=HG w1 (by decide)
   exact⟨d,nd,kk,s,kvs,x0.toNat,x1.toNat,x2.toNat,x3.toNat,x4.toNat,x5.toNat,rfl,hD,hn.at_,EB b0,(BM rfl b0 (by decide)).num hn,(BM rfl hb2 (by decide)).num hn,(BM rfl b2 (by decide)).num hn,(BM rfl w1 (by decide)).num hn,(BM rfl w2 (by decide)).num hn,(BM rfl b5 (by decide)).num hn,by lia,q.ans hD⟩
theorem Wr {z lo hi:Int} (h:Cb z lo hi=true) (hlo:0<=lo):((z.toNat:Nat):Int)=z:=JV (HG h hlo).1
theorem ACJ (R:CQ rg) (N:Cu rg) (x0 x1 x2 x3 x4 x5:Int):EI rg W 8 [("c",.inl x0),("n",.inl x1),("t",.inl x2),("k",.inl x3),("a",.inl x4),("b",.inl x5)] [[8,x0,x1,x2,x3,x4,x5]] (WH W):=by
 have BQ:Dj rg [("c",.inl x0),("n",.inl x1),("t",.inl x2),("k",.inl x3),("a",.inl x4),("b",.inl x5)]=(A6 x0&&(Bx x3&&DV x4 x5)):=by
  show ((BH rg ("c",.inl x0)&&(BH rg ("n",.inl x1)&&(BH rg ("t",.inl x2)&&(BH rg ("k",.inl x3)&&(BH rg ("a",.inl x4)&&(BH rg ("b",.inl x5)&&true))))))&&decide (x4 < x5))=_
  rw[Bd R.c,RJ N.n,RJ N.t,Bd R.k,Bd R.a,Bd R.b]
  exact rX _ _ _ _ _
 have ht:∀s,HP s [("c",.inl x0),("n",.inl x1),("t",.inl x2),("k",.inl x3),("a",.inl x4),("b",.inl x5)]=(Cb x1 0 ((Vm.got s x0.toNat).length:Int)&&Cb x2 0 ((Vm.got s x0.toNat).length:Int)):=fun s=>rfl
 have Bj:∀s,Cz rg s ((8:Nat):Int) [("c",.inl x0),("n",.inl x1),("t",.inl x2),("k",.inl x3),("a",.inl x4),("b",.inl x5)]=if (A6 x0&&(Bx x3&&DV x4 x5))=false then -1 else if (Cb x1 0 ((Vm.got s x0.toNat).length:Int)&&Cb x2 0 ((Vm.got s x0.toNat).length:Int))=false then -5 else 0:=fun s=>by
  rw[Ey (L:=true) (B4:=false) (B3:=false) (B6:=false) (B10:=false) (B11:=false) BQ rfl rfl rfl rfl (ht s) rfl rfl]
  simp only[reduceIte,E9,Cg]
 have yD:∀s,Cd s [[8,x0,x1,x2,x3,x4,x5]]=if (A6 x0&&(Bx x3&&DV x4 x5))=false then Cj s [-1] else if Cb x2 0 ((Vm.got s x0.toNat).length:Int)=false then Cj s [-5] else if Cb x1 0 ((Vm.got s x0.toNat).length:Int)=false then Cj s [-5] else (s,Mr (LZ ((Vm.got s x0.toNat).take x1.toNat) ((Vm.got s x0.toNat).take x2.toNat) x3.toNat x4.toNat x5.toNat)):=fun s=>rfl
 have BG:∀s,Cd s [[8,x0,x1,x2,x3,x4,x5]]=if (A6 x0&&(Bx x3&&DV x4 x5))=false then Cj s [-1] else if (Cb x1 0 ((Vm.got s x0.toNat).length:Int)&&Cb x2 0 ((Vm.got s x0.toNat).length:Int))=false then Cj s [-5] else (s,Mr (LZ ((Vm.got s x0.toNat).take x1.toNat) ((Vm.got s x0.toNat).take x2.toNat) x3.toNat x4.toNat x5.toNat)):=fun s=>by
  rw[yD]
  cases Cb x1 0 ((Vm.got s x0.toNat).length:Int) <;> cases Cb x2 0 ((Vm.got s x0.toNat).length:Int) <;> rfl
 refine⟨fun s h=>?_,fun s h H d nd kk kvs Q hD hn q=>?_⟩
 . rw[Bj] at h ⊢
   rw[BG]
   exact Wi h
 . rw[Bj] at h
   obtain⟨hb,hb2⟩:=UT (by decide) (by decide) h
   rw[BG,if_neg (by rw[hb];decide),if_neg (by rw[hb2];decide)] at q
   simp only[CB] at hb hb2
   obtain⟨b0,b3,b4⟩:=hb
   obtain⟨t1,t2⟩:=hb2
   obtain⟨w1,w2,w3⟩:=L6 b4
   have n3:=HG w1 (by decide)
   exact⟨d,nd,kk,s,kvs,x0.toNat,x1.toNat,x2.toNat,x3.toNat,x4.toNat,x5.toNat,rfl,hD,hn.at_,EB b0,(BM rfl b0 (by decide)).num hn,(BM rfl t1 (by decide)).num hn,(BM rfl t2 (by decide)).num hn,(BM rfl b3 (by decide)).num hn,(BM rfl w1 (by decide)).num hn,(BM rfl w2 (by decide)).num hn,by lia,q.ans hD⟩
theorem ACN (R:CQ rg) (x0 x1 x2 x3:Int):EI rg W 9 [("c",.inl x0),("j",.inl x1),("k",.inl x2),("m",.inl x3)] [[9,x0,x1,x2,x3]] (WK W):=by
 have BQ:Dj rg [("c",.inl x0),("j",.inl x1),("k",.inl x2),("m",.inl x3)]=(A6 x0&&(Cb x1 1 1000000000&&(Bx x2&&Ei x3))):=by
  show ((BH rg ("c",.inl x0)&&(BH rg ("j",.inl x1)&&(BH rg ("k",.inl x2)&&(BH rg ("m",.inl x3)&&true))))&&true)=_
  rw[Bd R.c,Bd R.j,Bd R.k,Bd R.m]
  exact Xz _ _ _ _
 have Bj:∀s,Cz rg s ((9:Nat):Int) [("c",.inl x0),("j",.inl x1),("k",.inl x2),("m",.inl x3)]=if (A6 x0&&(Cb x1 1 1000000000&&(Bx x2&&Ei x3)))=false then -1 else if (s.decisions.any fun x=>x.num==x1.toNat)=true then -3 else if decide (60<=s.decisions.length)=true then -6 else 0:=fun s=>by
  rw[Ey (L:=true) (B4:=false) (B3:=(s.decisions.any fun x=>x.num==x1.toNat)) (B6:=decide (60<=s.decisions.length)) (B5:=true) (B10:=false) (B11:=false) BQ rfl rfl rfl rfl rfl rfl rfl]
  simp only[reduceIte,E9,Cg]
 have BG:∀s,Cd s [[9,x0,x1,x2,x3]]=if (A6 x0&&(Cb x1 1 1000000000&&(Bx x2&&Ei x3)))=false then Cj s [-1] else if (s.decisions.any fun x=>x.num==x1.toNat)=true then Cj s [-3] else if 60<=s.decisions.length then Cj s [-6] else (decided s x1.toNat x0.toNat x2.toNat x3.toNat,[0,(A3 (Vm.got s x0.toNat) x2.toNat x3.toNat:Int)]):=fun s=>rfl
 refine⟨fun s h=>?_,fun s h H d nd kk kvs Q hD hn q=>?_⟩
 . rw[Bj] at h ⊢
   rw[BG]
   by_cases h1:(A6 x0&&(Cb x1 1 1000000000&&(Bx x2&&Ei x3)))=false
   . rw[if_pos h1,if_pos h1];rfl
   . rw[if_neg h1] at h ⊢
     rw[if_neg h1]
     by_cases h2:(s.decisions.any fun x=>x.num==x1.toNat)=true
     . rw[if_pos h2,if_pos h2];rfl
     . rw[if_neg h2] at h ⊢
       rw[if_neg h2]
       by_cases h3:60<=s.decisions.length
       . rw[if_pos h3,if_pos (decide_eq_true h3)];rfl
       . rw[if_neg (by rw[decide_eq_false h3];decide)] at h
         exact absurd rfl h
 . rw[Bj] at h
   by_cases h1:(A6 x0&&(Cb x1 1 1000000000&&(Bx x2&&Ei x3)))=false
   . rw[if_pos h1] at h;exact absurd h (by decide)
   . rw[if_neg h1] at h
     by_cases h2:(s.decisions.any fun x=>x.num==x1.toNat)=true
     . rw[if_pos h2] at h;exact absurd h (by decide)
     . rw[if_neg h2] at h
       by_cases h3:60<=s.decisions.length
       . rw[if_pos (decide_eq_true h3)] at h;exact absurd h (by decide)
       . rw[BG,if_neg h1,if_neg h2,if_neg h3] at q
         have hb:=(LB _).mp h1
         simp only[CB] at hb
         obtain⟨b0,b1,b2,b3⟩:=hb
         exact⟨d,nd,kk,s,kvs,x0.toNat,x1.toNat,x2.toNat,x3.toNat,rfl,hD,hn.at_,EB b0,(BM rfl b0 (by decide)).num hn,(BM rfl b1 (by decide)).num hn,(BM rfl b2 (by decide)).num hn,(BM rfl b3 (by decide)).num hn,by lia,q⟩
theorem AB6 (R:CQ rg) (x0 x1 x2 x3:Int) (l:List Int) (hl:l.length<=1000):EI rg W 13 [("c",.inl x0),("k",.inl x1),("a",.inl x2),("b",.inl x3),("shall",.inr l)] [[13,x0,x1,x2,x3],l] (WN W):=by
 have BQ:Dj rg [("c",.inl x0),("k",.inl x1),("a",.inl x2),("b",.inl x3),("shall",.inr l)]=(A6 x0&&(Bx x1&&DV x2 x3)):=by
  show ((BH rg ("c",.inl x0)&&(BH rg ("k",.inl x1)&&(BH rg ("a",.inl x2)&&(BH rg ("b",.inl x3)&&(true&&true)))))&&decide (x2 < x3))=_
  rw[Bd R.c,Bd R.k,Bd R.a,Bd R.b]
  exact gq _ _ _ _ _
 have hli:Hl [("c",.inl x0),("k",.inl x1),("a",.inl x2),("b",.inl x3),("shall",.inr l)]=Vm.D4 l x2 x3:=W5 _
 have Bj:∀s,Cz rg s ((13:Nat):Int) [("c",.inl x0),("k",.inl x1),("a",.inl x2),("b",.inl x3),("shall",.inr l)]=if (A6 x0&&(Bx x1&&DV x2 x3))=false then -1 else if Vm.D4 l x2 x3=false then -2 else if decide (14 < (FZ (Vm.got s x0.toNat) x1.toNat x2.toNat x3.toNat (By l)).length)=true then -11 else 0:=fun s=>by
  rw[Ey (B4:=false) (B3:=false) (B6:=false) (B5:=true) (B10:=false) (B11:=decide (14 < (FZ (Vm.got s x0.toNat) x1.toNat x2.toNat x3.toNat (By l)).length)) BQ hli rfl rfl rfl rfl rfl rfl]
  simp only[reduceIte,E9,Cg]
 have BG:∀s,Cd s [[13,x0,x1,x2,x3],l]=if (A6 x0&&(Bx x1&&DV x2 x3))=false then Cj s [-1] else (match Vbedak.windowLine x2 x3 l with
  | none=>Cj s [-2]
  | some t=>if 14 < (FZ (Vm.got s x0.toNat) x1.toNat x2.toNat x3.toNat t).length then Cj s [-11] else (s,((Hx (Vm.got s x0.toNat) x1.toNat x2.toNat x3.toNat t).length:Int)::((Hx (Vm.got s x0.toNat) x1.toNat x2.toNat x3.toNat t).map fun p=>[(p.1:Int),(p.2.1:Int),(p.2.2:Int)]).flatten)):=fun s=>rfl
 refine⟨fun s h=>?_,fun s h H d nd kk kvs Q hD hn q=>?_⟩
 . rw[Bj] at h ⊢
   rw[BG]
   by_cases h1:(A6 x0&&(Bx x1&&DV x2 x3))=false
   . rw[if_pos h1,if_pos h1];rfl
   . rw[if_neg h1] at h ⊢
     rw[if_neg h1,Vm.qA]
     cases h2:Vm.D4 l x2 x3 with
     | false=>rw[if_neg Bw,if_pos rfl];rfl
     | true=>
      rw[h2,if_neg Fl] at h
      rw[if_pos rfl,if_neg Fl]
      by_cases h3:14 < (FZ (Vm.got s x0.toNat) x1.toNat x2.toNat x3.toNat (By l)).length
      . rw[if_pos (decide_eq_true h3)]
        exact if_pos h3
      . rw[if_neg (by rw[decide_eq_false h3];decide)] at h
        exact absurd rfl h
 . rw[Bj] at h
   by_cases h1:(A6 x0&&(Bx x1&&DV x2 x3))=false
   . rw[if_pos h1] at h;exact absurd h (by decide)
   . rw[if_neg h1] at h
     cases h2:Vm.D4 l x2 x3 with
     | false=>rw[h2,if_pos rfl] at h;exact absurd h (by decide)
     | true=>
      rw[h2,if_neg Fl] at h
      by_cases h3:14 < (FZ (Vm.got s x0.toNat) x1.toNat x2.toNat x3.toNat (By l)).length
      . rw[if_pos (decide_eq_true h3)] at h;exact absurd h (by decide)
      . rw[BG,if_neg h1,Vm.qA,h2,if_pos rfl] at q
        have q2:Ge W H d kk s (((Hx (Vm.got s x0.toNat) x1.toNat x2.toNat x3.toNat (By l)).length:Int)::((Hx (Vm.got s x0.toNat) x1.toNat x2.toNat x3.toNat (By l)).map fun p=>[(p.1:Int),(p.2.1:Int),(p.2.2:Int)]).flatten) Q:=by
         have q3:Ge W H d kk (if 14 < (FZ (Vm.got s x0.toNat) x1.toNat x2.toNat x3.toNat (By l)).length then Cj s [-11] else (s,((Hx (Vm.got s x0.toNat) x1.toNat x2.toNat x3.toNat (By l)).length:Int)::((Hx (Vm.got s x0.toNat) x1.toNat x2.toNat x3.toNat (By l)).map fun p=>[(p.1:Int),(p.2.1:Int),(p.2.2:Int)]).flatten)).1 (if 14 < (FZ (Vm.got s x0.toNat) x1.toNat x2.toNat x3.toNat (By l)).length then Cj s [-11] else (s,((Hx (Vm.got s x0.toNat) x1.toNat x2.toNat x3.toNat (By l)).length:Int)::((Hx (Vm.got s x0.toNat) x1.toNat x2.toNat x3.toNat (By l)).map fun p=>[(p.1:Int),(p.2.1:Int),(p.2.2:Int)]).flatten)).2 Q:=q
         rw[if_neg h3] at q3
         exact q3
        have hb:=(LB _).mp h1
        simp only[CB] at hb
        obtain⟨b0,b1,b2⟩:=hb
        obtain⟨w1,w2,w3⟩:=L6 b2
        have n2:=HG w1 (by decide)
        obtain⟨p,C5,hp2⟩:=hn.lst (x:="shall") (l:=l) rfl
        exact⟨d,nd,p,kk,s,kvs,x0.toNat,x1.toNat,x2.toNat,x3.toNat,l,rfl,hD,hn.at_,EB b0,(BM rfl b0 (by decide)).num hn,(BM rfl b1 (by decide)).num hn,(BM rfl w1 (by decide)).num hn,(BM rfl w2 (by decide)).num hn,by lia,C5,hp2,hl,by rw[Wr w1 (by decide),Wr w2 (by decide)];exact h2,by lia,q2.ans hD⟩
theorem AB7 (R:CQ rg) (x0 x1 x2 x3:Int) (l:List Int) (hl:l.length<=1000):EI rg W 14 [("c",.inl x0),("k",.inl x1),("a",.inl x2),("b",.inl x3),("strokes",.inr l)] [[14,x0,x1,x2,x3],l] (WY W):=by
 have BQ:Dj rg [("c",.inl x0),("k",.inl x1),("a",.inl x2),("b",.inl x3),("strokes",.inr l)]=(A6 x0&&(Bx x1&&DV x2 x3)):=by
  show ((BH rg ("c",.inl x0)&&(BH rg ("k",.inl x1)&&(BH rg ("a",.inl x2)&&(BH rg ("b",.inl x3)&&(true&&true)))))&&decide (x2 < x3))=_
  rw[Bd R.c,Bd R.k,Bd R.a,Bd R.b]
  exact gq _ _ _ _ _
 have hli:Hl [("c",.inl x0),("k",.inl x1),("a",.inl x2),("b",.inl x3),("strokes",.inr l)]=Vm.F8 l x2 x3:=G3 _
 have Bj:∀s,Cz rg s ((14:Nat):Int) [("c",.inl x0),("k",.inl x1),("a",.inl x2),("b",.inl x3),("strokes",.inr l)]=if (A6 x0&&(Bx x1&&DV x2 x3))=false then -1 else if Vm.F8 l x2 x3=false then -2 else 0:=fun s=>by
  rw[Ey (B4:=false) (B3:=false) (B6:=false) (B5:=true) (B10:=false) (B11:=false) BQ hli rfl rfl rfl rfl rfl rfl]
  simp only[reduceIte,E9,Cg]
 have BG:∀s,Cd s [[14,x0,x1,x2,x3],l]=if (A6 x0&&(Bx x1&&DV x2 x3))=false then Cj s [-1] else (match Vbedak.strokesIn x2 x3 l with
  | none=>Cj s [-2]
  | some t=>(s,Ms (F6 (Vm.got s x0.toNat++newOf (CZ s x0.toNat).clock x0.toNat x1.toNat t) x1.toNat x2.toNat x3.toNat))):=fun s=>rfl
 refine⟨fun s h=>?_,fun s h H d nd kk kvs Q hD hn q=>?_⟩
 . rw[Bj] at h ⊢
   rw[BG]
   by_cases h1:(A6 x0&&(Bx x1&&DV x2 x3))=false
   . rw[if_pos h1,if_pos h1];rfl
   . rw[if_neg h1] at h ⊢
     rw[if_neg h1,Vm.pL]
     cases h2:Vm.F8 l x2 x3 with
     | false=>rw[if_neg Bw,if_pos rfl];rfl
     | true=>
      rw[h2,if_neg Fl] at h
      exact absurd rfl h
 . rw[Bj] at h
   by_cases h1:(A6 x0&&(Bx x1&&DV x2 x3))=false
   . rw[if_pos h1] at h;exact absurd h (by decide)
   . rw[if_neg h1] at h
     cases h2:Vm.F8 l x2 x3 with
     | false=>rw[h2,if_pos rfl] at h;exact absurd h (by decide)
     | true=>
      rw[BG,if_neg h1,Vm.pL,h2,if_pos rfl] at q
      have q2:Ge W H d kk s (Ms (F6 (Vm.got s x0.toNat++newOf (CZ s x0.toNat).clock x0.toNat x1.toNat ((Vm.EE l).map Vm.HK)) x1.toNat x2.toNat x3.toNat)) Q:=q
      have hb:=(LB _).mp h1
      simp only[CB] at hb
      obtain⟨b0,b1,b2⟩:=hb
      obtain⟨w1,w2,w3⟩:=L6 b2
      have n2:=HG w1 (by decide)
      obtain⟨p,C5,hp2⟩:=hn.lst (x:="strokes") (l:=l) rfl
      exact⟨d,nd,p,kk,s,kvs,x0.toNat,x1.toNat,x2.toNat,x3.toNat,l,rfl,hD,hn.at_,EB b0,(BM rfl b0 (by decide)).num hn,(BM rfl b1 (by decide)).num hn,(BM rfl w1 (by decide)).num hn,(BM rfl w2 (by decide)).num hn,by lia,C5,hp2,hl,by rw[Wr w1 (by decide),Wr w2 (by decide)];exact h2,q2.ans hD⟩
theorem ACB (R:CQ rg) (x0 x1 x2 x3:Int):EI rg W 18 [("c",.inl x0),("k",.inl x1),("m",.inl x2),("v",.inl x3)] [[18,x0,x1,x2,x3]] (WQ W):=by
 have BQ:Dj rg [("c",.inl x0),("k",.inl x1),("m",.inl x2),("v",.inl x3)]=(A6 x0&&(Bx x1&&(Ei x2&&EK x3))):=by
  show ((BH rg ("c",.inl x0)&&(BH rg ("k",.inl x1)&&(BH rg ("m",.inl x2)&&(BH rg ("v",.inl x3)&&true))))&&true)=_
  rw[Bd R.c,Bd R.k,Bd R.m,Bd R.v]
  exact Xz _ _ _ _
 have Bj:∀s,Cz rg s ((18:Nat):Int) [("c",.inl x0),("k",.inl x1),("m",.inl x2),("v",.inl x3)]=if (A6 x0&&(Bx x1&&(Ei x2&&EK x3)))=false then -1 else if (Kf (Vm.got s x0.toNat) x1.toNat x2.toNat x3.toNat).isNone=true then -10 else 0:=fun s=>by
  rw[Ey (L:=true) (B4:=false) (B3:=false) (B6:=false) (B5:=true) (B10:=(Kf (Vm.got s x0.toNat) x1.toNat x2.toNat x3.toNat).isNone) (B11:=false) BQ rfl rfl rfl rfl rfl rfl rfl]
  simp only[reduceIte,E9,Cg]
 have BG:∀s,Cd s [[18,x0,x1,x2,x3]]=if (A6 x0&&(Bx x1&&(Ei x2&&EK x3)))=false then Cj s [-1] else (s,match Kf (Vm.got s x0.toNat) x1.toNat x2.toNat x3.toNat with | none=>[-10] | some n=>[(n:Int)]):=fun s=>rfl
 refine⟨fun s h=>?_,fun s h H d nd kk kvs Q hD hn q=>?_⟩
 . rw[Bj] at h ⊢
   rw[BG]
   by_cases h1:(A6 x0&&(Bx x1&&(Ei x2&&EK x3)))=false
   . rw[if_pos h1,if_pos h1];rfl
   . rw[if_neg h1] at h ⊢
     rw[if_neg h1]
     cases h2:Kf (Vm.got s x0.toNat) x1.toNat x2.toNat x3.toNat with
     | none=>rfl
     | some n=>
      rw[h2] at h
      exact absurd rfl h
 . rw[Bj] at h
   by_cases h1:(A6 x0&&(Bx x1&&(Ei x2&&EK x3)))=false
   . rw[if_pos h1] at h;exact absurd h (by decide)
   . rw[if_neg h1] at h
     cases h2:Kf (Vm.got s x0.toNat) x1.toNat x2.toNat x3.toNat with
     | none=>rw[h2] at h;exact absurd h (by decide)
     | some n=>
      rw[BG,if_neg h1,h2] at q
      have hb:=(LB _).mp h1
      simp only[CB] at hb
      obtain⟨b0,b1,b2,b3⟩:=hb
      exact⟨d,nd,kk,s,kvs,x0.toNat,x1.toNat,x2.toNat,x3.toNat,n,rfl,hD,hn.at_,EB b0,(BM rfl b0 (by decide)).num hn,(BM rfl b1 (by decide)).num hn,(BM rfl b2 (by decide)).num hn,(BM rfl b3 (by decide)).num hn,by rw[jJ,h2],q.ans hD⟩
end
def R1 (W:Cl):Nat->Sp
 | 0=>WD W
 | 1=>Wf W
 | 2=>WR W
 | 3=>Wb W
 | 4=>WW W
 | 5=>WV W
 | 6=>WX W
 | 7=>WZ W
 | 8=>WH W
 | 9=>WK W
 | 10=>Wg W
 | 11=>Wd W
 | 12=>V7 W
 | 13=>WN W
 | 14=>WY W
 | 15=>WU W
 | 16=>WL W
 | 17=>WT W
 | 18=>WQ W
 | _=>WB W
def W4 (P:Av) (w:Am) (K:AW) (mg:AG->Option AF) (base:Ae) (W:Cl) (a:AA):Prop:=
 ∃gs:List AA,gs.length=20/\(∀H:Hp,Ap K H a (gs.map V.ref))/\∀(i:Nat) (g:AA),gs[i]? =some g->D9 K (.ref g)=true/\∃fd,Binds K fd ["desk","numbers"] []/\Aa P w K mg base Ag 7 g fd ["desk","numbers"] (R1 W i)
section
variable {P:Av} {w:Am} {K:AW} {mg:AG->Option AF} {base:Ae} {W:Cl}
abbrev U2:Au:=top 91
def bx (rg:AG->Option (Int×Int)) (W:Cl):Sp:=fun vs H Q _=>∃(d nd:AA) (kk:Dk) (s:BI) (kvs:List (Key×V)) (AB:B1) (i:Nat) (c:List (List Int)),vs=[.ref d,.int (i:Int),.ref nd]/\Bc W H d kk s/\Ee H nd kvs AB/\Sb rg AB (i:Int)/\i < 20/\EI rg W i AB c (R1 W i)/\
 Ge W H d kk (Cd s c).1 (Cd s c).2 Q
theorem bK:BD ["desk","place","numbers","due","answerer"] ["desk","place","numbers"] (As U2):={}
theorem AAa {f aA:AA} {fd:A2} {rg:AG->Option (Int×Int)} (F:A0 K "answer_to" "answer_to" U2 f fd) (CC:LC mg) (gR:Gd P w K mg base 7 "refusal" ["desk","place","numbers"] (cX rg W))
 (mA:mg "ANSWERERS"=some (.ref aA)) (hA:W4 P w K mg base W aA):Aa P w K mg base Ag 8 f fd ["desk","place","numbers"] (bx rg W):=by
 refine F.ok bK (fun vs H Q E h=>?_) (fun Al A outer s H vs Q E hr h=>?_)
 . obtain⟨d,nd,kk,s,kvs,AB,i,c,rfl,_⟩:=h
   rfl
 . obtain⟨d,nd,kk,st,kvs,AB,i,c,rfl,hD,hn,hF,hi,hp,q⟩:=h
   obtain⟨u0,v0⟩:=CC.r0
   refine⟨_,AX (A5 (i:=3) bK.nd rfl (Ad rfl) (Bm gR hr rfl (AH (pv 0) (AH (pv 1) (AH (pv 2) AK)))))
    (AX (C9 (DY L8 (pv 3) (Dg (v:=.int 0) rfl v0 ⟨u0,rfl⟩) (Cy _)) (Ac (A4 (DE (AH (pv 3) AK)))) DG)
    (AX (A5 (i:=4) bK.nd rfl (Ad rfl) (Br D5 (Dg (v:=.ref aA) rfl mA rfl) (pv 1)))
    (Ac (A4 (ABq (pv 4) hr CV (AH (pv 0) (AH (pv 2) AK))))))),?_⟩
   refine⟨_,rfl,_,rfl,_,rfl,d,nd,kk,st,kvs,AB,(i:Int),rfl,hD,hn,hF,fun H1 s1=>?_⟩
   refine⟨_,rfl,rfl,_,rfl,?_⟩
   show if (!decide (V.int (Cz rg st (i:Int) AB)=V.int 0))=true then _ else _
   rw[GF]
   by_cases e0:Cz rg st (i:Int) AB=0
   . rw[e0,beq_self_eq_true]
     obtain⟨gs,j4,hgt,hgs⟩:=hA
     have A1:i < gs.length:=by lia
     obtain⟨hk,ur,hb,wo⟩:=hgs i gs[i] (DU A1)
     refine BJ ⟨_,rfl,aA,_,_,_,rfl,rfl,hgt _,at_of (j:=i) (v:=.ref gs[i]) rfl (by rw[CM,DU A1];rfl),?_⟩
     refine⟨_,rfl,gs[i],_,_,rfl,⟨hk,ur,hb,wo⟩,_,rfl,_,rfl,?_⟩
     refine hp.yes st e0 H1 d nd kk kvs Q (hD.same s1) (hn.same s1) fun H' JD p h1 h2 h3 h4=>?_
     exact q H' JD p h1 ((Mv.same s1).trans h2) ((Mv.same (d:=d) (k:=kk) s1).free h3) h4
   . have e1:=hp.no st e0
     rw[e1] at q
     rw[beq_eq_false_iff_ne.mpr e0]
     refine A9 ⟨_,rfl,(by show 1<=AZ;decide),fun p C5=>?_⟩
     have s2:Same H (upd H1 p (.lst [.int (Cz rg st (i:Int) AB)])):=s1.trans (Ao C5)
     exact q _ kk p (hD.same s2) (Mv.same s2) ((Mv.same (d:=d) (k:=kk) s1).free C5) AO
end
def EF (rg:AG->Option (Int×Int)) (W:Cl) (c:List (List Int)):Prop:=∃(i:Nat) (AB:B1),i < 20/\PyFlat.put1 c=(i:Int)::CT AB/\AB.map (·.1)=letters i/\(∀x∈AB,dh x)/\Sb rg AB (i:Int)/\EI rg W i AB c (R1 W i)
theorem zN:∀i < 20,(letters i).Nodup:=by decide+kernel
theorem zM:∀i < 20,(letters i).length<=20:=by decide+kernel
theorem Ab {α:Type} {p:α->Prop} {a:α} {l:List α} (h:p a) (t:∀x∈l,p x):∀x∈a::l,p x:=fun x hx=>by
 rcases BK.mp hx with e | e
 . rw[e];exact h
 . exact t x e
theorem each_nil {α:Type} {p:α->Prop}:∀x∈([]:List α),p x:=fun x hx=>nomatch hx
def df (x:AG×Item):Prop:=∀l,x.2= .inr l->l.length<=1000
theorem BL (x:AG) (z:Int):df (x,.inl z):=fun l e=>nomatch e
theorem jG {x:AG} {l:List Int} (h:l.length<=1000):df (x,.inr l):=fun l' e=>by
 have e':l=l':=Mm e
 rw[<-e']
 exact h
section
variable {rg:AG->Option (Int×Int)} {W:Cl}
theorem rq (R:CQ rg) (N:Cu rg):EF rg W [[0]]:=
 ⟨0,[],by decide,rfl,rfl,each_nil,Et rfl N.shall N.strokes each_nil,AB1⟩
theorem r9 (R:CQ rg) (N:Cu rg) (x0 x1 x2 x3 x4:Int):EF rg W [[1,x0,x1,x2,x3,x4]]:=
 ⟨1,[("c",.inl x0),("k",.inl x1),("a",.inl x2),("b",.inl x3),("v",.inl x4)],by decide,rfl,rfl,(Ab rfl (Ab rfl (Ab rfl (Ab rfl (Ab rfl each_nil))))),Et rfl N.shall N.strokes (Ab (BL _ _) (Ab (BL _ _) (Ab (BL _ _) (Ab (BL _ _) (Ab (BL _ _) each_nil))))),AB2 R x0 x1 x2 x3 x4⟩
theorem call2 (R:CQ rg) (N:Cu rg) (x0 x1 x2:Int):EF rg W [[2,x0,x1,x2]]:=
 ⟨2,[("c",.inl x0),("d",.inl x1),("i",.inl x2)],by decide,rfl,rfl,(Ab rfl (Ab rfl (Ab rfl each_nil))),Et rfl N.shall N.strokes (Ab (BL _ _) (Ab (BL _ _) (Ab (BL _ _) each_nil))),ACD R x0 x1 x2⟩
theorem sN (R:CQ rg) (N:Cu rg) (x0 x1:Int):EF rg W [[3,x0,x1]]:=
 ⟨3,[("c",.inl x0),("d",.inl x1)],by decide,rfl,rfl,(Ab rfl (Ab rfl each_nil)),Et rfl N.shall N.strokes (Ab (BL _ _) (Ab (BL _ _) each_nil)),ACE R x0 x1⟩
theorem sO (R:CQ rg) (N:Cu rg) (x0 x1 x2:Int):EF rg W [[4,x0,x1,x2]]:=
 ⟨4,[("c",.inl x0),("k",.inl x1),("m",.inl x2)],by decide,rfl,rfl,(Ab rfl (Ab rfl (Ab rfl each_nil))),Et rfl N.shall N.strokes (Ab (BL _ _) (Ab (BL _ _) (Ab (BL _ _) each_nil))),ACF R N x0 x1 x2⟩
theorem sP (R:CQ rg) (N:Cu rg) (x0 x1 x2 x3:Int):EF rg W [[5,x0,x1,x2,x3]]:=
 ⟨5,[("c",.inl x0),("n",.inl x1),("k",.inl x2),("m",.inl x3)],by decide,rfl,rfl,(Ab rfl (Ab rfl (Ab rfl (Ab rfl each_nil)))),Et rfl N.shall N.strokes (Ab (BL _ _) (Ab (BL _ _) (Ab (BL _ _) (Ab (BL _ _) each_nil)))),ACG R N x0 x1 x2 x3⟩
theorem sQ (R:CQ rg) (N:Cu rg) (x0 x1 x2 x3 x4:Int):EF rg W [[6,x0,x1,x2,x3,x4]]:=
 ⟨6,[("c",.inl x0),("n",.inl x1),("k",.inl x2),("a",.inl x3),("b",.inl x4)],by decide,rfl,rfl,(Ab rfl (Ab rfl (Ab rfl (Ab rfl (Ab rfl each_nil))))),Et rfl N.shall N.strokes (Ab (BL _ _) (Ab (BL _ _) (Ab (BL _ _) (Ab (BL _ _) (Ab (BL _ _) each_nil))))),ACH R N x0 x1 x2 x3 x4⟩
theorem sR (R:CQ rg) (N:Cu rg) (x0 x1 x2:Int):EF rg W [[7,x0,x1,x2]]:=
 ⟨7,[("c",.inl x0),("k",.inl x1),("m",.inl x2)],by decide,rfl,rfl,(Ab rfl (Ab rfl (Ab rfl each_nil))),Et rfl N.shall N.strokes (Ab (BL _ _) (Ab (BL _ _) (Ab (BL _ _) each_nil))),ACI R N x0 x1 x2⟩
theorem sS (R:CQ rg) (N:Cu rg) (x0 x1 x2 x3 x4 x5:Int):EF rg W [[8,x0,x1,x2,x3,x4,x5]]:=
 ⟨8,[("c",.inl x0),("n",.inl x1),("t",.inl x2),("k",.inl x3),("a",.inl x4),("b",.inl x5)],by decide,rfl,rfl,(Ab rfl (Ab rfl (Ab rfl (Ab rfl (Ab rfl (Ab rfl each_nil)))))),Et rfl N.shall N.strokes (Ab (BL _ _) (Ab (BL _ _) (Ab (BL _ _) (Ab (BL _ _) (Ab (BL _ _) (Ab (BL _ _) each_nil)))))),ACJ R N x0 x1 x2 x3 x4 x5⟩
theorem sV (R:CQ rg) (N:Cu rg) (x0 x1 x2 x3:Int):EF rg W [[9,x0,x1,x2,x3]]:=
 ⟨9,[("c",.inl x0),("j",.inl x1),("k",.inl x2),("m",.inl x3)],by decide,rfl,rfl,(Ab rfl (Ab rfl (Ab rfl (Ab rfl each_nil)))),Et rfl N.shall N.strokes (Ab (BL _ _) (Ab (BL _ _) (Ab (BL _ _) (Ab (BL _ _) each_nil)))),ACN R x0 x1 x2 x3⟩
theorem sA (R:CQ rg) (N:Cu rg) (x0:Int):EF rg W [[10,x0]]:=
 ⟨10,[("c",.inl x0)],by decide,rfl,rfl,(Ab rfl each_nil),Et rfl N.shall N.strokes (Ab (BL _ _) each_nil),AB3 R N x0⟩
theorem sC (R:CQ rg) (N:Cu rg) (x0 x1:Int):EF rg W [[11,x0,x1]]:=
 ⟨11,[("c",.inl x0),("d",.inl x1)],by decide,rfl,rfl,(Ab rfl (Ab rfl each_nil)),Et rfl N.shall N.strokes (Ab (BL _ _) (Ab (BL _ _) each_nil)),AB4 R N x0 x1⟩
theorem sE (R:CQ rg) (N:Cu rg) (x0:Int):EF rg W [[12,x0]]:=
 ⟨12,[("c",.inl x0)],by decide,rfl,rfl,(Ab rfl each_nil),Et rfl N.shall N.strokes (Ab (BL _ _) each_nil),AB5 R N x0⟩
theorem sF (R:CQ rg) (N:Cu rg) (x0 x1 x2 x3:Int) (l:List Int) (hl:l.length<=1000):EF rg W [[13,x0,x1,x2,x3],l]:=
 ⟨13,[("c",.inl x0),("k",.inl x1),("a",.inl x2),("b",.inl x3),("shall",.inr l)],by decide,rfl,rfl,(Ab rfl (Ab rfl (Ab rfl (Ab rfl (Ab rfl each_nil))))),Et rfl N.shall N.strokes (Ab (BL _ _) (Ab (BL _ _) (Ab (BL _ _) (Ab (BL _ _) (Ab (jG hl) each_nil))))),AB6 R x0 x1 x2 x3 l hl⟩
theorem sG (R:CQ rg) (N:Cu rg) (x0 x1 x2 x3:Int) (l:List Int) (hl:l.length<=1000):EF rg W [[14,x0,x1,x2,x3],l]:=
 ⟨14,[("c",.inl x0),("k",.inl x1),("a",.inl x2),("b",.inl x3),("strokes",.inr l)],by decide,rfl,rfl,(Ab rfl (Ab rfl (Ab rfl (Ab rfl (Ab rfl each_nil))))),Et rfl N.shall N.strokes (Ab (BL _ _) (Ab (BL _ _) (Ab (BL _ _) (Ab (BL _ _) (Ab (jG hl) each_nil))))),AB7 R x0 x1 x2 x3 l hl⟩
theorem sH (R:CQ rg) (N:Cu rg) (x0 x1 x2 x3 x4 x5:Int):EF rg W [[15,x0,x1,x2,x3,x4,x5]]:=
 ⟨15,[("c",.inl x0),("n",.inl x1),("k",.inl x2),("a",.inl x3),("b",.inl x4),("v",.inl x5)],by decide,rfl,rfl,(Ab rfl (Ab rfl (Ab rfl (Ab rfl (Ab rfl (Ab rfl each_nil)))))),Et rfl N.shall N.strokes (Ab (BL _ _) (Ab (BL _ _) (Ab (BL _ _) (Ab (BL _ _) (Ab (BL _ _) (Ab (BL _ _) each_nil)))))),AB8 R N x0 x1 x2 x3 x4 x5⟩
theorem sI (R:CQ rg) (N:Cu rg) (x0 x1 x2 x3 x4:Int):EF rg W [[16,x0,x1,x2,x3,x4]]:=
 ⟨16,[("c",.inl x0),("d",.inl x1),("k",.inl x2),("a",.inl x3),("b",.inl x4)],by decide,rfl,rfl,(Ab rfl (Ab rfl (Ab rfl (Ab rfl (Ab rfl each_nil))))),Et rfl N.shall N.strokes (Ab (BL _ _) (Ab (BL _ _) (Ab (BL _ _) (Ab (BL _ _) (Ab (BL _ _) each_nil))))),AB9 R N x0 x1 x2 x3 x4⟩
theorem sJ (R:CQ rg) (N:Cu rg) (x0:Int):EF rg W [[17,x0]]:=
 ⟨17,[("c",.inl x0)],by decide,rfl,rfl,(Ab rfl each_nil),Et rfl N.shall N.strokes (Ab (BL _ _) each_nil),ACA R N x0⟩
theorem sL (R:CQ rg) (N:Cu rg) (x0 x1 x2 x3:Int):EF rg W [[18,x0,x1,x2,x3]]:=
 ⟨18,[("c",.inl x0),("k",.inl x1),("m",.inl x2),("v",.inl x3)],by decide,rfl,rfl,(Ab rfl (Ab rfl (Ab rfl (Ab rfl each_nil)))),Et rfl N.shall N.strokes (Ab (BL _ _) (Ab (BL _ _) (Ab (BL _ _) (Ab (BL _ _) each_nil)))),ACB R x0 x1 x2 x3⟩
theorem sM (R:CQ rg) (N:Cu rg) (x0 x1 x2 x3:Int):EF rg W [[19,x0,x1,x2,x3]]:=
 ⟨19,[("c",.inl x0),("clock",.inl x1),("k",.inl x2),("m",.inl x3)],by decide,rfl,rfl,(Ab rfl (Ab rfl (Ab rfl (Ab rfl each_nil)))),Et rfl N.shall N.strokes (Ab (BL _ _) (Ab (BL _ _) (Ab (BL _ _) (Ab (BL _ _) each_nil)))),ACC R N x0 x1 x2 x3⟩
theorem lz {α:Type} {P:List α->Prop} (h:P []):∀l,0=l.length->P l
 | [],_=>h
theorem ls {α:Type} {n:Nat} {P:List α->Prop} (h:∀a l,n=l.length->P (a::l)):∀l,n+1=l.length->P l
 | a::l,e=>h a l (Nat.succ.inj e)
section
variable {P:List Int->Prop}
theorem l1 (h:∀a,P [a]):∀l,1=l.length->P l:=ls fun a=>lz (P:=fun l=>P (a::l)) (h a)
theorem l2 (h:∀a b,P [a,b]):∀l,2=l.length->P l:=ls fun a=>l1 (P:=fun l=>P (a::l)) (h a)
theorem l3 (h:∀a b c,P [a,b,c]):∀l,3=l.length->P l:=ls fun a=>l2 (P:=fun l=>P (a::l)) (h a)
theorem l4 (h:∀a b c d,P [a,b,c,d]):∀l,4=l.length->P l:=ls fun a=>l3 (P:=fun l=>P (a::l)) (h a)
theorem l5 (h:∀a b c d e,P [a,b,c,d,e]):∀l,5=l.length->P l:=ls fun a=>l4 (P:=fun l=>P (a::l)) (h a)
theorem l6 (h:∀a b c d e f,P [a,b,c,d,e,f]):∀l,6=l.length->P l:=ls fun a=>l5 (P:=fun l=>P (a::l)) (h a)
end
theorem FP {M:List (List Int)->Prop} {p k:Int} {a:List Int} {xs:List (List Int)} {n:Nat} {R:Option (Nat×Nat)} (m:∀l,n=l.length->M [k::l]) (r:R=some (a.length,xs.length)->M ((p::a)::xs)) (h:(if p=k then some (n,0) else R)=some (a.length,xs.length)):M ((p::a)::xs):=by
 by_cases e:p=k
 . rw[if_pos e] at h
   subst e
   exact lz (P:=fun xs=>M ((p::a)::xs)) (m a (congrArg O2 (CL h))) xs (congrArg Sv (CL h))
 . rw[if_neg e] at h
   exact r h
theorem sh1 {M:List (List Int)->Prop} {p k:Int} {a:List Int} {xs:List (List Int)} {n:Nat} {R:Option (Nat×Nat)} (m:∀l,n=l.length->∀q,M [k::l,q]) (r:R=some (a.length,xs.length)->M ((p::a)::xs)) (h:(if p=k then some (n,1) else R)=some (a.length,xs.length)):M ((p::a)::xs):=by
 by_cases e:p=k
 . rw[if_pos e] at h
   subst e
   exact ls (P:=fun xs=>M ((p::a)::xs)) (fun q=>lz (P:=fun l=>M ((p::a)::q::l)) (m a (congrArg O2 (CL h)) q)) xs (congrArg Sv (CL h))
 . rw[if_neg e] at h
   exact r h
theorem shn {M:Prop} {x:Nat×Nat} (h:none=some x):M:=nomatch h
theorem ou {M:List (List Int)->Prop} (m0:M [[0]]) (m1:∀x0 x1 x2 x3 x4:Int,M [[1,x0,x1,x2,x3,x4]]) (m2:∀x0 x1 x2:Int,M [[2,x0,x1,x2]]) (m3:∀x0 x1:Int,M [[3,x0,x1]]) (m4:∀x0 x1 x2:Int,M [[4,x0,x1,x2]]) (m5:∀x0 x1 x2 x3:Int,M [[5,x0,x1,x2,x3]]) (m6:∀x0 x1 x2 x3 x4:Int,M [[6,x0,x1,x2,x3,x4]]) (m7:∀x0 x1 x2:Int,M [[7,x0,x1,x2]]) (m8:∀x0 x1 x2 x3 x4 x5:Int,M [[8,x0,x1,x2,x3,x4,x5]]) (m9:∀x0 x1 x2 x3:Int,M [[9,x0,x1,x2,x3]]) (zY:∀x0:Int,M [[10,x0]]) (zZ:∀x0 x1:Int,M [[11,x0,x1]]) (zb:∀x0:Int,M [[12,x0]]) (zc:∀(x0 x1 x2 x3:Int) (q:List Int),M [[13,x0,x1,x2,x3],q]) (RG:∀(x0 x1 x2 x3:Int) (q:List Int),M [[14,x0,x1,x2,x3],q]) (zf:∀x0 x1 x2 x3 x4 x5:Int,M [[15,x0,x1,x2,x3,x4,x5]]) (zh:∀x0 x1 x2 x3 x4:Int,M [[16,x0,x1,x2,x3,x4]]) (zi:∀x0:Int,M [[17,x0]]) (zj:∀x0 x1 x2 x3:Int,M [[18,x0,x1,x2,x3]]) (zk:∀x0 x1 x2 x3:Int,M [[19,x0,x1,x2,x3]]) {c:List (List Int)} (h:PyFlat.okCall KS c):M c:=by
 obtain⟨p,a,xs,rfl,h⟩:=h
 unfold KS at h
 exact FP (lz m0) (FP (l5 m1) (FP (l3 m2) (FP (l2 m3) (FP (l3 m4) (FP (l4 m5) (FP (l5 m6) (FP (l3 m7) (FP (l6 m8) (FP (l4 m9) (FP (l1 zY) (FP (l2 zZ) (FP (l1 zb) (sh1 (l4 (P:=fun l=>∀q,M [13::l,q]) zc) (sh1 (l4 (P:=fun l=>∀q,M [14::l,q]) RG) (FP (l6 zf) (FP (l5 zh) (FP (l1 zi) (FP (l4 zj) (FP (l4 zk) shn))))))))))))))))))) h
theorem sx (R:CQ rg) (N:Cu rg) {c:List (List Int)} (h:PyFlat.okCall KS c):(∀r∈c.drop 1,r.length<=1000)->EF rg W c:=
 ou (M:=fun c=>(∀r∈c.drop 1,r.length<=1000)->EF rg W c) (fun _=>rq R N) (fun x0 x1 x2 x3 x4 _=>r9 R N x0 x1 x2 x3 x4) (fun x0 x1 x2 _=>call2 R N x0 x1 x2) (fun x0 x1 _=>sN R N x0 x1) (fun x0 x1 x2 _=>sO R N x0 x1 x2) (fun x0 x1 x2 x3 _=>sP R N x0 x1 x2 x3) (fun x0 x1 x2 x3 x4 _=>sQ R N x0 x1 x2 x3 x4) (fun x0 x1 x2 _=>sR R N x0 x1 x2) (fun x0 x1 x2 x3 x4 x5 _=>sS R N x0 x1 x2 x3 x4 x5) (fun x0 x1 x2 x3 _=>sV R N x0 x1 x2 x3) (fun x0 _=>sA R N x0) (fun x0 x1 _=>sC R N x0 x1) (fun x0 _=>sE R N x0) (fun x0 x1 x2 x3 l hl=>sF R N x0 x1 x2 x3 l (hl l (Bl ..))) (fun x0 x1 x2 x3 l hl=>sG R N x0 x1 x2 x3 l (hl l (Bl ..))) (fun x0 x1 x2 x3 x4 x5 _=>sH R N x0 x1 x2 x3 x4 x5) (fun x0 x1 x2 x3 x4 _=>sI R N x0 x1 x2 x3 x4) (fun x0 _=>sJ R N x0) (fun x0 x1 x2 x3 _=>sL R N x0 x1 x2 x3) (fun x0 x1 x2 x3 _=>sM R N x0 x1 x2 x3) h
theorem AEq {c:List (List Int)} (h:PyFlat.okCall KS c):Xm c=c:=
 ou (M:=fun c=>Xm c=c) rfl (fun _ _ _ _ _=>rfl) (fun _ _ _=>rfl) (fun _ _=>rfl) (fun _ _ _=>rfl) (fun _ _ _ _=>rfl) (fun _ _ _ _ _=>rfl) (fun _ _ _=>rfl) (fun _ _ _ _ _ _=>rfl) (fun _ _ _ _=>rfl) (fun _=>rfl) (fun _ _=>rfl) (fun _=>rfl) (fun _ _ _ _ _=>rfl) (fun _ _ _ _ _=>rfl) (fun _ _ _ _ _ _=>rfl) (fun _ _ _ _ _=>rfl) (fun _=>rfl) (fun _ _ _ _=>rfl) (fun _ _ _ _=>rfl) h
end
def after (s:BI):List (List (List Int))->BI
 | []=>s
 | c::r=>after (Cd s c).1 r
theorem fk (c:List (List Int)):∀(l:List (List (List Int))) (s:BI),after s (l++[c])=(Cd (after s l) c).1
 | [],_=>rfl
 | d::l,s=>fk c l (Cd s d).1
def Es (s:BI) (cs:List (List (List Int))):List Int:=PyFlat.told (PyFlat.played VbedakNeutral.step s cs)
theorem Yc (s:BI) (c:List (List Int)) (r:List (List (List Int))):Es s (c::r)=(((Cd s c).2.length:Int)::(Cd s c).2)++Es (Cd s c).1 r:=by
 show List.flatMap (fun a:List Int=>(a.length:Int)::a) ((Cd s c).2::PyFlat.played VbedakNeutral.step (Cd s c).1 r)=_
 rw[List.flatMap_cons]
 rfl
theorem Yb (r:List (List (List Int))):∀(l:List (List (List Int))) (s:BI),Es s (l++r)=Es s l++Es (after s l) r
 | [],_=>rfl
 | d::l,s=>by
  rw[dz,Yc,Yc,Yb r l,Ha]
  rfl
theorem uz (c:List (List Int)) (l:List (List (List Int))) (s:BI):Es s (l++[c])=Es s l++[((Cd (after s l) c).2.length:Int)]++(Cd (after s l) c).2:=by
 rw[Yb,Yc]
 show _++((_::_)++[])=_
 rw[EG,Ha]
 rfl
theorem aM (r:List (List (List Int))):∀l:List (List (List Int)),PyFlat.put (l++r)=PyFlat.put l++PyFlat.put r
 | []=>rfl
 | c::l=>by
  show PyFlat.put1 c++PyFlat.put (l++r)=(PyFlat.put1 c++PyFlat.put l)++PyFlat.put r
  rw[aM r l,Ha]
theorem p9 {l:List (List (List Int))} (h:∀c∈l,PyFlat.okCall KS c):l.map Xm=l:=by
 rw[JW (fun c hc=>AEq (h c hc)),List.map_id']
theorem ADW {shape:Int->Option (Nat×Nat)} {c:List (List Int)} (h:PyFlat.okCall KS c) (hf:VbedakNeutral.further c<=1000):∀r∈c.drop 1,r.length<=1000:=by
 have key:∀(l:List (List Int)) (n:Nat),n<=l.foldl (fun (n:Nat) (r:List Int)=>n+r.length) n/\∀r∈l,r.length+n<=l.foldl (fun (n:Nat) (r:List Int)=>n+r.length) n:=by
  intro l
  induction l with
  | nil=>exact fun n=>⟨Aj _,fun r hr=>nomatch hr⟩
  | cons x l ih=>
   intro n
   obtain⟨i1,i2⟩:=ih (n+x.length)
   refine⟨?_,fun r hr=>?_⟩
   . show n<=l.foldl _ (n+x.length)
     lia
   . show r.length+n<=l.foldl _ (n+x.length)
     rcases BK.mp hr with e | e
     . subst e;lia
     . have:=i2 r e;lia
 intro r hr
 have:=(key (c.drop 1) 0).2 r hr
 unfold VbedakNeutral.further at hf
 lia
theorem vK {f:List (List Int)->Nat}:∀(l:List (List (List Int))) (n:Nat),n<=l.foldl (fun (n:Nat) (c:List (List Int))=>n+f c) n/\∀c∈l,f c+n<=l.foldl (fun (n:Nat) (c:List (List Int))=>n+f c) n:=by
 intro l
 induction l with
 | nil=>exact fun n=>⟨Aj _,fun r hr=>nomatch hr⟩
 | cons x l ih=>
  intro n
  obtain⟨i1,i2⟩:=ih (n+f x)
  refine⟨?_,fun r hr=>?_⟩
  . show n<=l.foldl _ (n+f x)
    lia
  . show f r+n<=l.foldl _ (n+f x)
    rcases BK.mp hr with e | e
    . subst e;lia
    . have:=i2 r e;lia
theorem qx {ns:List Int} (h:fe ns=true):∃raw,ns=PyFlat.put raw/\(∀c∈raw,PyFlat.okCall KS c)/\raw.length<=300/\(∀c∈raw,∀r∈c.drop 1,r.length<=1000)/\Xl ns=Es Ds raw/\(Es Ds raw).length<=10000000:=by
 unfold fe at h
 cases hc:PyFlat.calls KS ns.length ns with
 | none=>rw[hc] at h;cases h
 | some raw=>
  rw[hc] at h
  simp only[CB] at h
  obtain⟨⟨⟨⟨h1,h2⟩,h3⟩,h4⟩,h5⟩:=h
  obtain⟨e1,e2⟩:=PyFlat.put_calls _ _ _ hc
  have ea:Xl ns=Es Ds raw:=by
   unfold Xl PyVbedak.calls
   rw[hc]
   show PyFlat.told (PyFlat.played VbedakNeutral.step VbedakNeutral.start (raw.map Xm))=_
   rw[p9 e2]
   rfl
  rw[p9 e2] at h4
  unfold VbedakNeutral.asked at h4
  simp only[CB,decide_eq_true_eq] at h4
  obtain⟨_,_,h6,h7⟩:=h4
  refine⟨raw,e1,e2,h6,fun c hcm=>?_,ea,?_⟩
  . have:=(vK (f:=VbedakNeutral.further) raw 0).2 c hcm
    exact ADW (shape:=KS) (e2 c hcm) (BP (show VbedakNeutral.further c<=_ from this) h7)
  . rw[<-ea]
    unfold PyFlat.short at h5
    exact of_decide_eq_true h5
theorem Bc.beside {W:Cl} {H:Hp} {d g:AA} {k:Dk} {s:BI} (h:Bc W H d k s) {xs ys:List V} (hg:H g=some (.lst xs)) (hn:¬E2 k d g):Bc W (upd H g (.lst ys)) d k s:=by
 have ne:∀{b:AA},E2 k d b->b≠g:=fun hb e=>hn (e▸hb)
 have keep:∀{b:AA} {o:HO},H b=some o->b≠g->upd H g (.lst ys) b=some o:=fun e n=>by rw[AV n];exact e
 have ins:∀{b C dx:AA} {fs:List (AG×V)},H b=some (.ins C dx fs)->b≠g:=fun e z=>by rw[z,hg] at e;cases e
 refine⟨?_,keep h.Gp (ne (.inr (.inl rfl))),fun i hi=>?_,keep h.lst (ne (.inr (.inr (.inl rfl)))),Paired.Be h.dec fun a x ⟨dx,q⟩=>⟨dx,keep q (ins q)⟩,h.ap,h.Mu,h.good⟩
 . obtain⟨dx,q⟩:=h.ins
   exact⟨dx,keep q (ne (.inl rfl))⟩
 . obtain⟨⟨dx,q⟩,⟨q1,q2⟩⟩:=h.BR i hi
   exact⟨⟨dx,keep q (ne (.inr (.inr (.inr ⟨i,hi,.inl rfl⟩))))⟩,⟨keep q1 (ne (.inr (.inr (.inr ⟨i,hi,.inr rfl⟩)))),Paired.Be q2 fun a x ⟨dx,q⟩=>⟨dx,keep q (ins q)⟩⟩⟩
def vC (o:HO) (x:AG):Option V:=match o with
 | .ins _ _ fs=>fs.lookup x
 | _=>none
theorem Bc.tD {W:Cl} {H:Hp} {d x CK dx nd:AA} {k:Dk} {s:BI} {p:Int} {e:Nat} (h:Bc W H d k s) (hx:H x=some (.ins CK dx (Lb p nd e))):¬E2 k d x:=by
 have no:∀{b:AA} {o:HO},H b=some o->vC o "place"=none->x≠b:=fun e1 e2 z=>by
  rw[<-z,hx] at e1
  rw[<-CL e1] at e2
  exact nomatch (show some (V.int p)=none from e2)
 rintro (z | z | z | ⟨i,hi,z | z⟩)
 . obtain⟨Le,q⟩:=h.ins
   exact no q rfl z
 . exact no h.Gp rfl z
 . exact no h.lst rfl z
 . obtain⟨⟨Le,q⟩,_⟩:=h.BR i hi
   exact no q rfl z
 . obtain⟨_,⟨q,_⟩⟩:=h.BR i hi
   exact no q rfl z
structure Lp (W:Cl) (H:Hp) (d g:AA) (cs:List (List (List Int))) (k:Dk) (H':Hp):Prop where
 same:Same H H'
 desk:Bc W H' d k (after Ds cs)
 new:∀b,E2 k d b->H b=none
 g0:H g=none
 gf:¬E2 k d g
 gl:H' g=some (.lst ((Es Ds cs).map V.int))
section
variable {P:Av} {w:Am} {K:AW} {mg:AG->Option AF} {base:Ae} {W:Cl} {CK:AA}
abbrev U3:Au:=top 92
def V8 (K:AW):Sp:=fun vs H Q _=>∃(a:AA) (ns:List Int),vs=[.ref a]/\AQ K H a (ns.map V.int)/\fe ns=true/\∀(H':Hp) (p:AA),H' p=some (.lst ((Xl ns).map V.int))->Q (.ref p) H'
theorem MG:BD ["calls","desk","given","at","call","answer"] ["calls"] (As U3):={}
theorem AAb {f fI:AA} {fd ER:A2} {rg:AG->Option (Int×Int)} (F:A0 K "answers" "answers" U3 f fd) (m1:mg "len"=none) (R:CQ rg) (N:Cu rg) (TK:Sz K CK) (M:Mk K W.CD fI) (mD:mg "Desk"=some (.ref W.CD))
 (GI:Aa P w K mg base Ag 4 fI ER ["self"] (cF W)) (bI:Binds K ER ["self"] []) (gC:Gd P w K mg base 3 "call_at" ["calls","at"] (cA K CK)) (gA:Gd P w K mg base 8 "answer_to" ["desk","place","numbers"] (bx rg W)):
 Aa P w K mg base Ag 9 f fd ["calls"] (V8 K):=by
 refine F.ok MG (fun vs H Q E h=>?_) (fun Al A outer s H vs Q E hr h=>?_)
 . obtain⟨a,ns,rfl,_⟩:=h
   rfl
 . obtain⟨a,ns,rfl,hA,Y7,q⟩:=h
   obtain⟨raw,hns,hok,BV,hsh,xE,hal⟩:=qx Y7
   have JB:AZ=16777216:=Dn
   refine⟨_,AX (A5 (i:=1) MG.nd rfl (Ad rfl) (ABu M GI (hr.mono (by decide)) rfl mD bI .nil CV))
    (AX (A5 (i:=2) MG.nd rfl (Ad rfl) (DE AK))
    (AX (A5 (i:=3) MG.nd rfl (Ad rfl) Ax)
    (AX (nz PassesOwn.never (DY L7 (pv 3) (Eb F9 (by rfl) m1 F3 (AH (pv 0) AK)) (Cy _))
     (AX (A5 (i:=4) MG.nd rfl (Ad rfl) (Bm gC (hr.mono (by decide)) rfl (AH (pv 0) (AH (pv 3) AK))))
     (AX (A5 (i:=5) MG.nd rfl (Ad rfl) (Bm gA hr rfl (AH (pv 1) (AH (Ay (pv 4) rfl) (AH (Ay (pv 4) rfl) AK)))))
     (AX (E8 (F0 F2 Hd He HJ (pv 2) (AH (Eb F9 (by rfl) m1 F3 (AH (pv 5) AK)) AK)))
     (AX (E8 (F0 F2 Xg fG mI (pv 2) (AH (pv 5) AK)))
     (Ac (A5 (i:=3) MG.nd rfl (Ad rfl) (Ay (pv 4) rfl))))))))
    (Ac (A4 (pv 2)))))),?_⟩
   intro d dx hd hdx BX
   refine⟨d,dx,rfl,AO,fun H2 k hD hfr hfp=>⟨rfl,?_⟩⟩
   have kept:∀b o,H b=some o->upd (upd H dx (.own d)) d (.ins W.CD dx []) b=some o/\b≠d:=fun b o e=>by
    have n1:b≠d:=fun z=>by rw[z,hd] at e;cases e
    have n2:b≠dx:=fun z=>by rw[z,hdx] at e;cases e
    exact⟨by rw[AV n1,AV n2];exact e,n1⟩
   have s2:Same H H2:=fun b o e=>hfr b o (kept b o e).1 (kept b o e).2
   have new2:∀b,E2 k d b->H b=none:=fun b hb=>by
    cases e:H b with
    | none=>rfl
    | some o=>
     rcases hfp b hb with z | z
     . rw[z,hd] at e;cases e
     . rw[(kept b o e).1] at z;cases z
   refine⟨(by show 0<=AZ;decide),fun g hg=>?_⟩
   have s3:Same H2 (upd H2 g (.lst [])):=Ao hg
   have g0:H g=none:=by
    cases e:H g with
    | none=>rfl
    | some o=>rw[s2 g o e] at hg;cases hg
   have gf:¬E2 k d g:=fun z=>by
    obtain⟨o,e⟩:=hD.tracked z
    rw[hg] at e
    cases e
   have L0:Lp W H d g [] k (upd H2 g (.lst [])):=⟨s2.trans s3,hD.same s3,new2,g0,gf,AO⟩
   generalize upd H2 g (.lst [])=H3 at L0 ⊢
   refine⟨fun m σ H'=>∃(cs rs:List (List (List Int))) (k:Dk) (z4 z5:Option V),raw=cs++rs/\rs.length=m/\σ=[some (.ref a),some (.ref d),some (.ref g),some (nI (PyFlat.put cs).length),z4,z5]/\Lp W H d g cs k H',
    ⟨raw.length,[],raw,k,none,none,rfl,rfl,rfl,L0⟩,?_⟩
   rintro m σ H4 ⟨cs,rs,k4,z4,z5,Kl,hm,rfl,L⟩
   have ja:AQ K H4 a (ns.map V.int):=L.same.seq hA
   refine⟨_,rfl,_,rfl,a,_,rfl,.inl ja,_,_,rfl,rfl,_,rfl,?_⟩
   rw[AR]
   have hput:ns=PyFlat.put cs++PyFlat.put rs:=by rw[hns,Kl,aM]
   match rs,hm,Kl,hput with
   | [],_,Kl,hput=>
    have hn0:ns.length=(PyFlat.put cs).length:=by rw[hput];show (PyFlat.put cs++[]).length=_;rw[EG]
    have e:decide (((PyFlat.put cs).length:Int) < (ns.length:Int))=false:=decide_eq_false (by lia)
    show if decide (((PyFlat.put cs).length:Int) < (ns.length:Int))=true then _ else _
    rw[e]
    refine BJ ⟨_,rfl,q H4 g ?_⟩
    rw[xE,Kl,EG]
    exact L.gl
   | c::rs,hm,Kl,hput=>
    have hcm:c∈raw:=by rw[Kl];exact DM _ (Bl ..)
    obtain⟨i,AB,hi,C5,NS,CJ,hF,hP⟩:=sx (W:=W) R N (hok c hcm) (hsh c hcm)
    have kW:ns=PyFlat.put cs++((i:Int)::CT AB)++PyFlat.put rs:=by
     rw[hput,Ha]
     show PyFlat.put cs++(PyFlat.put1 c++PyFlat.put rs)=_
     rw[C5]
    have e:decide (((PyFlat.put cs).length:Int) < (ns.length:Int))=true:=decide_eq_true (by
     rw[kW,BZ,BZ,BO];lia)
    show if decide (((PyFlat.put cs).length:Int) < (ns.length:Int))=true then _ else _
    rw[e]
    have hnd:(AB.map (·.1)).Nodup:=by rw[NS];exact zN i hi
    have hil:AB.length<=20:=by have:=zM i hi;rw[<-NS,AR] at this;exact this
    refine A9 ⟨fun σ' H'=>∃(cs':List (List (List Int))) (k':Dk) (dE dF:Option V),cs'=cs++[c]/\σ'=[some (.ref a),some (.ref d),some (.ref g),some (nI (PyFlat.put cs').length),dE,dF]/\Lp W H d g cs' k' H',fun σ' H' ⟨cs',k',dE,dF,e1,e2,e3⟩=>⟨rs.length,by rw[<-hm];exact Hu _,cs',rs,k',dE,dF,by rw[Kl,e1,Ha];rfl,rfl,e2,e3⟩,?_⟩
    refine⟨_,rfl,_,rfl,a,ns,PyFlat.put cs,PyFlat.put rs,i,AB,rfl,ja,kW,hi,NS,CJ,hnd,hil,fun H5 x YM nd kvs s5 hx xm=>?_⟩
    have T4:=L.desk.same s5
    have yQ:=T4.tD hx
    refine⟨_,rfl,_,rfl,x,CK,YM,_,_,rfl,hx,TK.cl,TK.n1,sY _ _ _,_,rfl,x,CK,YM,_,_,rfl,hx,TK.cl,TK.n2,sX _ _ _,d,nd,k4,after Ds cs,kvs,AB,i,c,rfl,T4,xm,hF,hi,hP,fun H6 k6 p Qo mv hp0 Hk=>?_⟩
    have NM:=s5 _ _ L.gl
    have NP:=mv.out _ _ NM L.gf
    have ZZ:=mv.out _ _ hx yQ
    have Yw:¬E2 k6 d g:=fun z=>by
     rcases mv.fp g z with z' | z'
     . exact L.gf z'
     . rw[NM] at z';cases z'
    have s56:Same H H6:=fun b o e=>mv.out b o (s5 _ _ (L.same _ _ e)) fun z=>by
     rw[L.new b z] at e;cases e
    have AAG:∀b,E2 k6 d b->H b=none:=fun b z=>by
     rcases mv.fp b z with z' | z'
     . exact L.new b z'
     . cases e:H b with
       | none=>rfl
       | some o=>rw[s5 _ _ (L.same _ _ e)] at z';cases z'
    have hpg:p≠g:=fun z=>by rw[z,NM] at hp0;cases hp0
    have j0:=uz c cs Ds
    have yK:(Es Ds (cs++[c])).length<=10000000:=by
     have e1:Es Ds raw=Es Ds (cs++[c])++Es (after Ds (cs++[c])) rs:=by
      rw[<-Yb,Ha]
      rw[Kl]
      rfl
     rw[e1,BZ] at hal
     lia
    rw[j0,BZ,BZ,FW] at yK
    refine⟨_,rfl,.inl ⟨rfl,_,AQ.of NP⟩,_,rfl,p,_,rfl,.inl (AQ.of Hk),g,_,_,rfl,rfl,NP,(by rw[AR];lia),?_⟩
    have NQ:upd H6 g (.lst ((Es Ds cs).map V.int++[V.int (((Cd (after Ds cs) c).2.map V.int).length:Int)])) g=some (.lst ((Es Ds cs).map V.int++[V.int (((Cd (after Ds cs) c).2.map V.int).length:Int)])):=AO
    have ZO:upd H6 g (.lst ((Es Ds cs).map V.int++[V.int (((Cd (after Ds cs) c).2.map V.int).length:Int)])) p=some (.lst ((Cd (after Ds cs) c).2.map V.int)):=by rw[AV hpg];exact Hk
    have Qp:=Qo.beside (ys:=(Es Ds cs).map V.int++[V.int (((Cd (after Ds cs) c).2.map V.int).length:Int)]) NP Yw
    refine⟨_,rfl,.inl ⟨rfl,_,AQ.of NQ⟩,_,rfl,g,p,_,_,rfl,rfl,NQ,.inr (AQ.of ZO),(by rw[BZ,AR,AR,FW];lia),?_⟩
    have Qq:=Qp.beside (ys:=((Es Ds cs).map V.int++[V.int (((Cd (after Ds cs) c).2.map V.int).length:Int)])++(Cd (after Ds cs) c).2.map V.int) NQ Yw
    have ku:x≠g:=fun z=>by rw[z,NP] at ZZ;cases ZZ
    refine⟨_,rfl,x,CK,YM,_,_,rfl,(by rw[AV ku,AV ku];exact ZZ),TK.cl,TK.n3,sW _ _ _,cs++[c],k6,some (.ref x),some (.ref p),rfl,?_,?_⟩
    . have e1:(PyFlat.put (cs++[c])).length=(PyFlat.put cs).length+1+(CT AB).length:=by
       rw[aM]
       show (PyFlat.put cs++(PyFlat.put1 c++[])).length=_
       rw[EG,C5,BZ,BO]
       lia
      rw[e1]
      rfl
    . refine⟨fun b o e=>?_,?_,AAG,g0,Yw,?_⟩
      . have:b≠g:=fun z=>by rw[z,g0] at e;cases e
        rw[AV this,AV this]
        exact s56 _ _ e
      . rw[fk]
        exact Qq
      . rw[AO,j0,Ba,Ba]
        rw[AR]
        rfl
end
structure dk (K:AW) (mg:AG->Option AF) (C:AA):Prop where
 at_:mg "Decision"=some (.ref C)
 T:O5 K C
 i:MX K C "Decision.__init__" Vd
structure KCall (K:AW) (mg:AG->Option AF) (C:AA):Prop where
 at_:mg "Call"=some (.ref C)
 T:Sz K C
 i:MX K C "Call.__init__" VW
structure Zs (mg:AG->Option AF):Prop where
 len:mg "len"=none
 sorted:mg "sorted"=none
 set:mg "set"=none
 zip:mg "zip"=none
 range:mg "range"=none
 all:mg "all"=none
 sum:mg "sum"=none
 min:mg "min"=none
 max:mg "max"=none
 list:mg "list"=none
 enumerate:mg "enumerate"=none
def O7:List AG:=["begin","write","hand","sync","knows","knew","line","since","changed","decide","wrong","unlike","all_entries","fewest","painted","howlong","differ","hidden","first","asof"]
section
variable {P:Av} {w:Am} {K:AW} {mg:AG->Option AF} {base:Ae} {W:Cl}
theorem Ak.gd {x:AG} {st:Au} {k:Nat} {ps:List AG} {sp:Sp} (d:Ak K mg x st)
 (ok:∀f fd,A0 K x x st f fd->Aa P w K mg base Ag k f fd ps sp)
 (h:∀(kV doc pm:AF) (an:Option AA) (Al ct:AF),K7 ps fun us=>bindArgs (Ig x x (Jf st) (Io st) (As st) .none kV doc pm an Al ct) ⟨us,[]⟩=pure (ps.zip us):=by (repeat intro _);exact rfl):Gd P w K mg base k x ps sp:=by
 obtain⟨f,fd,m,F⟩:=d
 exact⟨f,fd,m,F.kp,F.binds h,ok f fd F⟩
theorem KMeth.gm {C:AA} {x Bp:AG} {st:Au} {k:Nat} {ps:List AG} {sp:Sp} (d:KMeth K C x Bp st)
 (ok:∀f fd,A0 K x Bp st f fd->Aa P w K mg base Ag k f fd ps sp)
 (h:∀(kV doc pm:AF) (an:Option AA) (Al ct:AF),K7 ps fun us=>bindArgs (Ig x Bp (Jf st) (Io st) (As st) .none kV doc pm an Al ct) ⟨us,[]⟩=pure (ps.zip us):=by (repeat intro _);exact rfl):Gm P w K mg base C k x ps sp:=by
 obtain⟨f,fd,m,F⟩:=d
 exact⟨f,fd,m,F.binds h,ok f fd F⟩
theorem _root_.L2.Gd.mono {j k:Nat} {x:AG} {ps:List AG} {sp:Sp} (g:Gd P w K mg base j x ps sp) (h:j<=k):Gd P w K mg base k x ps sp:=by
 obtain⟨f,fd,m,q,b,F⟩:=g
 exact⟨f,fd,m,q,b,F.mono h⟩
theorem qi {a:AA} {gs:List AA} (hgs:∀H:Hp,Ap K H a (gs.map V.ref)) (hp:Ar (fun x g=>mg x=some (.ref g)) O7 gs) (all:∀(i:Nat) (x:AG),O7[i]? =some x->Gd P w K mg base 7 x ["desk","numbers"] (R1 W i)):W4 P w K mg base W a:=by
 refine⟨gs,(Paired.len hp).symm,hgs,fun i g hg=>?_⟩
 obtain⟨x,hx,m⟩:=Paired.get? hp hg
 obtain⟨f,fd,m',q,b,F⟩:=all i x hx
 rw[m] at m'
 cases m'
 exact⟨q,fd,b,F⟩
inductive MT (K:AW):Nat->List AA->Prop
 | nil:MT K 20 []
 | cons {i:Nat} {f:AA} {fs:List AA} (h:∀H:Hp,Ap K H f ((letters i).map V.str)) (t:MT K (i+1) fs):MT K i (f::fs)
theorem MT.all {i:Nat} {fs:List AA} (h:MT K i fs):fs.length+i=20/\∀(j:Nat) (f:AA),fs[j]? =some f->∀H:Hp,Ap K H f ((letters (i+j)).map V.str):=by
 induction h with
 | nil=>exact⟨rfl,fun j f hf=>nomatch hf⟩
 | cons h t ih=>
  refine⟨by rw[BO];lia,fun j f hf=>?_⟩
  cases j with
  | zero=>cases hf;exact h
  | succ j=>
   have:=ih.2 j f hf
   rw[Nat.add_right_comm] at this
   exact this
theorem vI {a:AA} {fs:List AA} (h:∀H:Hp,Ap K H a (fs.map V.ref)) (t:MT K 0 fs):SY K a:=by
 obtain⟨h1,h2⟩:=t.all
 refine⟨fs,h1,h,fun i f hf=>?_⟩
 have:=h2 i f hf
 rw[LR] at this
 exact this
theorem ED {t:AA} {od:Option AA} {AB:Array AF} {n:Nat} {sl:Array (Option AF)} {xs:List V} (l:K.lookup t=some ⟨.type "tuple",od,.seq AB n,sl⟩) (hs:AB.size<=AZ) (v:Vals xs AB.toList):∀H:Hp,Ap K H t xs:=
 fun H=>.inr ⟨_,AB,n,l,rfl,rfl,hs,v⟩
def aS:List (AG×Int×Int):=[("c",1,3),("d",1,3),("k",1,20),("m",0,999999),("a",0,999999),("b",1,1000000),("v",0,1000000000),("i",0,1000000000),("j",1,1000000000),("clock",0,1000000000)]
theorem ACi:CQ (JL aS):=⟨rfl,rfl,rfl,rfl,rfl,rfl,rfl,rfl,rfl,rfl⟩
theorem ACj:Cu (JL aS):=⟨rfl,rfl,rfl,rfl⟩
theorem zp {CK aR aF aL aA fa:AA} {gs:List AA} {Tv:A2} {rg:AG->Option (Int×Int)} (R:CQ rg) (N:Cu rg) (hE:dn K mg W.CE) (hC:dj K mg W.CC) (hN:dk K mg W.CN) (hD:dm K mg W.CD) (hK:KCall K mg CK) (co:LC mg) (z:Zs mg)
 (mR:mg "RANGES"=some (.ref aR)) (hR:O4 P w K aR rg) (mF:mg "FORMS"=some (.ref aF)) (hF:SY K aF) (zo:mg "LISTS"=some (.ref aL)) (hLs:∀H:Hp,Ap K H aL Jq)
 (zm:mg "ANSWERERS"=some (.ref aA)) (hgs:∀H:Hp,Ap K H aA (gs.map V.ref)) (hga:Ar (fun x g=>mg x=some (.ref g)) O7 gs)
 (M3:Ak K mg "stamp_of" MF)
 (M4:Ak K mg "tells_of" Rn)
 (QC:Ak K mg "latest" VZ)
 (QS:Ak K mg "value_at" Vp)
 (QR:Ak K mg "entry_told" Vn)
 (QO:Ak K mg "starts" Rm)
 (QB:Ak K mg "joined" VS)
 (QD:Ak K mg "line_of" Ri)
 (QP:Ak K mg "stretches" N3)
 (Pl:Ak K mg "changes_between" U8)
 (Pu:Ak K mg "counted" U9)
 (QU:Ak K mg "whole_entry" Vr)
 (QM:Ak K mg "stamps_known_by" Vh)
 (QG:Ak K mg "minutes_with" Rj)
 (PY:Ak K mg "begin" U4)
 (P0:Ak K mg "write" Vt)
 (Pk:Ak K mg "hand" VJ)
 (Py:Ak K mg "sync" Vk)
 (Pr:Ak K mg "knows" VY)
 (Pq:Ak K mg "knew" VX)
 (Pt:Ak K mg "line" Va)
 (Px:Ak K mg "since" Vj)
 (PZ:Ak K mg "changed" U7)
 (Pa:Ak K mg "decide" VA)
 (P1:Ak K mg "wrong" Ro)
 (Pz:Ak K mg "unlike" N4)
 (PR:Ak K mg "all_entries" RZ)
 (QJ:Ak K mg "pieces_of" Rk)
 (QL:Ak K mg "is_rising" Rl)
 (QV:Ak K mg "within" Vs)
 (P7:Ak K mg "in_range" VP)
 (P8:Ak K mg "is_line" Rh)
 (P9:Ak K mg "is_stroke" VQ)
 (PN:Ak K mg "are_strokes" Ra)
 (Pg:Ak K mg "cell_starts" U6)
 (QN:Ak K mg "shall_at" Vi)
 (P4:Ak K mg "fewer_of" VC)
 (QT:Ak K mg "ways_anew" Vq)
 (PJ:Ak K mg "found_anew" U1)
 (QI:Ak K mg "found_over" Ve)
 (P5:Ak K mg "fewest_strokes" MD)
 (Ph:Ak K mg "fewest" VD)
 (Pw:Ak K mg "painted" Vf)
 (Pp:Ak K mg "howlong" VN)
 (Pb:Ak K mg "differ" VB)
 (Pn:Ak K mg "hidden" Rg)
 (Pj:Ak K mg "first" VF)
 (PX:Ak K mg "asof" Rb)
 (QE:Ak K mg "lists_as_told" Vb)
 (P6:Ak K mg "is_full" VG)
 (QQ:Ak K mg "ticks_there" Vl)
 (QH:Ak K mg "is_missing" Vc)
 (QF:Ak K mg "has_too_many_cells" Vo)
 (QK:Ak K mg "refusal" Vg)
 (PQ:Ak K mg "call_at" U5)
 (PL:Ak K mg "answer_to" U2)
 (Fa:A0 K "answers" "answers" U3 fa Tv):Aa P w K mg base Ag 9 fa Tv ["calls"] (V8 K):=by
 obtain⟨fEi,uk,eN,W7⟩:=hE.i
 have fv:Binds K uk ["self","clock","source","key","from_minute","up_to","value"] []:=W7.binds
 obtain⟨fCi,ui,qX,dX⟩:=hC.i
 have rK:Binds K ui ["self","number"] []:=dX.binds
 obtain⟨fNi,uq,qa,da⟩:=hN.i
 have rN:Binds K uq ["self","number","centre","tick","key","minute"] []:=da.binds
 obtain⟨uh,jE,qY,dY⟩:=hD.i
 have rL:Binds K jE ["self"] []:=dY.binds
 obtain⟨fKi,um,qZ,dZ⟩:=hK.i
 have rM:Binds K um ["self","place","numbers","end"] []:=dZ.binds
 have jX:Gd P w K mg base 1 "stamp_of" ["entry"] (J1 W.CE):=M3.gd fun f fd F=>Ul F hE.T
 have AEr:Gd P w K mg base 1 "tells_of" ["entry","key","minute"] (cf W.CE):=M4.gd fun f fd F=>my F hE.T
 obtain⟨fs,fds,ms,Fs⟩:=M3
 have bs:Binds K fds ["entry"] []:=Fs.binds
 obtain⟨ft,Qc,mt,Ft⟩:=M4
 have bt:Binds K Qc ["entry","key","minute"] []:=Ft.binds
 have Tz:Gd P w K mg base 2 "latest" ["entries","key","minute"] (Kz K W.CE):=QC.gd fun f fd F=>ABF F hE.T Fs bs ms Ft bt mt
 obtain⟨fL,Iq,mL,kL,bL,GL⟩:=Tz
 have Tz:Gd P w K mg base 2 "latest" ["entries","key","minute"] (Kz K W.CE):=⟨fL,Iq,mL,kL,bL,GL⟩
 have ND:Gd P w K mg base 3 "value_at" ["entries","key","minute"] (K0 K W.CE):=QS.gd fun f fd F=>ABd F hE.T GL kL bL mL
 have Yr:Gd P w K mg base 1 "entry_told" ["entry"] (OM W.CE):=QR.gd fun f fd F=>ABb F hE.T
 have T2:Gd P w K mg base 1 "starts" ["entries","key","a","b"] (OL K W.CE):=QO.gd fun f fd F=>ABV F hE.T z.sorted z.set
 have Yp:Gd P w K mg base 1 "joined" ["pieces"] (Rz K):=QB.gd fun f fd F=>ABB F z.len
 obtain⟨fV,fdV,mV,kV,bV,GV⟩:=ND
 have ND:Gd P w K mg base 3 "value_at" ["entries","key","minute"] (K0 K W.CE):=⟨fV,fdV,mV,kV,bV,GV⟩
 obtain⟨fS,Ke,mS,kS,bS,GS⟩:=T2
 have T2:Gd P w K mg base 1 "starts" ["entries","key","a","b"] (OL K W.CE):=⟨fS,Ke,mS,kS,bS,GS⟩
 obtain⟨fJ,Ts,mJ,kJ,bJ,GJ⟩:=Yp
 have Yp:Gd P w K mg base 1 "joined" ["pieces"] (Rz K):=⟨fJ,Ts,mJ,kJ,bJ,GJ⟩
 have T1:Gd P w K mg base 4 "line_of" ["entries","key","a","b"] (OJ K W.CE):=QD.gd fun f fd F=>ABG F GS kS bS mS GV kV bV mV GJ kJ bJ mJ
 have jY:Gd P w K mg base 1 "stretches" ["runs","b"] (Wa K):=QP.gd fun f fd F=>ABW F z.zip
 have Ym:Gd P w K mg base 4 "changes_between" ["one","other","key","a","b"] (Rx K W.CE):=Pl.gd fun f fd F=>AAk F T2 ND Yp jY
 have Kh:Gd P w K mg base 1 "counted" ["rows"] (IL K):=Pu.gd fun f fd F=>AAp F z.len
 have wN:Gd P w K mg base 1 "whole_entry" ["entry"] (cn W.CE):=QU.gd fun f fd F=>ABf F hE.T
 have wI:Gd P w K mg base 3 "stamps_known_by" ["entries"] (cZ K W.CE):=QM.gd fun f fd F=>ABS F hE.T Tz jX
 have wC:Gd P w K mg base 5 "minutes_with" ["entries","key","a","b","value"] (cU K W.CE):=QG.gd fun f fd F=>ABK F z.sum T1 jY
 have NC:Gm P w K mg base W.CC 1 "tick_now" ["self"] (J2 W.CC W.CE):=hC.m1.gm fun f fd F=>ABZ F hC.T z.len
 have Tx:Gm P w K mg base W.CC 1 "at_tick" ["self","tick"] (Ky W.CC W.CE):=hC.m2.gm fun f fd F=>AAe F hC.T
 have Yo:Gm P w K mg base W.CC 2 "has" ["self","entry"] (Ry W.CC W.CE):=hC.m3.gm fun f fd F=>AA3 F hC.T hE.T Fs bs ms
 have Yn:Gm P w K mg base W.CC 3 "write" ["self","key","a","b","value"] (bz W.CC W.CE):=hC.m4.gm fun f fd F=>AAq F hC.T hE.T eN hE.at_ W7 fv
 obtain⟨fH,Tr,mH,bH,GH⟩:=Yo
 have Yo:Gm P w K mg base W.CC 2 "has" ["self","entry"] (Ry W.CC W.CE):=⟨fH,Tr,mH,bH,GH⟩
 have wK:Gm P w K mg base W.CC 3 "take" ["self","entry"] (Wc W.CC W.CE):=hC.m5.gm fun f fd F=>ABY F hC.T hE.T z.max GH bH mH
 have Yx:Gm P w K mg base W.CC 4 "knew" ["self","tick","key","minute"] (Rv W.CC W.CE):=hC.m6.gm fun f fd F=>AAn F hC.T ND Tx
 have Yy:Gm P w K mg base W.CC 4 "knows" ["self","key","minute"] (Rw W.CC W.CE):=hC.m7.gm fun f fd F=>AAo F hC.T ND
 have jW:Gm P w K mg base W.CC 5 "first_tick" ["self","key","minute","value"] (WO W.CC W.CE):=hC.m8.gm fun f fd F=>AAz F hC.T z.range Yx NC
 have vw:Gm P w K mg base W.CC 3 "entries_if_written" ["self","key","strokes"] (cO K W.CC W.CE):=hC.m9.gm fun f fd F=>AA7 F hC.T hE.T eN hE.at_ z.list z.enumerate W7 fv
 have vn:Gm P w K mg base W.CD 3 "begin" ["self"] (WC W):=hD.m1.gm fun f fd F=>AAf F hD.T hC.T qX hC.at_ dX rK
 obtain⟨fB,M9,mB,bB,GB⟩:=vn
 have qR:Aa P w K mg base Ag 4 uh jE ["self"] (cF W):=AAu dY hD.T GB bB mB
 obtain⟨fW,NA,mW,bW,GW⟩:=Yn
 have vp:Gm P w K mg base W.CD 4 "write" ["self","c","key","a","b","value"] (cG W):=hD.m2.gm fun f fd F=>AAv F hD.T hC.T GW bW mW
 obtain⟨fT,E6,mT,bT,GT⟩:=NC
 have NC:Gm P w K mg base W.CC 1 "tick_now" ["self"] (J2 W.CC W.CE):=⟨fT,E6,mT,bT,GT⟩
 have vo:Gm P w K mg base W.CD 3 "decide" ["self","number","c","key","minute"] (cB W):=hD.m3.gm fun f fd F=>AAr F hD.T hC.T hN.T GT bT mT qa hN.at_ da rN
 have vv:Gm P w K mg base W.CD 1 "has_decision" ["self","number"] (cM W):=hD.m4.gm fun f fd F=>AA4 F hD.T hN.T
 obtain⟨fE,uj,mE,kE,bE,GE⟩:=Yr
 have Yr:Gd P w K mg base 1 "entry_told" ["entry"] (OM W.CE):=⟨fE,uj,mE,kE,bE,GE⟩
 obtain⟨fA,Ip,mA,bA,GA⟩:=Tx
 have Tx:Gm P w K mg base W.CC 1 "at_tick" ["self","tick"] (Ky W.CC W.CE):=⟨fA,Ip,mA,bA,GA⟩
 obtain⟨fN,uo,mN,kN,bN,GN⟩:=T1
 have T1:Gd P w K mg base 4 "line_of" ["entries","key","a","b"] (OJ K W.CE):=⟨fN,uo,mN,kN,bN,GN⟩
 obtain⟨fC,Lg,mC,kC,bC,GC⟩:=Kh
 have Kh:Gd P w K mg base 1 "counted" ["rows"] (IL K):=⟨fC,Lg,mC,kC,bC,GC⟩
 obtain⟨fX,Tt,mX,kX,bX,GX⟩:=Ym
 have Ym:Gd P w K mg base 4 "changes_between" ["one","other","key","a","b"] (Rx K W.CE):=⟨fX,Tt,mX,kX,bX,GX⟩
 obtain⟨fQ,fdQ,mQ,bQ,GQ⟩:=vp
 obtain⟨fU,fdU,mU,bU,GU⟩:=vo
 obtain⟨fY,fdY,mY,bY,GY⟩:=wK
 have vU:Gd P w K mg base 4 "begin" ["desk","numbers"] (WD W):=PY.gd fun f fd F=>AAg F hD.T GB bB mB
 have Yn:Gd P w K mg base 5 "write" ["desk","numbers"] (Wf W):=P0.gd fun f fd F=>ABh F hD.T hC.T hE.T GQ bQ mQ GT bT mT
 have va:Gd P w K mg base 4 "hand" ["desk","numbers"] (WR W):=Pk.gd fun f fd F=>AA2 F hD.T hC.T GY bY mY
 have vj:Gd P w K mg base 4 "sync" ["desk","numbers"] (Wb W):=Py.gd fun f fd F=>ABX F hD.T hC.T hE.T z.sorted GY bY mY Fs bs ms
 have vf:Gd P w K mg base 3 "knows" ["desk","numbers"] (WW W):=Pr.gd fun f fd F=>ABE F hD.T hC.T GL kL bL mL GE kE bE mE
 have ve:Gd P w K mg base 3 "knew" ["desk","numbers"] (WV W):=Pq.gd fun f fd F=>ABD F hD.T hC.T GL kL bL mL GE kE bE mE GA bA mA
 have vg:Gd P w K mg base 5 "line" ["desk","numbers"] (WX W):=Pt.gd fun f fd F=>ABH F hD.T hC.T GN kN bN mN GC kC bC mC GA bA mA
 have vi:Gd P w K mg base 5 "since" ["desk","numbers"] (WZ W):=Px.gd fun f fd F=>ABU F hD.T hC.T Yy Yx NC
 have vV:Gd P w K mg base 5 "changed" ["desk","numbers"] (WH W):=PZ.gd fun f fd F=>AAj F hD.T hC.T GX kX bX mX GC kC bC mC GA bA mA
 have vW:Gd P w K mg base 5 "decide" ["desk","numbers"] (WK W):=Pa.gd fun f fd F=>AAs F hD.T hC.T GU bU mU Yy
 have vm:Gd P w K mg base 5 "wrong" ["desk","numbers"] (Wg W):=P1.gd fun f fd F=>ABi F hD.T hC.T hN.T Yy Yx Kh
 have vk:Gd P w K mg base 3 "unlike" ["desk","numbers"] (Wd W):=Pz.gd fun f fd F=>ABc F hD.T hC.T z.len Yo
 have vS:Gd P w K mg base 2 "all_entries" ["desk","numbers"] (V7 W):=PR.gd fun f fd F=>AAY F hD.T hC.T wN Kh
 have Yq:Gd P w K mg base 1 "pieces_of" ["row","size"] (R3 K):=QJ.gd fun f fd F=>ABP F z.range z.len
 have wH:Gd P w K mg base 1 "is_rising" ["minutes"] (cY K):=QL.gd fun f fd F=>ABR F z.all z.zip
 have Ys:Gd P w K mg base 1 "within" ["letter","number"] (R4 rg):=QV.gd fun f fd F=>ABg F mR hR
 have vx:Gd P w K mg base 2 "in_range" ["numbers"] (cP rg):=P7.gd fun f fd F=>AA8 F mR hR Ys
 have vy:Gd P w K mg base 2 "is_line" ["shall","a","b"] (cQ K):=P8.gd fun f fd F=>AA9 F z.len z.all R.v Ys wH
 have vz:Gd P w K mg base 2 "is_stroke" ["piece","a","b"] (cR K):=P9.gd fun f fd F=>ABA F R.v Ys
 have vQ:Gd P w K mg base 3 "are_strokes" ["strokes","a","b"] (V9 K):=PN.gd fun f fd F=>AAc F z.len z.all Yq vz
 have jU:Gd P w K mg base 2 "cell_starts" ["entries","key","a","b","shall"] (WG K W.CE):=Pg.gd fun f fd F=>AAi F z.sorted z.set T2
 have wJ:Gd P w K mg base 2 "shall_at" ["shall","minute"] (cc K):=QN.gd fun f fd F=>ABT F Yq
 have jV:Gd P w K mg base 1 "fewer_of" ["ways"] (WM K):=P4.gd fun f fd F=>AAw F z.min z.len
 have wM:Gd P w K mg base 1 "ways_anew" ["anew","shall","i","j"] (cj K):=QT.gd fun f fd F=>ABe F z.range
 have vO:Gd P w K mg base 2 "found_anew" ["shall"] (bw K):=PJ.gd fun f fd F=>AAZ F z.range z.len wM jV
 have wF:Gd P w K mg base 3 "found_over" ["known","shall"] (cW K):=QI.gd fun f fd F=>ABN F z.range z.len vO jV
 have vq:Gd P w K mg base 4 "fewest_strokes" ["entries","key","a","b","shall"] (cI K W.CE):=P5.gd fun f fd F=>AAx F jU ND wJ wF
 have vY:Gd P w K mg base 5 "fewest" ["desk","numbers"] (WN W):=Ph.gd fun f fd F=>AAy F hD.T hC.T vq Kh
 have vh:Gd P w K mg base 5 "painted" ["desk","numbers"] (WY W):=Pw.gd fun f fd F=>ABO F hD.T hC.T Yq vw T1 Kh
 have vd:Gd P w K mg base 6 "howlong" ["desk","numbers"] (WU W):=Pp.gd fun f fd F=>AA6 F hD.T hC.T wC Tx
 have vX:Gd P w K mg base 5 "differ" ["desk","numbers"] (WL W):=Pb.gd fun f fd F=>AAt F hD.T hC.T Ym Kh
 have vb:Gd P w K mg base 4 "hidden" ["desk","numbers"] (WT W):=Pn.gd fun f fd F=>AA5 F hD.T hC.T wI jX Kh
 have vZ:Gd P w K mg base 6 "first" ["desk","numbers"] (WQ W):=Pj.gd fun f fd F=>AA0 F hD.T hC.T jW
 have vT:Gd P w K mg base 3 "asof" ["desk","numbers"] (WB W):=PX.gd fun f fd F=>AAd F hD.T hC.T hE.T Tz Yr
 have wA:Gd P w K mg base 4 "lists_as_told" ["numbers"] cS:=QE.gd fun f fd F=>ABI F vy vQ
 have vt:Gd P w K mg base 1 "is_full" ["desk","place"] (cJ W):=P6.gd fun f fd F=>AA1 F hD.T co z.len
 have wL:Gd P w K mg base 2 "ticks_there" ["desk","numbers"] (cg W):=QQ.gd fun f fd F=>ABa F hD.T hC.T NC
 have wD:Gd P w K mg base 6 "is_missing" ["desk","place","numbers"] (cV W):=QH.gd fun f fd F=>ABL F hD.T hC.T co NC jW
 have wB:Gd P w K mg base 3 "has_too_many_cells" ["desk","place","numbers"] (cT W):=QF.gd fun f fd F=>ABJ F hD.T hC.T co z.len jU
 have wG:Gd P w K mg base 7 "refusal" ["desk","place","numbers"] (cX rg W):=QK.gd fun f fd F=>ABQ F R hD.T co vx wA vv vt wL wD wB
 have vR:Gd P w K mg base 3 "call_at" ["calls","at"] (cA K CK):=PQ.gd fun f fd F=>AAh F hK.T qZ hK.at_ dZ rM mF hF zo hLs
 have wa:∀(i:Nat) (x:AG),O7[i]? =some x->Gd P w K mg base 7 x ["desk","numbers"] (R1 W i):=fun i x hx=>by
  match i,hx with
  | 0,hx=>cases hx;exact vU.mono (by decide)
  | 1,hx=>cases hx;exact Yn.mono (by decide)
  | 2,hx=>cases hx;exact va.mono (by decide)
  | 3,hx=>cases hx;exact vj.mono (by decide)
  | 4,hx=>cases hx;exact vf.mono (by decide)
  | 5,hx=>cases hx;exact ve.mono (by decide)
  | 6,hx=>cases hx;exact vg.mono (by decide)
  | 7,hx=>cases hx;exact vi.mono (by decide)
  | 8,hx=>cases hx;exact vV.mono (by decide)
  | 9,hx=>cases hx;exact vW.mono (by decide)
  | 10,hx=>cases hx;exact vm.mono (by decide)
  | 11,hx=>cases hx;exact vk.mono (by decide)
  | 12,hx=>cases hx;exact vS.mono (by decide)
  | 13,hx=>cases hx;exact vY.mono (by decide)
  | 14,hx=>cases hx;exact vh.mono (by decide)
  | 15,hx=>cases hx;exact vd.mono (by decide)
  | 16,hx=>cases hx;exact vX.mono (by decide)
  | 17,hx=>cases hx;exact vb.mono (by decide)
  | 18,hx=>cases hx;exact vZ.mono (by decide)
  | 19,hx=>cases hx;exact vT.mono (by decide)
  | n+20,hx=>exact nomatch hx
 have hAt:W4 P w K mg base W aA:=qi hgs hga wa
 have vP:Gd P w K mg base 8 "answer_to" ["desk","place","numbers"] (bx rg W):=PL.gd fun f fd F=>AAa F co wG zm hAt
 exact AAb Fa z.len R N hK.T qY hD.at_ qR rL vR vP
end
def yi (i:Int):AF->Bool
 | .int j _=>decide (j=i)
 | _=>false
theorem FJ {mg:AG->Option AF} {n:AG} {v:AF} {i:Int} (h:mg n=some v) (e:yi i v=true):∃t,mg n=some (.int i t):=by
 cases v with
 | int j t=>
  have:j=i:=of_decide_eq_true e
  exact⟨t,by rw[h,this]⟩
 | _=>exact nomatch e
theorem all_mk {P:Av} {w:Am} {K:AW} {h:Ae} {mg:AG->Option AF} {fa:AA} (X:K.In h) (G:h.Ns Hm mg) (hfa:mg "answers"=some (.ref fa))
 (cE:∃C,dn K mg C) (cC:∃C,dj K mg C) (cN:∃C,dk K mg C) (cD:∃C,dm K mg C) (cK:∃C,KCall K mg C) (co:LC mg) (z:Zs mg)
 (rR:∃a,mg "RANGES"=some (.ref a)/\O4 P w K a (JL aS)) (fF:∃a,mg "FORMS"=some (.ref a)/\SY K a) (lL:∃a,mg "LISTS"=some (.ref a)/\∀H:Hp,Ap K H a Jq)
 (aA:∃a gs,mg "ANSWERERS"=some (.ref a)/\(∀H:Hp,Ap K H a (gs.map V.ref))/\Ar (fun x g=>mg x=some (.ref g)) O7 gs)
 (M3:Ak K mg "stamp_of" MF)
 (M4:Ak K mg "tells_of" Rn)
 (QC:Ak K mg "latest" VZ)
 (QS:Ak K mg "value_at" Vp)
 (QR:Ak K mg "entry_told" Vn)
 (QO:Ak K mg "starts" Rm)
 (QB:Ak K mg "joined" VS)
 (QD:Ak K mg "line_of" Ri)
 (QP:Ak K mg "stretches" N3)
 (Pl:Ak K mg "changes_between" U8)
 (Pu:Ak K mg "counted" U9)
 (QU:Ak K mg "whole_entry" Vr)
 (QM:Ak K mg "stamps_known_by" Vh)
 (QG:Ak K mg "minutes_with" Rj)
 (PY:Ak K mg "begin" U4)
 (P0:Ak K mg "write" Vt)
 (Pk:Ak K mg "hand" VJ)
 (Py:Ak K mg "sync" Vk)
 (Pr:Ak K mg "knows" VY)
 (Pq:Ak K mg "knew" VX)
 (Pt:Ak K mg "line" Va)
 (Px:Ak K mg "since" Vj)
 (PZ:Ak K mg "changed" U7)
 (Pa:Ak K mg "decide" VA)
 (P1:Ak K mg "wrong" Ro)
 (Pz:Ak K mg "unlike" N4)
 (PR:Ak K mg "all_entries" RZ)
 (QJ:Ak K mg "pieces_of" Rk)
 (QL:Ak K mg "is_rising" Rl)
 (QV:Ak K mg "within" Vs)
 (P7:Ak K mg "in_range" VP)
 (P8:Ak K mg "is_line" Rh)
 (P9:Ak K mg "is_stroke" VQ)
 (PN:Ak K mg "are_strokes" Ra)
 (Pg:Ak K mg "cell_starts" U6)
 (QN:Ak K mg "shall_at" Vi)
 (P4:Ak K mg "fewer_of" VC)
 (QT:Ak K mg "ways_anew" Vq)
 (PJ:Ak K mg "found_anew" U1)
 (QI:Ak K mg "found_over" Ve)
 (P5:Ak K mg "fewest_strokes" MD)
 (Ph:Ak K mg "fewest" VD)
 (Pw:Ak K mg "painted" Vf)
 (Pp:Ak K mg "howlong" VN)
 (Pb:Ak K mg "differ" VB)
 (Pn:Ak K mg "hidden" Rg)
 (Pj:Ak K mg "first" VF)
 (PX:Ak K mg "asof" Rb)
 (QE:Ak K mg "lists_as_told" Vb)
 (P6:Ak K mg "is_full" VG)
 (QQ:Ak K mg "ticks_there" Vl)
 (QH:Ak K mg "is_missing" Vc)
 (QF:Ak K mg "has_too_many_cells" Vo)
 (QK:Ak K mg "refusal" Vg)
 (PQ:Ak K mg "call_at" U5)
 (PL:Ak K mg "answer_to" U2)
 (YG:Ak K mg "answers" U3):
 ∃fd:A2,(∀(s:AI) (us:List AF),us.length=(["calls"]:List AG).length->BindsTo s fd ⟨us,[]⟩ ((["calls"]:List AG).zip us))/\∀base:Ae,K.In base->base.Ns Hm mg->Aa P w K mg base Ag 9 fa fd ["calls"] (V8 K):=by
 obtain⟨CE,hE⟩:=cE
 obtain⟨CC,hC⟩:=cC
 obtain⟨CN,hN⟩:=cN
 obtain⟨CD,hD⟩:=cD
 obtain⟨CK,hK⟩:=cK
 obtain⟨aR,mR,hR⟩:=rR
 obtain⟨aF,mF,hF⟩:=fF
 obtain⟨aL,mL,hL⟩:=lL
 obtain⟨aN,gs,mA,hgs,hga⟩:=aA
 obtain⟨fa',Tv,ma,Fa⟩:=YG
 rw[hfa] at ma
 cases ma
 refine⟨Tv,fun s us hu=>?_,fun base _ _=>zp (W:=⟨CE,CC,CN,CD⟩) ACi ACj hE hC hN hD hK co z mR hR mF hF mL hL mA hgs hga M3 M4 QC QS QR QO QB QD QP Pl Pu QU QM QG PY P0 Pk Py Pr Pq Pt Px PZ Pa P1 Pz PR QJ QL QV P7 P8 P9 PN Pg QN P4 QT PJ QI P5 Ph Pw Pp Pb Pn Pj PX QE P6 QQ QH QF QK PQ PL Fa⟩
 obtain⟨oc,od,kV,doc,pm,an,Al,ct,osl,rfl,lk,hcd⟩:=Fa.ex
 match us,hu with
 | [_],_=>exact .of_eq rfl
end My
namespace PySem.W.Fast
def tw2260755158381111093:=0
def tw12953458184033717936:=0
def tw6232477215965001636:=0
def tw12543095123939090773:=0
def tw964837915085693677:=0
def tw15064852272003423970:=0
def tw4376970070098359491:=0
def tw8665648119730480195:=0
def tw15275701541622184492:=0
def tw614670725019076990:=0
def tw2273722681351241106:=0
def tw9719255076881267420:=0
def tw12126792958623849292:=0
def tw14910361271673018443:=0
def tw2132394219263322775:=0
def tw688169899448704411:=0
def tw4913495449522818342:=0
def tw14356462877787640052:=0
def tw1627180223099433779:=0
def tw11206543388004605091:=0
def tw8482431924498389959:=0
def tw10669963445258384140:=0
def tw14097461705000076425:=0
def tw4750459517557443351:=0
def tw13647667302526366252:=0
def tw6215594788524616175:=0
def tw288641986097354819:=0
def tw14907553434283833364:=0
def tw7061180089160217917:=0
def tw6998668758211580894:=0
def tw2746711587033592028:=0
def tw15354826036935255510:=0
def tw2525708081262331045:=0
def tw7133945407966163671:=0
def tw6764357230755276011:=0
def tw3518510792044804389:=0
def tw15346725550303219763:=0
def tw16930659384765417880:=0
def tw14829631647070376153:=0
def tw12331349729681366628:=0
def tw1381871650596101133:=0
def tw17499296393346798343:=0
def tw12326987672584751053:=0
def tw7783271832261113920:=0
def tw12933861735796340579:=0
def tw11918136937071642409:=0
def tw18119655443918560260:=0
def tw667534152890355927:=0
def tw3164888098091894458:=0
def tw6132360609300551063:=0
def tw8958030372974673729:=0
def tw10520238051911074869:=0
def tw16184973104231422518:=0
def tw7877399601573639148:=0
def tw4337870239583964774:=0
def tw14003414833961757121:=0
def tw8820322076473918823:=0
def tw12131204712361324815:=0
def tw4102505704464473875:=0
def tw8199588036770497428:=0
def tw1535542979096510144:=0
def tw11878212756227723037:=0
def tw10330832428556190844:=0
def tw5539512124207036324:=0
def tw10690260346317848787:=0
def tw15907862273295729606:=0
def tw2323379805796562708:=0
def tw15829561015766791450:=0
def tw31713664239627824:=0
def tw2498837822521960722:=0
def tw3076724994924127576:=0
def tw3587536390547557371:=0
def tw5932933030543600046:=0
def tw17190209407827944442:=0
def tw6902827609448417957:=0
def tw1079480670859806122:=0
def tw16685728301361708378:=0
def tw3823959182880339384:=0
def tw16535168362014300975:=0
def tw16958045701708357981:=0
def tw13520803655566538204:=0
def tw17049895645587754840:=0
def tw7679947326836093305:=0
def tw18372331936285269658:=0
def tw8647181708777164006:=0
def tw4966392604084396014:=0
def tw11785248420478883964:=0
def tw5398128816276100488:=0
def tw6386680759769496873:=0
def tw872411884422636335:=0
def tw15119474192415130015:=0
def tw3465347880728675107:=0
def tw6358986608254107873:=0
def tw14312871810021309947:=0
def tw17641399109612991017:=0
def tw16329108500089562325:=0
def tw1529370400567394337:=0
def tw1199309404343284368:=0
def tw197103784788280330:=0
def tw7298913064782450032:=0
def tw14909881073125269142:=0
def tw17265114348498164680:=0
def tw16464793088798619855:=0
def tw3430471971589330132:=0
def tw4276031089644578735:=0
def tw5039540321001129900:=0
def tw5843156777627559921:=0
def tw1638626827734465171:=0
def tw5215497103507489108:=0
def tw14112077537781025292:=0
def tw2236928854608005490:=0
def tw219660286579940183:=0
def tw11552768815086847825:=0
def tw11866815294644695184:=0
def tw17321537157046007883:=0
def tw4529682034480679435:=0
def tw13932278155336811689:=0
def tw1395299625707932907:=0
def tw16456399352379572523:=0
def tw13499424861370365378:=0
end PySem.W.Fast
open PySem PySem.W PyProof.Rows
set_option maxRecDepth 100000 in
set_option maxHeartbeats 0 in
theorem PySem.Challenge.cw_knownwhendesk_s01_answers_holds : PySem.Challenge.rw_knownwhendesk_s01_answers.Holds := by
 w_on;k_headS;(case hw=>exact⟨[.list [.int 0]],by decide+kernel,by decide+kernel⟩)
 k_fillS
 refine L2.AEo (r:=PySem.Challenge.rw_knownwhendesk_s01_answers) (k:=9) (CX:=L2.Ag) (ps:=["calls"]) (sp:=My.V8) (by decide+kernel) rfl rfl ⟨rfl,by decide,by decide⟩ (fun w h Y=>PySem.W.kIn_of Y) ?F ?S (fun _ _ _ _ z=>z)
 case F=>
  intro w mg fa h Y KX G hmg
  refine' My.all_mk KX G hmg ?cE ?cC ?cN ?cD ?cK ?co ?z ?rR ?fF ?lL ?aA ?M3 ?M4 ?QC ?QS ?QR ?QO ?QB ?QD ?QP ?Pl ?Pu ?QU ?QM ?QG ?PY ?P0 ?Pk ?Py ?Pr ?Pq ?Pt ?Px ?PZ ?Pa ?P1 ?Pz ?PR ?QJ ?QL ?QV ?P7 ?P8 ?P9 ?PN ?Pg ?QN ?P4 ?QT ?PJ ?QI ?P5 ?Ph ?Pw ?Pp ?Pb ?Pn ?Pj ?PX ?QE ?P6 ?QQ ?QH ?QF ?QK ?PQ ?PL ?YG
  case cE=>
   refine' ⟨_,CF KX G ?a,⟨⟨?p1,?p2,?p3,?p4⟩,?n1,?n2,?n3,?n4,?n5,?n6⟩,?i⟩
   case a=>k_is
   case p1 | p2 | p3 | p4=>k_is
   case n1 | n2 | n3 | n4 | n5 | n6=>unfold L2.DH;k_is
   case i=>refine' My.RB ?mk ?kc ?a ?i ?l ?c ?k;(case mk=>k_is);(case kc=>k_is);(case a=>k_is);(case i=>k_is);(case l=>k_is);(case c=>k_is);(case k=>k_is)
  case cC=>
   refine' ⟨_,CF KX G ?a,⟨⟨?p1,?p2,?p3,?p4⟩,?n1,?n2,?n3⟩,?i,?m1,?m2,?m3,?m4,?m5,?m6,?m7,?m8,?m9⟩
   case a=>k_is
   case p1 | p2 | p3 | p4=>k_is
   case n1 | n2 | n3=>unfold L2.DH;k_is
   case i=>refine' My.RB ?mk ?kc ?a ?i ?l ?c ?k;(case mk=>k_is);(case kc=>k_is);(case a=>k_is);(case i=>k_is);(case l=>k_is);(case c=>k_is);(case k=>k_is)
   case m1 | m2 | m3 | m4 | m5 | m6 | m7 | m8 | m9=>refine' My.lJ ?a ?i ?l ?c ?k;(case a=>k_is);(case i=>k_is);(case l=>k_is);(case c=>k_is);(case k=>k_is)
  case cN=>
   refine' ⟨_,CF KX G ?a,⟨⟨?p1,?p2,?p3,?p4⟩,?n1,?n2,?n3,?n4,?n5⟩,?i⟩
   case a=>k_is
   case p1 | p2 | p3 | p4=>k_is
   case n1 | n2 | n3 | n4 | n5=>unfold L2.DH;k_is
   case i=>refine' My.RB ?mk ?kc ?a ?i ?l ?c ?k;(case mk=>k_is);(case kc=>k_is);(case a=>k_is);(case i=>k_is);(case l=>k_is);(case c=>k_is);(case k=>k_is)
  case cD=>
   refine' ⟨_,CF KX G ?a,⟨⟨?p1,?p2,?p3,?p4⟩,?n1,?n2,?n3⟩,?i,?m1,?m2,?m3,?m4⟩
   case a=>k_is
   case p1 | p2 | p3 | p4=>k_is
   case n1 | n2 | n3=>unfold L2.DH;k_is
   case i=>refine' My.RB ?mk ?kc ?a ?i ?l ?c ?k;(case mk=>k_is);(case kc=>k_is);(case a=>k_is);(case i=>k_is);(case l=>k_is);(case c=>k_is);(case k=>k_is)
   case m1 | m2 | m3 | m4=>refine' My.lJ ?a ?i ?l ?c ?k;(case a=>k_is);(case i=>k_is);(case l=>k_is);(case c=>k_is);(case k=>k_is)
  case cK=>
   refine' ⟨_,CF KX G ?a,⟨⟨?p1,?p2,?p3,?p4⟩,?n1,?n2,?n3⟩,?i⟩
   case a=>k_is
   case p1 | p2 | p3 | p4=>k_is
   case n1 | n2 | n3=>unfold L2.DH;k_is
   case i=>refine' My.RB ?mk ?kc ?a ?i ?l ?c ?k;(case mk=>k_is);(case kc=>k_is);(case a=>k_is);(case i=>k_is);(case l=>k_is);(case c=>k_is);(case k=>k_is)
  case co=>
   refine' ⟨My.FJ (CF KX G ?c1) ?tu,My.FJ (CF KX G ?c2) ?uA,My.FJ (CF KX G ?c3) ?uB,My.FJ (CF KX G ?c9) ?uC,My.FJ (CF KX G ?X2) ?tx,My.FJ (CF KX G ?X3) ?t5,My.FJ (CF KX G ?r0) ?uX,My.FJ (CF KX G ?r1) ?uY,My.FJ (CF KX G ?r2) ?ub,My.FJ (CF KX G ?r3) ?uc,My.FJ (CF KX G ?r4) ?ud,My.FJ (CF KX G ?r5) ?ue,My.FJ (CF KX G ?r6) ?uf,My.FJ (CF KX G ?r10) ?uZ,My.FJ (CF KX G ?r11) ?ua,My.FJ (CF KX G ?Zv) ?uJ,My.FJ (CF KX G ?Zw) ?uK,My.FJ (CF KX G ?RG) ?uI⟩
   case c1 | c2 | c3 | c9 | X2 | X3 | r0 | r1 | r2 | r3 | r4 | r5 | r6 | r10 | r11 | Zv | Zw | RG=>k_is
   case tu | uA | uB | uC | tx | t5 | uX | uY | ub | uc | ud | ue | uf | uZ | ua | uJ | uK | uI=>rfl
  case z=>
   refine' ⟨Ih KX G ?z0,Ih KX G ?z1,Ih KX G ?z2,Ih KX G ?z3,Ih KX G ?z4,Ih KX G ?z5,Ih KX G ?z6,Ih KX G ?z7,Ih KX G ?z8,Ih KX G ?z9,Ih KX G ?z10⟩
   case z0 | z1 | z2 | z3 | z4 | z5 | z6 | z7 | z8 | z9 | z10=>k_is
  case rR=>
   refine' ⟨_,CF KX G ?za,My.ACk ?zs ?zl ?zg (by decide+kernel)⟩
   case za=>k_is
   case zs=>decide+kernel
   case zl=>k_is
   case zg=>
    refine' .cons ?y0 (.cons ?y1 (.cons ?y2 (.cons ?y3 (.cons ?y4 (.cons ?y5 (.cons ?y6 (.cons ?y7 (.cons ?y8 (.cons ?y9 .nil)))))))))
    case y0 | y1 | y2 | y3 | y4 | y5 | y6 | y7 | y8 | y9=>k_is
  case fF=>
   refine' ⟨_,CF KX G ?a,My.vI (fs:=[_,_,_,_,_,_,_,_,_,_,_,_,_,_,_,_,_,_,_,_]) (My.ED ?l ?s ?v) (.cons (My.ED ?l0 ?s0 ?v0) (.cons (My.ED ?l1 ?s1 ?v1) (.cons (My.ED ?l2 ?s2 ?v2) (.cons (My.ED ?l3 ?s3 ?v3) (.cons (My.ED ?l4 ?s4 ?v4) (.cons (My.ED ?l5 ?s5 ?v5) (.cons (My.ED ?l6 ?s6 ?v6) (.cons (My.ED ?l7 ?s7 ?v7) (.cons (My.ED ?l8 ?s8 ?v8) (.cons (My.ED ?l9 ?s9 ?v9) (.cons (My.ED ?l10 ?Kv ?v10) (.cons (My.ED ?L1 ?Jx ?v11) (.cons (My.ED ?UW ?s12 ?v12) (.cons (My.ED ?UX ?Nz ?v13) (.cons (My.ED ?zC ?s14 ?v14) (.cons (My.ED ?zD ?s15 ?v15) (.cons (My.ED ?zE ?s16 ?v16) (.cons (My.ED ?zF ?s17 ?v17) (.cons (My.ED ?zG ?s18 ?v18) (.cons (My.ED ?zH ?s19 ?v19) .nil))))))))))))))))))))⟩
   case a=>k_is
   case l=>k_is
   case s=>decide+kernel
   case v=>exact .cons rfl (.cons rfl (.cons rfl (.cons rfl (.cons rfl (.cons rfl (.cons rfl (.cons rfl (.cons rfl (.cons rfl (.cons rfl (.cons rfl (.cons rfl (.cons rfl (.cons rfl (.cons rfl (.cons rfl (.cons rfl (.cons rfl (.cons rfl .nil)))))))))))))))))))
   case l0 | l1 | l2 | l3 | l4 | l5 | l6 | l7 | l8 | l9 | l10 | L1 | UW | UX | zC | zD | zE | zF | zG | zH=>k_is
   case s0 | s1 | s2 | s3 | s4 | s5 | s6 | s7 | s8 | s9 | Kv | Jx | s12 | Nz | s14 | s15 | s16 | s17 | s18 | s19=>decide+kernel
   case v0=>exact .nil
   case v10 | v12 | v17=>exact .cons ⟨_,rfl⟩ .nil
   case v3 | v11=>exact .cons ⟨_,rfl⟩ (.cons ⟨_,rfl⟩ .nil)
   case v2 | v4 | v7=>exact .cons ⟨_,rfl⟩ (.cons ⟨_,rfl⟩ (.cons ⟨_,rfl⟩ .nil))
   case v5 | v9 | v18 | v19=>exact .cons ⟨_,rfl⟩ (.cons ⟨_,rfl⟩ (.cons ⟨_,rfl⟩ (.cons ⟨_,rfl⟩ .nil)))
   case v1 | v6 | v13 | v14 | v16=>exact .cons ⟨_,rfl⟩ (.cons ⟨_,rfl⟩ (.cons ⟨_,rfl⟩ (.cons ⟨_,rfl⟩ (.cons ⟨_,rfl⟩ .nil))))
   case v8 | v15=>exact .cons ⟨_,rfl⟩ (.cons ⟨_,rfl⟩ (.cons ⟨_,rfl⟩ (.cons ⟨_,rfl⟩ (.cons ⟨_,rfl⟩ (.cons ⟨_,rfl⟩ .nil)))))
  case lL=>
   refine' ⟨_,CF KX G ?a,My.ED ?l ?s ?v⟩
   case a=>k_is
   case l=>k_is
   case s=>decide+kernel
   case v=>exact .cons ⟨_,rfl⟩ (.cons ⟨_,rfl⟩ .nil)
  case aA=>
   refine' ⟨_,[_,_,_,_,_,_,_,_,_,_,_,_,_,_,_,_,_,_,_,_],CF KX G ?a,My.ED ?l ?s ?v,.cons (CF KX G ?b0) (.cons (CF KX G ?b1) (.cons (CF KX G ?b2) (.cons (CF KX G ?b3) (.cons (CF KX G ?b4) (.cons (CF KX G ?b5) (.cons (CF KX G ?b6) (.cons (CF KX G ?b7) (.cons (CF KX G ?b8) (.cons (CF KX G ?b9) (.cons (CF KX G ?b10) (.cons (CF KX G ?rA) (.cons (CF KX G ?rB) (.cons (CF KX G ?rC) (.cons (CF KX G ?rD) (.cons (CF KX G ?rE) (.cons (CF KX G ?rF) (.cons (CF KX G ?rG) (.cons (CF KX G ?rH) (.cons (CF KX G ?rJ) .nil)))))))))))))))))))⟩
   case a=>k_is
   case l=>k_is
   case s=>decide+kernel
   case v=>exact .cons rfl (.cons rfl (.cons rfl (.cons rfl (.cons rfl (.cons rfl (.cons rfl (.cons rfl (.cons rfl (.cons rfl (.cons rfl (.cons rfl (.cons rfl (.cons rfl (.cons rfl (.cons rfl (.cons rfl (.cons rfl (.cons rfl (.cons rfl .nil)))))))))))))))))))
   case b0 | b1 | b2 | b3 | b4 | b5 | b6 | b7 | b8 | b9 | b10 | rA | rB | rC | rD | rE | rF | rG | rH | rJ=>k_is
  case M3 | M4 | QC | QS | QR | QO | QB | QD | QP | Pl | Pu | QU | QM | QG | PY | P0 | Pk | Py | Pr | Pq | Pt | Px | PZ | Pa | P1 | Pz | PR | QJ | QL | QV | P7 | P8 | P9 | PN | Pg | QN | P4 | QT | PJ | QI | P5 | Ph | Pw | Pp | Pb | Pn | Pj | PX | QE | P6 | QQ | QH | QF | QK | PQ | PL | YG=>refine' My.yp KX G ?a ?l ?c ?k;(case a=>k_is);(case l=>k_is);(case c=>k_is);(case k=>k_is)
 case S=>
  intro K H xs a hO hwi Y7 hx
  cases hx with
  | cons h1 h2=>
   cases h2
   cases h1 with
   | lst hs ha=>
    have e:=L2.lB a.1 _ ha
    subst e
    exact⟨_,a.1,rfl,hs,Y7,fun H' p hp=>.lst (L2.AQ.of hp) (L2.ip _)⟩
