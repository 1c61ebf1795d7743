import PyProof.Rows.All
import Wide.All
import OpenK.AllK
import Wide.FinOn
import Lean
import PyProof.EqAt
import PyProof.EqKinds
import PyProof.TupleCall
import KE.KNestM
import PySem.Challenge.RW_traitmere_k04_forked_kinds
set_option Elab.async false
set_option linter.all false
set_option maxRecDepth 100000
set_option maxHeartbeats 4000000
open Array renaming length_toList→jA,getElem?_eq_some_iff→xl,getElem?_toList→xm,getElem?_eq_getElem→Fs,find?_toList→MX,append_empty→VW,ext_getElem?→VX,getElem?_setIfInBounds_ne→VY,getElem_mem→VZ,toList_append→V0,toList_push→V1
open Bool renaming false_ne_true→hG,and_eq_true→jB,false_eq_true→nj,eq_iff_iff→pe,false_and→A6,noConfusion→MY,or_eq_true→MZ,or_true→M0,true_and→M1,not_eq_true'→V2,not_false→V3,not_true→V4,or_false→V5,true_or→V6
open False renaming elim→ik
open ForInStep renaming yield→Wm
open Function renaming comp→Wn
open Int renaming emod_lt_of_pos→xr,emod_nonneg→xt,toNat→A9,le_refl→Fv,eq_ofNat_of_zero_le→M_
open List renaming mem_cons→dR,length_map→dV,getElem?_map→ft,mem_map→fB,map_cons→fM,getElem?_cons_zero→gg,mem_singleton→gK,getElem?_eq_some_iff→hf,length_cons→hH,getElem?_cons_succ→hU,size_toArray→hV,mem_append_right→il,getElem?_eq_getElem→jC,getElem?_set_ne→j0,getElem?_set_self→j1,lookup_cons→k0,append_nil→mu,find?_cons→mv,getElem?_append_left→mw,getElem?_append_right→mx,mem_append→nn,mem_cons_of_mem→nq,nodup_cons→nr,length_append→oc,map_append→og,mem_of_getElem?→oh,mem_range→oi,all_eq_true→pg,length_set→rC,mem_cons_self→rD,any_cons→s8,lookup→s9,mapM_cons→s_,any_eq_true→uX,map_map→uY,mem_filter→uZ,replicate→u0,set_cons_succ→u1,set_cons_zero→u2,all_cons→xu,all_map→xv,getElem?_replicate→xw,mapM→xx,mem_append_left→xy,not_mem_nil→xA,take_of_length_le→xB,filterMap_cons→A',getD→Ba,length_filter_le→Bb,length_nil→Bc,pairwise_cons→Bd,append_assoc→Fw,findSome?_cons→Fx,foldl_cons→Fy,length_drop→Fz,length_pos_iff→FA,length_range→FC,mem_filterMap→FD,mem_iff_getElem→FE,nodup_append→FF,cons_append→M',contains_cons→Na,eq_nil_of_length_eq_zero→Nb,foldl_append→Nc,getElem_mem→Nd,length_eq_zero_iff→Nf,length_replicate→Ng,map_congr_left→Nh,map_nil→Ni,of_mem_zip→Nj,range_succ_eq_map→Nk,set_getElem_self→Nl,any_map→Wu,drop→Wv,drop_eq_getElem_cons→Ww,drop_length→Wx,drop_of_length_le→Wy,eraseIdx_cons_succ→Wz,filter_cons_of_neg→WA,filter_cons_of_pos→WB,filter_eq_self→WC,filter_map→WD,find?→WE,find?_eq_none→WG,getElem?_eq_none→WH,getElem?_of_mem→WI,getElem?_range→WJ,getElem_inj→WK,length_eq_one_iff→WL,length_eraseIdx_of_lt→WM,length_pos_of_mem→WN,length_take→WO,map_drop→WQ,map_findSome?→WR,mem_map_of_mem→WS,mem_of_mem_drop→WT,nil_append→WU,nodup_nil→WV,not_lt→WW,pairwise_append→WX,take_length→WY,take_sublist→WZ,take_succ_eq_append_getElem→W0
open List.Perm renaming swap→Wt
open List.Sublist renaming cons_cons→ao2
open Nat renaming le_refl→c9,ne_of_lt→d3,le_trans→gX,lt_of_lt_of_le→i1,zero_le→j2,le_of_lt→kA,le_succ→oj,ne_of_gt→ph,lt_irrefl→rE,lt_succ_of_lt→rF,le_of_ble_eq_true→xE,not_lt→xF,le_of_not_lt→Bf,lt_succ_self→Bg,lt_of_le_of_lt→FH,lt_of_succ_lt→Nm,le_of_eq→W2,min_eq_left→W3,min_eq_right→W4,mod_lt→W5
open Nat.succ renaming inj→W6
open Option renaming map_eq_some_iff→jD,bind_eq_some_iff→nt,bind_some→om,isSome_map→Bh,map_eq_none_iff→Nn,getD_none→W7,isSome_some→W8,map→W9,map_map→W_
open Option.some renaming inj→hW,injEq→ao3
open Or renaming inl→bF,inr→oo
open PyProof.Rows renaming StrsAre→j3,AllBare→qh,boot_all→xH,IntsAre→A_,callWith_builtin1→FK,eqGives_str→F3,Constant_none→M5,callWith_type1→Np,envOfC→Nq,Subscript_→NJ,args_list_sort→XG,entry_list_sort→XK,get?_update_seq→XO,list_sort_treeK→XQ,slot_list_sort→XT,sortedHeap_at→XU,sortedHeap_old→XW,sorted_out_str→XX,strKind_oneLt→XY,subscriptTail_builtinR→XZ,boot_any→ao4
open PyProof.Rows.F renaming plain_set_update_loop→A8,entry_set_update_loop→M7
open PySem renaming Addr→O,Value→aj,Shared→aM,wpAny_bind→aQ,wpAny_pure→bC,Obj→b_,Stmt→cc,Heap→cg,Expr→ck,World→cH,Program→dn,Around→d0,Pos→d1,Env→fL,FuncData→f4,Scope→gh,Tok→i3,wpAny_holding→jF,wpAny_mono→j4,sizeLine_eq→k1,boot_len→lT,SetTable→mz,Sem→nu,mem_of_lookup→op,Drawn→pf,codeAny_builtin→pk,codeAny_mono→pm,plainId_quiet→pn,BindsTo→qj,wpAny_Call_Name_kw→ql,wpAny_call→qm,Keyword→rB,wpAny_loadPart_at→rJ,wpAny_standAt→rK,wpAny_truthy_bool→rL,ExcBaseFacts→s6,wpAny_call_entry→tc,Result→u5,wpAny_newObj_type→u7,wpAny_setState_of→u9,Arguments→xk,CmpOp→xo,ExceptHandler→xp,NameKind→xC,Within→xK,call_meetsIn→xN,tupleKind_room_in1→xO,wpAny_askSetting→xP,wpAny_items_cons→xQ,wpAny_pyIter_list→xR,wpAny_setField→xS,wpAny_tryCatch→xT,Model→Be,Walks→Bn,codeAny_handlers_test→Bo,wpAny_field→Bp,wpAny_handleBy_cons→Bq,wpAny_isSubtype_exc→Br,wpAny_letGo→Bs,wpAny_passesOwn→Bt,wpAny_pyNext_list_item→Bu,wpAny_rule→Bv,wpAny_seqItems→Bw,wpAny_updateSeq→Bx,TriplesOk→FZ,codeAny_call_builtin→F1,codeAny_of_tree→F2,wpAny_attempt→F5,wpAny_loadPart→F6,wpAny_of_eq→F7,wpAny_pyIter_slot→F8,wpAny_pyNext_list_end→F9,wpAny_setField_rec→F_,wpAny_typeOf→F',call→NF,builtinLookup_eq_fast→NL,exec_Assign_Name_used→NM,isSubtype_type→NN,pastItsLine_dict→NP,plainObj_wpAny_Assign_Attribute→NQ,seqIndex_of→NR,typeIs_str→NS,typeLookup_type→NT,wpAny_Call_method→NU,wpAny_Name→NV,wpAny_alloc→NW,wpAny_execs_nil→NX,wpAny_ite_split→NY,wpAny_load→NZ,wpAny_lookBehind→N0,wpAny_newList→N1,wpAny_nsSet1→N2,wpAny_pyHash_str→N3,wpAny_setEntries_of→N4,wpAny_storeSet_of→N5,call_list_seq→XH,entryFor_alias→XI,entryFor_of_tree→XJ,evalPart_none→XM,eval_ListComp→XN,intBits_le_64→XP,slot_list_getitem→XS,wpAny_Compare1→X0,wpAny_assign_Name→X1,wpAny_bindName→X2,wpAny_callSpecial?_slot→X3,wpAny_execs_cons→X4,wpAny_fieldsOf→X5,wpAny_isInstance→X6,wpAny_isTrue_Compare1→X7,wpAny_items_nil→X8,wpAny_madeBy_exc→X9,wpAny_newFunctionEnv→X_,wpAny_newTuple→X',wpAny_onRaise→Ya,wpAny_pyIter_dict→Yb,wpAny_pyIter_enum→Yc,wpAny_runValue→Yd,wpAny_setEpoch_of→Ye,wpAny_specialOf→Yf,wpAt_of_wpAny→Yg
open PySem.Around renaming under_plainId→qi,under→MW,frames_deeper→VV
open PySem.Builtin.BaseException renaming bexcPut→V7
open PySem.Builtin.Builtins renaming bindParams→V8
open PySem.Builtin.Dict renaming updateFrom→V9,addKeywords→aoT,selfAndRest→aoU
open PySem.Builtin.Frozenset renaming newClass→aoV,slot0→aoW,updateFrom→aoX
open PySem.Builtin.List renaming listExtendWith→M2,listLengthHint→V_,listSameRef→V'
open PySem.Builtin.ObjectAttr renaming storeInDict→Wa,newKeyGuard→aoY,storeInOwnDict→aoZ
open PySem.Builtin.Range renaming rangeSize→ao0
open PySem.Builtin.Str renaming occurrences→Wb
open PySem.Calls renaming spliced_cons→uW,spliced_nil→xn,callWith_builtin→A7,evalArgs_plain→Ft,Name_function_global→Wc,call_function_entry→Wd
open PySem.Challenge renaming pw_traitmere_k04_forked_kinds→ao5
open PySem.CmpOp renaming In→We,NotIn→Wf
open PySem.Code renaming isFrame→M3,quiet_builtin→M4,frames→Wg
open PySem.Data renaming fields→M6,cell→Wh
open PySem.DictEntry renaming refKey→Wi
open PySem.EntryCells renaming newEntry→Wj
open PySem.EqMixed renaming eq_bool_str→ao6,eq_int_str→ao7,eq_str_bool→ao8,eq_str_int→ao9,ne_bool_str→ao_,ne_int_str→ao',ne_str_bool→apa,ne_str_int→apb
open PySem.EqNone renaming eq_bool_none→apc,eq_int_none→apd,eq_none_bool→ape,eq_none_int→apf,eq_none_none→apg,eq_none_str→aph,eq_str_none→api,ne_bool_none→apj,ne_int_none→apk,ne_none_bool→apl,ne_none_int→apm,ne_none_none→apn,ne_none_str→apo,ne_str_none→apq
open PySem.F renaming called_set→s7,plain_min_loop→u3,slot_dict_get→xI,entry_dict_get→FL,plainAttrs_dict→FN,plainAttrs_list→FO,slot_list_append→FP,type_list_append→FQ,slot_list_getattribute→M8,entry_min_loop→Nr,plain_set_new→Wk,slot_set_iter→Wl,args_dict_get_2→Xa,args_dict_get_3→Xb,plain_extend_loop→Xc,plain_list_iadd→Xd,slot_dict_items→Xe,slot_dict_update→Xf,type_dict_get→Xg
open PySem.Heap renaming get?_push_of_some→cV,lt_size→dm,get?_push_size→eT,SameBut→i0,get?_update_other→lR,get?_update_self→mr,size_push→ms,get?_none_of_le→xq,get?_some_iff→M9,ExtBut→Wq,get?_push_at→Ws
open PySem.Heap.DictOf renaming new→Wo
open PySem.Heap.IsSliceOf renaming new→ao1
open PySem.Heap.Ns1 renaming of_empty→Wr
open PySem.Heap.SameBut renaming update→rA,refl→Fu
open PySem.NameKind renaming free→xD,cell→FG
open PySem.Obj renaming mapFields→lS,mapSeq→ol,putSet→xG,dropNameByArray→FI,dropName_eq→FJ
open PySem.Paired renaming snoc→W'
open PySem.PassesOwn renaming never→io
open PySem.SeqAt renaming EqAt→Bk
open PySem.SeqAt.EqAt renaming int_str→Xq,same→Xr,str_int→Xs,bool_bool→aps,bool_int→apt,bool_none→apu,bool_str→apv,int_bool→apw,int_int→apx,int_none→apy,none_bool→apz,none_int→apA,none_str→apB,of_refs→apC,str_bool→apD,str_none→apE,str_str→apF
open PySem.SeqAt.RcAt renaming tuples→apG
open PySem.SeqAt.RcNeAt renaming tuples→Xt,lists_lengths→apH
open PySem.SetTable renaming fresh→xM,below→Bl,orStandIn→Bm,bits→NH,insertAt→NI,fits→Xu,grown→Xv,laid→Xw,layClean→Xx,relaid→Xz,sizeAbove→XA,tooFull→XB
open PySem.SetTable.below renaming go→NG
open PySem.SetTable.probe renaming go→Xy
open PySem.Str renaming ofString→rI
open PySem.Txt renaming slice→nv
open PySem.Value renaming builtin→F0,float→NK,bytes→XC,isInt→XD,isStrOf→XE
open PySem.W renaming Frag→b5,fnOf→ht,keepIn→jE,findIn→kB,exmAny→my,Frag→nk,kia_one→pj,codeIn→qk,emptyDict→rG,instObj→rH,exmOne→ta,findCls→u4,codeHdIn→xJ,binds_K→Bi,methodCall_KW→Bj,callWith_K→FR,callWith_K0→FT,isFn→FU,lookIn→FV,plainGet→FW,specialIn→FX,looks_findIn→F4,OpenLaw→Nt,hasDictIn→Nu,makesIn→Nv,methodObj→Nw,mg_of→Nx,nsIn→Ny,plainGet_of→Nz,readsIn→NA,tabObj→NB,takerIn→NC,looks_clsIn→NO,InstAt→Xh,WalkO→Xi,cellsFrom_some→Xj,codeHd_of_K→Xk,handedIn→Xl,kitOne→Xm,kitx_dict→Xn,kitx_list→Xo,plainOver→Xp
open PySem.W.Looks renaming here→apr
open PySem.W.WShape renaming has→XF
open PySem.Within renaming cons→ND
open PySem.pickOrder renaming go→XR
open Sum renaming inr→hu,inl→u6
open Sum.inr renaming inj→FY
namespace bu
open PySem PySem.Spec PyProof.Rows
abbrev bM:=Sum Int Str
def sz:bM->aj->Bool
 | .inl k,v=>XD k v
 | .inr x,v=>XE x v
def aic(w:cH):bM->Int
 | .inl k=>hashInt k
 | .inr x=>hashStr w x
def oW:∀{k:bM}{v:aj},sz k v=true->(∃i t,k=u6 i/\v=Value.int i t)∨(∃x t,k=hu x/\v=Value.str x t)
 | .inl i,v,h=>by
  obtain⟨t,e⟩:=Value.isInt_shape (k:=i) (v:=v) h;exact .inl ⟨i,t,rfl,e⟩
 | .inr x,v,h=>by
  obtain⟨t,e⟩:=Value.isStrOf_shape (x:=x) (v:=v) h;exact .inr ⟨x,t,rfl,e⟩
def aie(i:Int)(t:i3):sz (.inl i) (.int i t)=true:=by simp[sz,XD]
def JO(x:Str)(t:i3):sz (.inr x) (.str x t)=true:=by simp[sz,XE]
def aih(a b:Int):decide ((u6 a:bM)=u6 b)=(a==b):=by
 by_cases e:a=b
 ·subst e;simp
 ·have h:¬(u6 a:bM)=u6 b:=λq=>e (Sum.inl.inj q);rw[decide_eq_false h];exact(beq_eq_false_iff_ne.mpr e).symm
def Su(a b:Str):decide ((hu a:bM)=hu b)=decide (a=b):=by
 by_cases e:a=b
 ·subst e;simp
 ·have h:¬(hu a:bM)=hu b:=λq=>e (FY q);rw[decide_eq_false h,decide_eq_false e]
def aii(a:Int)(b:Str):decide ((u6 a:bM)=hu b)=false:=decide_eq_false (λq=>nomatch q)
def aij(a:Str)(b:Int):decide ((hu a:bM)=u6 b)=false:=decide_eq_false (λq=>nomatch q)
def fG(prog:dn)(w:cH):PySem.KeyKind prog w bM where
 is:=sz
 hash:=aic w
 inj:=λv a b af ab=>by
  rcases oW af with⟨i,t,rfl,rfl⟩ | ⟨x,t,rfl,rfl⟩
  ·rcases oW ab with⟨j,u,rfl,e⟩ | ⟨y,u,rfl,e⟩
   ·injection e with ag _;rw[ag]
   ·exact nomatch e
  ·rcases oW ab with⟨j,u,rfl,e⟩ | ⟨y,u,rfl,e⟩
   ·exact nomatch e
   ·injection e with ag _;rw[ag]
 byValue:=λk v h=>by
  rcases oW h with⟨i,t,rfl,rfl⟩ | ⟨x,t,rfl,rfl⟩<;>rfl
 pyHash:=λbm h=>by
  rcases oW bm with⟨i,t,rfl,rfl⟩ | ⟨x,t,rfl,rfl⟩
  ·exact wpAny_pyHash_int h
  ·exact N3 h
 eqBool:=λaD bm h=>by
  rcases oW aD with⟨i,t,rfl,rfl⟩ | ⟨x,t,rfl,rfl⟩
  ·rcases oW bm with⟨j,u,rfl,rfl⟩ | ⟨y,u,rfl,rfl⟩
   ·rw[aih]at h;exact wpAny_eqBool_int h
   ·rw[aii]at h;exact Xq i t y u _ _ _ _ h
  ·rcases oW bm with⟨j,u,rfl,rfl⟩ | ⟨y,u,rfl,rfl⟩
   ·rw[aij]at h;exact Xs x t j u _ _ _ _ h
   ·rw[Su]at h;exact wpAny_eqBool_str h
 «strs»:=λk x t v h=>by
  rcases oW h with⟨i,u,rfl,e⟩ | ⟨y,u,rfl,e⟩
  ·exact nomatch e
  ·injection e with ag _
   subst ag;cases v<;>rfl
def ai2(prog:dn)(w:cH)(i:Int)(t:i3):(fG prog w).is (.inl i) (.int i t)=true:=aie i t
def S7(prog:dn)(w:cH)(x:Str)(t:i3):(fG prog w).is (.inr x) (.str x t)=true:=JO x t
inductive V where
 | bb | aG(b:Bool) | int(i:Int) | str(x:Str) | k8(b:Array UInt8) | sb(b:UInt64) | ref(a:O) | ty(n:String)
 deriving DecidableEq
def RelV:V->aj->Prop
 | .bb,u=>u=Value.none
 | .aG b,u=>u=Value.bool b
 | .int i,u=>∃t,u=Value.int i t
 | .str x,u=>∃t,u=Value.str x t
 | .k8 b,u=>∃t,u=XC b t
 | .sb b,u=>∃t,u=NK b t
 | .ref a,u=>u=Value.ref a
 | .ty n,u=>u=Value.type n
abbrev cz:List V->List aj->Prop:=Paired RelV
def cz.length(r:cz xs us):xs.length=us.length:=Paired.length r
def cz.get:∀{xs:List V}{us:List aj}{i:Nat}{x:V},cz xs us->xs[i]? =some x->∃u,us[i]? =some u/\RelV x u
 | _,_,_,_,.nil,e=>by simp at e
 | _,_,0,_,.cons r _,e=>by simp at e;subst e;exact⟨_,rfl,r⟩
 | _,_,i+1,x,.cons _ t,e=>by
  obtain⟨u,h1,h2⟩:=cz.get (i:=i) (x:=x) t (by simpa using e)
  exact⟨u,by simpa using h1,h2⟩
def cz.set(r:RelV x u):∀{xs:List V}{us:List aj}(i:Nat),cz xs us->cz (xs.set i x) (us.set i u)
 | _,_,_,.nil=>.nil
 | _,_,0,.cons _ t=>.cons r t
 | _,_,i+1,.cons q t=>.cons q (cz.set r i t)
def cz.append:∀{xs ys:List V}{us cJ:List aj},cz xs us->cz ys cJ->cz (xs++ys) (us++cJ)
 | _,_,_,_,.nil,s=>s
 | _,_,_,_,.cons r t,s=>.cons r (cz.append t s)
def cz.take:∀{xs:List V}{us:List aj}(n:Nat),cz xs us->cz (xs.take n) (us.take n)
 | _,_,0,_=>.nil
 | _,_,_+1,.nil=>.nil
 | _,_,n+1,.cons r t=>.cons r (cz.take n t)
def cz.drop:∀{xs:List V}{us:List aj}(n:Nat),cz xs us->cz (xs.drop n) (us.drop n)
 | _,_,0,r=>r
 | _,_,_+1,.nil=>.nil
 | _,_,n+1,.cons _ t=>cz.drop n t
def h0:Option V->Option aj->Prop
 | some v,some u=>RelV v u
 | none,none=>True
 | _,_=>False
def fY{fA:Type}:List (fA×V)->List (fA×aj)->Prop:=Paired λ(p:fA×V)(q:fA×aj)=>p.1=q.1/\RelV p.2 q.2
def dF:bM->V
 | .inl i=>.int i
 | .inr x=>.str x
inductive dB where
 | lst(xs:List V)
 | tup(xs:List V)
 | a7(kvs:List (bM×V)) | i5(kvs:List (List bM×V))
 | set(S:Int->Bool)(n:Nat)
 | ins(C dx:O)(fs:List (Str×V))
 | own(x:O)
 | A2(fs:List (Str×V))
 | met(f x:O)
 | Lb(lo au:Int)
 | eQ(o:b_)(u:dB)
 | lP(ps:Array aj)
 | ext(φ:cg->Prop)
abbrev ak:=O->Option dB
def a1(H:ak)(a:O)(o:dB):ak:=λb=>if b=a then some o else H b
def cw:a1 H a o a=some o:=by unfold a1;rw[if_pos rfl]
def bj{a b:O}(h:b≠a):a1 H a o b=H b:=by unfold a1;rw[if_neg h]
def xa:a1 (a1 H a o) a u=a1 H a u:=by
 funext b;unfold a1;split<;>rfl
def Tb{H:ak}(h:H a=some o)(h':H b=some u)(d:o≠u):a≠b:=by
 intro e;subst e;rw[h]at h';exact d (hW h')
def eK{H:ak}(h:H a=some o)(h':H b=none):a≠b:=by
 intro e;subst e;rw[h]at h';cases h'
section
variable(P:dn)(w:cH)
def fZ(H:ak)(h:cg)(a:O):dB->Prop
 | .lst xs=>xs.length<=sizeLine/\∃(its:List aj)(n:Nat),cz xs its/\h.get? a=some {cls:=.type "list",data:=.seq its.toArray n}
 | .tup xs=>xs.length<=sizeLine/\∃its:List aj,cz xs its/\IsTup h a its.toArray
 | .a7 kvs=>kvs.length<=sizeLine/\(a==sysModules)=false/\∃vs,fY kvs vs/\h.DictOf (fG P w) a vs
 | .i5 kvs=>kvs.length<=sizeLine/\(a==sysModules)=false/\∃xs:List (List bM×O×aj),
   Paired (λ(p:List bM×V)(q:List bM×O×aj)=>p.1=q.1/\H q.2.1=some (.tup (p.1.map dF))/\RelV p.2 q.2.2) kvs xs/\
   ∃o es ep,h.get? a=some o/\o.ExactDict/\o.data= .dict es ep/\es.toList=xs.map (entryOfKey (tupleKind (fG P w)))/\(xs.map (·.1)).Nodup
 | .set S n=>h.SetOf (intKind P w) a S n
 | .ins C dx fs=>H dx=some (.own a)/\fs.length<=1000/\dx≠a/\h.get? a=some (rH C dx)/\
   ∃mA,h.Ns1 dx mA/\(∀f,h0 (fs.lookup f) (mA f))/\xK mA (fs.map (·.1))
 | .own _=>∃o,h.get? a=some o
 | .A2 fs=>∃mA,h.Ns1 a mA/\∀f,h0 (fs.lookup f) (mA f)
 | .Lb lo au=>∃t u v,h.get? a=some {cls:=.type "range",data:=.fields #[.int lo t,.int au u,.int 1 v]}
 | .eQ o u=>h.get? a=some o/\fZ H h a u
 | .lP ps=>h.get? a=some {cls:=.none,data:=.fields ps}
 | .met f x=>h.get? a=some (Nw (.ref f) (.ref x))
 | .ext φ=>φ h/\(∃o,h.get? a=some o)/\∀h1 h2:cg,φ h1->(∀o,h1.get? a=some o->h2.get? a=some o)->φ h2
def eN(H:ak)(h:cg):Prop:=∀a o,H a=some o->fZ P w H h a o
end
section
variable{P:dn}{w:cH}{H H':ak}{h h':cg}{a:O}{o:dB}
def fZ.lt(x:fZ P w H h a o):a < h.objs.size:=by
 cases o with
 | lst xs=>obtain⟨_,_,_,_,e⟩:=x;exact dm e
 | tup xs=>obtain⟨_,_,_,p⟩:=x;exact p.lt
 | a7 kvs=>obtain⟨_,_,_,_,o,_,_,e,_⟩:=x;exact dm e
 | i5 kvs=>obtain⟨_,_,_,_,o,_,_,e,_⟩:=x;exact dm e
 | set S n=>obtain⟨o,_,_,_,e,_⟩:=x;exact dm e
 | ins C dx fs=>obtain⟨_,_,_,e,_⟩:=x;exact dm e
 | own y=>obtain⟨_,e⟩:=x;exact dm e
 | A2 fs=>obtain⟨_,⟨_,_,_,e,_⟩,_⟩:=x;exact dm e
 | Lb lo au=>obtain⟨_,_,_,e⟩:=x;exact dm e
 | eQ bW u=>obtain⟨e,_⟩:=x;exact dm e
 | lP ps=>exact dm (show h.get? a=some _ from x)
 | met f y=>exact dm (show h.get? a=some _ from x)
 | ext φ=>obtain⟨_,⟨_,e⟩,_⟩:=x;exact dm e
def Paired.J'{α β:Type}{F b7:α->β->Prop}:∀{SX:List α}{SY:List β},Paired F SX SY->(∀a b,F a b->b7 a b)->Paired b7 SX SY
 | _,_,.nil,_=>.nil
 | _,_,.cons r t,f=>.cons (f _ _ r) (Paired.J' t f)
def fZ.p8(x:fZ P w H h a o)(k:∀b u,(b=a∨H b=some (.own a))->h.get? b=some u->h'.get? b=some u)
  (aZ:∀b,H b=some (.own a)->H' b=some (.own a))(cj:∀b xs,H b=some (.tup xs)->H' b=some (.tup xs)):fZ P w H' h' a o:=by
 induction o with
 | lst xs=>obtain⟨z,its,n,r,e⟩:=x;exact⟨z,its,n,r,k _ _ (.inl rfl) e⟩
 | tup xs=>obtain⟨z,its,r,bW,e,c⟩:=x;exact⟨z,its,r,bW,k _ _ (.inl rfl) e,c⟩
 | a7 kvs=>obtain⟨z,y,vs,r,bW,es,ep,e,c⟩:=x;exact⟨z,y,vs,r,bW,es,ep,k _ _ (.inl rfl) e,c⟩
 | i5 kvs=>
  obtain⟨z,y,xs,r,bW,es,ep,e,c⟩:=x;exact⟨z,y,xs,Paired.J' r λp q z=>⟨z.1,cj _ _ z.2.1,z.2.2⟩,bW,es,ep,k _ _ (.inl rfl) e,c⟩
 | set S n=>obtain⟨bW,es,ep,t,e,c⟩:=x;exact⟨bW,es,ep,t,k _ _ (.inl rfl) e,c⟩
 | ins C dx fs=>
  obtain⟨d,z,ne,e,mA,⟨od,es,ep,aF,c⟩,r⟩:=x;exact⟨aZ _ d,z,ne,k _ _ (.inl rfl) e,mA,⟨od,es,ep,k _ _ (.inr d) aF,c⟩,r⟩
 | own y=>obtain⟨bW,e⟩:=x;exact⟨bW,k _ _ (.inl rfl) e⟩
 | A2 fs=>obtain⟨mA,⟨od,es,ep,e,c⟩,r⟩:=x;exact⟨mA,⟨od,es,ep,k _ _ (.inl rfl) e,c⟩,r⟩
 | Lb lo au=>obtain⟨t,u,v,e⟩:=x;exact⟨t,u,v,k _ _ (.inl rfl) e⟩
 | eQ bW u b3=>obtain⟨e,q⟩:=x;exact⟨k _ _ (.inl rfl) e,b3 q⟩
 | lP ps=>
  have e:h.get? a=some {cls:=.none,data:=.fields ps}:=x;show h'.get? a=some {cls:=.none,data:=.fields ps};exact k a _ (.inl rfl) e
 | met f y=>
  have e:h.get? a=some (Nw (.ref f) (.ref y)):=x;show h'.get? a=some (Nw (.ref f) (.ref y));exact k a _ (.inl rfl) e
 | ext φ=>obtain⟨p,⟨o,e⟩,st⟩:=x;exact⟨st _ _ p λo q=>k _ _ (.inl rfl) q,⟨o,k _ _ (.inl rfl) e⟩,st⟩
def eN.lt(x:eN P w H h)(e:H a=some o):a < h.objs.size:=(x a o e).lt
def eN.fresh(x:eN P w H h)(e:h.objs.size<=a):H a=none:=by
 cases q:H a with
 | none=>rfl
 | some u=>exact absurd (i1 (x.lt q) e) (rE _)
def eN.kept(x:eN P w H h)(k:∀b u,h.get? b=some u->h'.get? b=some u):eN P w H h':=λa o e=>
 (x a o e).p8 (λb u _ q=>k b u q) (λ_ q=>q) λ_ _ q=>q
def eN.laid(x:eN P w H h)(k:∀b u,h.get? b=some u->h'.get? b=some u)(aB:h.objs.size<=a)(new:fZ P w (a1 H a o) h' a o):eN P w (a1 H a o) h':=λb u e=>by
 have ba:=x.fresh aB;by_cases ab:b=a
 ·subst ab;rw[cw]at e;cases e;exact new
 ·rw[bj ab]at e;exact(x b u e).p8 (λc v _ q=>k c v q) (λc q=>by rw[bj (eK q ba)];exact q) λc xs q=>by rw[bj (eK q ba)];exact q
end
def ec(H:ak)(a:O)(u:dB):Prop:=H a=some u∨∃o,H a=some (.eQ o u)
def ec.ok(r:ec H a u)(x:eN P w H h):fZ P w H h a u:=by
 rcases r with r | ⟨o,r⟩
 ·exact x a u r
 ·obtain⟨_,q⟩:=x a _ r;exact q
def yq:Option dB->Prop
 | some (.lst _)=>True
 | some (.a7 _)=>True
 | some (.i5 _)=>True
 | some (.set _ _)=>True
 | some (.ins _ _ _)=>True
 | some (.ext _)=>True
 | _=>False
section
variable{P:dn}{w:cH}{H:ak}{h h':cg}{x e:O}{o':dB}
def eN.write(ok:eN P w H h)(l9:yq (H x))(he:e=x∨H e=some (.own x))(k:∀b u,b≠e->h.get? b=some u->h'.get? b=some u)(sk:∃u,h'.get? e=some u)
  (new:fZ P w (a1 H x o') h' x o'):eN P w (a1 H x o') h':=λb u q=>by
 have Ts:∀c y,H c=some (.own y)->c≠x:=λc y r z=>by subst z;rw[r]at l9;exact l9
 have ajD:∀c xs,H c=some (.tup xs)->c≠x:=λc xs r z=>by subst z;rw[r]at l9;exact l9
 by_cases ab:b=x
 ·subst ab;rw[cw]at q;cases q;exact new
 ·rw[bj ab]at q;by_cases tY:b=e
  ·have q':H b=some (.own x):=by
    rcases he with z | z
    ·exact absurd (tY.trans z) ab
    ·rw[tY];exact z
   rw[q]at q';cases q';obtain⟨v,bm⟩:=sk;exact⟨v,by rw[tY];exact bm⟩
  ·refine(ok b u q).p8 (λc v aL r=>k c v ?_ r) (λc r=>by rw[bj (Ts c b r)];exact r) λc xs r=>by rw[bj (ajD c xs r)];exact r
   rcases aL with rfl | aL
   ·exact tY
   ·rintro rfl;rcases he with z | z
    ·exact Ts c b aL z
    ·rw[aL]at z;cases z;exact ab rfl
end
structure eV(fs ex:List O)(H H':ak)(h h':cg):Prop where
 keep:∀b o,h.get? b=some o->H b=none->b∉fs->b∉ex->h'.get? b=some o
 slot:∀b o,h.get? b=some o->H b=none->b∈fs->b∉ex->∃fy,h'.get? b=some {o with slots:=fy}
 free:∀b o,h.get? b=some o->H b=none->b∉ex->H' b=none
 there:∀b o,h.get? b=some o->b∉ex->∃o',h'.get? b=some o'
 tups:∀b xs,H b=some (.tup xs)->H' b=some (.tup xs)
 l5:∀b o u,H b=some (.eQ o u)->H' b=some (.eQ o u)
 nd:∀b ps,H b=some (.lP ps)->∃more,H' b=some (.lP (ps++more))
section
variable{fs ex:List O}{H H1:ak}{h h1 h':cg}{a x e:O}{o:dB}
def eV.any(u:eV fs ex H H1 h h1){b:O}(q:h.get? b=some bW)(n:H b=none)(ah:b∉ex):∃fy,h1.get? b=some {bW with slots:=fy}:=by
 by_cases ab:b∈fs
 ·exact u.slot b bW q n ab ah
 ·exact⟨bW.slots,u.keep b bW q n ab ah⟩
def eV.kept(k:∀b u,h.get? b=some u->h'.get? b=some u):eV fs ex H H h h':=
 ⟨λb bW q _ _ _=>k b bW q,λb bW q _ _ _=>⟨bW.slots,k b bW q⟩,λ_ _ _ n _=>n,λb bW q _=>⟨bW,k b bW q⟩,λ_ _ q=>q,λ_ _ _ q=>q,λ_ ps q=>⟨#[],by rw[q];simp⟩⟩
def eV.refl:eV fs ex H H h h:=eV.kept λ_ _ q=>q
def eV.laid(k:∀b u,h.get? b=some u->h'.get? b=some u)(aB:h.objs.size<=a)(ba:H a=none):eV fs ex H (a1 H a o) h h' where
 keep:=λb u q _ _ _=>k b u q
 slot:=λb u q _ _ _=>⟨u.slots,k b u q⟩
 free:=λb u q n _=>by rw[bj (d3 (i1 (dm q) aB))];exact n
 there:=λb u q _=>⟨u,k b u q⟩
 tups:=λb xs q=>by rw[bj (eK q ba)];exact q
 l5:=λb u xs q=>by rw[bj (eK q ba)];exact q
 nd:=λb ps q=>⟨#[],by rw[bj (eK q ba),q];simp⟩
def eV.write(l9:yq (H x))(he:e=x∨H e=some (.own x))(k:∀b u,b≠e->h.get? b=some u->h'.get? b=some u)(sk:∃u,h'.get? e=some u):eV fs ex H (a1 H x o) h h':=by
 have ah:∀b,H b=none->b≠x:=λb n z=>by subst z;rw[n]at l9;exact l9
 have ab:∀b,H b=none->b≠e:=λb n z=>by
  subst z;rcases he with r | r
  ·exact ah b n r
  ·rw[n]at r;cases r
 have bx:∀b u,H b=some u->¬yq (some u)->b≠x:=λb u q nm z=>by subst z;rw[q]at l9;exact nm l9
 refine⟨λb u q n _ _=>k b u (ab b n) q,λb u q n _ _=>⟨u.slots,k b u (ab b n) q⟩,λb u q n _=>by rw[bj (ah b n)];exact n,λb u q _=>?_,
  λb xs q=>by rw[bj (bx b _ q λz=>z)];exact q,λb u xs q=>by rw[bj (bx b _ q λz=>z)];exact q,λb ps q=>⟨#[],by rw[bj (bx b _ q λz=>z),q];simp⟩⟩
 by_cases tY:b=e
 ·subst tY;exact sk
 ·exact⟨u,k b u tY q⟩
end
def uP(h:cg)(H:ak):List O:=(List.range h.objs.size).filter λa=>(H a).isSome
def pQ(h:cg)(H:ak):cg:=PySem.W.hideAll h (uP h H)
def agY(h:cg)(H:ak):(pQ h H).objs.size=h.objs.size:=PySem.W.hideAll_size _ _
def agX{h:cg}{H:ak}{b:O}(e:h.get? b=some o)(n:H b=none):(pQ h H).get? b=some o:=
 PySem.W.hideAll_get _ e λbx=>by
  have q:(H b).isSome=true:=(uZ.mp bx).2;rw[n]at q;simp at q
def ajX{b:O}(e:(pQ h H).get? b=some o):h.get? b=some o/\H b=none:=by
 have bQ:h.get? b=some o:=PySem.W.of_hideAll (uP h H) e;refine⟨bQ,?_⟩;cases q:H b with
 | none=>rfl
 | some x=>
  have bx:b∈uP h H:=uZ.mpr ⟨oi.mpr (dm bQ),by simp[q]⟩
  have z:(pQ h H).get? b=none:=PySem.W.hideAll_none (uP h H) bx;rw[z]at e;cases e
structure Mod(K:b5)(mg:Str->Option aj)(base:cg):Prop where
 mW:K.In base
 glob:base.Ns mainGlobals mg
 blt:∃kQ,base.Ns builtinsNs kQ/\∀x:Str,x≠"__name__"->kQ x=bootBuiltins x
 nolimit:base.NoLimit
structure bp where
 prog:dn
 w:cH
 K:b5
 mg:Str->Option aj
 base:cg
 A:d0
 N:List Str
 s₀:aM
 H₀:ak
 env:fL
 a3:List fL
 stack:List fL
 ex:List O
 fn:Str->Bool
 calm:Bool
 cv:List (O×b_)
 cb:aj->aM->Prop
def jO(l:List fL):List O:=l.filterMap (·.frame)
abbrev bp.fs(X:bp):List O:=jO X.a3
def G8(sc:gh)(x:Str):Prop:=sc.names.lookup x=some .local∨sc.names.lookup x=some .cell∨sc.names.lookup x=some .free
def Loc(sc:gh)(x:Str):Prop:=sc.names.lookup x=some .local∨sc.names.lookup x=some .cell
def Look(env:fL)(h:cg)(m:Str->Option aj)(x:Str)(u:aj):Prop:=
 (env.kindOf x=some .local/\m x=some u)∨((env.kindOf x=some .cell∨env.kindOf x=some .free)/\∃c,env.cells.lookup x=some c/\h.IsCell c (some u))
structure bp.Ok(X:bp):Prop where
 mod:Mod X.K X.mg X.base
 kind:X.env.scope.kind= .function
 glob:X.env.globals=mainGlobals
 blt:X.env.builtins=builtinsNs
 above:X.s₀.heap.objs.size<=X.env.locals
 inj:∀x y c,X.env.cells.lookup x=some c->X.env.cells.lookup y=some c->x=y
 has:∀x,(X.env.kindOf x=some .cell∨X.env.kindOf x=some .free)->∃c,X.env.cells.lookup x=some c
 tG:∀x c,X.fn x=true->X.env.cells.lookup x=some c->X.s₀.heap.objs.size<=c
 hd:X.calm=true->X.A.handled=none
 frames:X.A.frames=some X.stack
 w3:X.stack=X.a3∨(X.stack=X.env::X.a3/\X.env.frame=some X.env.locals)
 C6:∀b∈X.ex,b≠X.env.locals/\∀x c,X.env.cells.lookup x=some c->c≠b
 bs:∀b o,X.base.get? b=some o->X.s₀.heap.get? b=some o/\X.H₀ b=none
 kI:X.base.objs.size<=X.s₀.heap.objs.size
 sE:∀b o,X.base.get? b=some o->b∉X.ex
 vX:∀b∈X.ex,b∉X.fs
 lq:X.s₀.heap.FunFrames X.base X.a3
 pL:∀b∈X.fs,X.H₀ b=none
structure Inv(X:bp)(aa:List (O×b_))(σ:List (Option V))(H:ak)(s:aM):Prop where
 ok:X.Ok
 os:s.os=X.s₀.os
 bare:qh s.gens
 base:eV X.fs X.ex X.H₀ H X.s₀.heap s.heap
 loc:∃m,s.heap.Ns X.env.locals m/\∀(i:Nat)(x:Str)(v:V),X.N[i]? =some x->σ[i]? =some (some v)->G8 X.env.scope x->∃u,RelV v u/\Look X.env s.heap m x u
 cell:∀x c,X.env.cells.lookup x=some c->∃v,s.heap.IsCell c v
 free:H X.env.locals=none
 iR:∀x c,X.env.cells.lookup x=some c->H c=none
 pin:∀p∈X.cv++aa,s.heap.get? p.1=some p.2/\H p.1=none/\p.1≠X.env.locals/\p.1∉X.fs/\∀v,p.2.data≠ .cell v
 a':eN X.prog X.w H s.heap
 len:σ.length=X.N.length
section
variable{X:bp}{aa:List (O×b_)}{σ:List (Option V)}{H H':ak}{s:aM}{h':cg}
def bp.Ok.aju(ok:X.Ok){b:O}(e:X.base.get? b=some o):b∉X.fs:=λab=>by
 have:=(ok.lq.mem ab).1;rw[e]at this;cases this
def Inv.bs(I:Inv X aa σ H s):∀b o,X.base.get? b=some o->s.heap.get? b=some o/\H b=none:=λb o e=>
 ⟨I.base.keep b o (I.ok.bs b o e).1 (I.ok.bs b o e).2 (I.ok.aju e) (I.ok.sE b o e),I.base.free b o (I.ok.bs b o e).1 (I.ok.bs b o e).2 (I.ok.sE b o e)⟩
def Inv.f7(I:Inv X aa σ H s):∀b o,X.base.get? b=some o->s.heap.get? b=some o:=λb o e=>(I.bs b o e).1
def Inv.mod(I:Inv X aa σ H s):Mod X.K X.mg X.base:=I.ok.mod
def Inv.eo(I:Inv X aa σ H s):X.K.In s.heap:=I.ok.mod.mW.keeps I.f7
def Inv.nolimit(I:Inv X aa σ H s):s.heap.NoLimit:=I.ok.mod.nolimit.keeps I.f7
def Inv.fr(I:Inv X aa σ H s):∃m,Fr X.base X.env.locals s.heap m:=
 let⟨m,ba,_⟩:=I.loc
 ⟨m,ba,I.f7,gX I.ok.kI I.ok.above⟩
def Inv.lt(I:Inv X aa σ H s):X.env.locals < s.heap.objs.size:=let⟨_,ba,_⟩:=I.loc;ba.lt
def Inv.lO(I:Inv X aa σ H s):X.s₀.heap.objs.size<=s.heap.objs.size:=gX I.ok.above (kA I.lt)
def Inv.ajv(I:Inv X aa σ H s){a:O}(h:s.heap.objs.size<=a):a∉X.fs:=λab=>by
 obtain⟨_,o,aZ,_⟩:=I.ok.lq.mem ab;exact absurd (i1 (dm aZ) (gX I.lO h)) (rE _)
def Inv.qD(I:Inv X aa σ H s):∀x c,X.env.cells.lookup x=some c->c≠X.env.locals:=λx c e z=>by
 obtain⟨v,o,aZ,hd⟩:=I.cell x c e;obtain⟨m,⟨o',es,ep,mR,oR,_⟩,_⟩:=I.loc;rw[z,mR]at aZ;cases aZ;rw[oR]at hd;cases hd
def Inv.lq(I:Inv X aa σ H s):s.heap.FunFrames X.base X.a3:=by
 have all:∀(l:List fL),(∀b∈jO l,b∈X.fs)->X.s₀.heap.FunFrames X.base l->s.heap.FunFrames X.base l:=by
  intro l;induction l with
  | nil=>intro _ _;trivial
  | cons env r b3=>
   intro aS ar;obtain⟨aw,⟨L,o,aH,ba,aZ,hd⟩,aA⟩:=ar;have hP:L∈X.fs:=aS L (by unfold jO;rw[A',aH];exact rD)
   obtain⟨fy,e⟩:=I.base.slot L o aZ (I.ok.pL L hP) hP λz=>I.ok.vX L z hP;exact⟨aw,⟨L,_,aH,ba,e,hd⟩,b3 (λb ab=>aS b (by unfold jO;rw[A',aH];exact nq _ ab)) aA⟩
 exact all X.a3 (λ_ ab=>ab) I.ok.lq
def Inv.stack(I:Inv X aa σ H s):s.heap.FunFrames X.base X.stack:=by
 rcases I.ok.w3 with e | ⟨e,aH⟩
 ·rw[e];exact I.lq
 ·rw[e];obtain⟨m,ba,_⟩:=I.loc;refine .cons (by rw[I.ok.kind];decide) aH ba ?_ I.lq
  exact xq (gX I.ok.kI I.ok.above)
def Inv.uL(I:Inv X aa σ H s):∀b∈jO X.stack,b∈X.env.locals::X.fs:=λb ab=>by
 rcases I.ok.w3 with e | ⟨e,aH⟩
 ·rw[e]at ab;exact nq _ ab
 ·rw[e]at ab;unfold jO at ab;rw[A',aH]at ab;exact ab
def Inv.w4(I:Inv X aa σ H s):∀b∈jO X.stack,H b=none:=λb ab=>by
 rcases dR.mp (I.uL b ab)with e | ab
 ·rw[e];exact I.free
 ·obtain⟨_,o,aZ,_⟩:=I.ok.lq.mem ab;exact I.base.free b o aZ (I.ok.pL b ab) λz=>I.ok.vX b z ab
def Inv.step{t':Nat}{d':pf}{ch:List O}(I:Inv X aa σ H s)
  (pO:∀b∈ch,(b∈X.ex∨X.s₀.heap.objs.size<=b)/\b≠X.env.locals/\(∀x c,X.env.cells.lookup x=some c->c≠b)/\∀p∈X.cv++aa,p.1≠b)
  (keep:∀b o,b≠X.env.locals->b∉X.fs->b∉ch->s.heap.get? b=some o->H b=none->h'.get? b=some o)
  (slot:∀b o,b≠X.env.locals->b∈X.fs->b∉ch->s.heap.get? b=some o->H b=none->∃fy,h'.get? b=some {o with slots:=fy})(free:∀b o,b∉ch->s.heap.get? b=some o->H b=none->H' b=none)
  (there:∀b o,b∉ch->s.heap.get? b=some o->∃o',h'.get? b=some o')
  (tups:∀b xs,H b=some (.tup xs)->H' b=some (.tup xs))(l5:∀b o u,H b=some (.eQ o u)->H' b=some (.eQ o u))(nd:∀b ps,H b=some (.lP ps)->∃more,H' b=some (.lP (ps++more)))
  (ns:∀m,s.heap.Ns X.env.locals m->h'.Ns X.env.locals m)(a':eN X.prog X.w H' h')(bl:qh g'):
  Inv X aa σ H' {s with heap:=h',gens:=g',drawn:=d',toks:=t'}:=by
 have Ta:∀b o,X.s₀.heap.get? b=some o->b≠X.env.locals:=λb o e=>d3 (i1 (dm e) I.ok.above);have D2:∀b o,X.s₀.heap.get? b=some o->b∉X.ex->b∉ch:=λb o e ah ab=>by
  rcases(pO b ab).1 with z | z
  ·exact ah z
  ·exact absurd (i1 (dm e) z) (rE _)
 have Pp:∀x c,X.env.cells.lookup x=some c->∀v,s.heap.IsCell c v->h'.IsCell c v:=λx c e v ⟨o,aZ,hd⟩=>by
  have Ah:c∉ch:=λz=>(pO c z).2.2.1 x c e rfl;by_cases aL:c∈X.fs
  ·obtain⟨fy,q⟩:=slot c o (I.qD x c e) aL Ah aZ (I.iR x c e);exact⟨_,q,hd⟩
  ·exact⟨o,keep c o (I.qD x c e) aL Ah aZ (I.iR x c e),hd⟩
 refine⟨I.ok,I.os,bl,⟨λb o e n ab ah=>?_,λb o e n ab ah=>?_,λb o e n ah=>?_,λb o e ah=>?_,λb xs e=>tups b xs (I.base.tups b xs e),λb o xs e=>l5 b o xs (I.base.l5 b o xs e),λb ps e=>?_⟩,?_,λx c e=>?_,?_,λx c e=>?_,λp aB=>?_,a',I.len⟩
 ·exact keep b o (Ta b o e) ab (D2 b o e ah) (I.base.keep b o e n ab ah) (I.base.free b o e n ah)
 ·obtain⟨fy,ag⟩:=I.base.slot b o e n ab ah;obtain⟨EU,aF⟩:=slot b _ (Ta b o e) ab (D2 b o e ah) ag (I.base.free b o e n ah);exact⟨EU,aF⟩
 ·obtain⟨o',ag⟩:=I.base.there b o e ah;exact free b o' (D2 b o e ah) ag (I.base.free b o e n ah)
 ·obtain⟨o',ag⟩:=I.base.there b o e ah;exact there b o' (D2 b o e ah) ag
 ·obtain⟨g8,ag⟩:=I.base.nd b ps e;obtain⟨hB,aF⟩:=nd b _ ag;exact⟨g8++hB,by rw[aF,Array.append_assoc]⟩
 ·obtain⟨m,ba,ar⟩:=I.loc;refine⟨m,ns m ba,λi x v ag aF cU=>?_⟩;obtain⟨u,r,l⟩:=ar i x v ag aF cU;refine⟨u,r,?_⟩;rcases l with l | ⟨k,c,e,z⟩
  ·exact .inl l
  ·exact .inr ⟨k,c,e,Pp x c e _ z⟩
 ·obtain⟨v,z⟩:=I.cell x c e;exact⟨v,Pp x c e v z⟩
 ·obtain⟨m,⟨o,_,_,aZ,_⟩,_⟩:=I.loc;exact free _ o (λz=>(pO _ z).2.1 rfl) aZ I.free
 ·obtain⟨v,o,aZ,hd⟩:=I.cell x c e;exact free c o (λz=>(pO c z).2.2.1 x c e rfl) aZ (I.iR x c e)
 ·obtain⟨e,n,ne,eg,d⟩:=I.pin p aB;have Ah:p.1∉ch:=λz=>(pO p.1 z).2.2.2 p aB rfl;exact⟨keep p.1 p.2 ne eg Ah e n,free p.1 p.2 Ah e n,ne,eg,d⟩
def Inv.un{t':Nat}(I:Inv X aa σ H s)(u:eV X.fs [] H H' s.heap h')(a':eN X.prog X.w H' h'):Inv X aa σ H' {s with heap:=h',toks:=t'}:=by
 obtain⟨m,⟨o,es,ep,aZ,r⟩,_⟩:=id I.loc;obtain⟨fy,hP⟩:=u.any aZ I.free (by simp)
 exact I.step (g':=s.gens) (d':=s.drawn) (ch:=[]) (λ_ z=>nomatch z) (λb o _ ab _ e n=>u.keep b o e n ab (by simp)) (λb o _ ab _ e n=>u.slot b o e n ab (by simp)) (λb o _ e n=>u.free b o e n (by simp)) (λb o _ e=>u.there b o e (by simp)) u.tups u.l5 u.nd (λe_ bx=>by
  obtain⟨o',g4,l2,mR,dA⟩:=bx;rw[aZ]at mR;cases mR;exact⟨_,g4,l2,hP,dA⟩) a' I.bare
def Inv.call{t':Nat}{d':pf}{ch:List O}(I:Inv X aa σ H s)(u:eV (jO X.stack) ch H H' s.heap h')(a':eN X.prog X.w H' h')(bl:qh g')
  (pO:∀b∈ch,(b∈X.ex∨X.s₀.heap.objs.size<=b)/\b≠X.env.locals/\(∀x c,X.env.cells.lookup x=some c->c≠b)/\∀p∈X.cv++aa,p.1≠b):
  Inv X aa σ H' {s with heap:=h',gens:=g',drawn:=d',toks:=t'}:=by
 obtain⟨m,⟨o,es,ep,aZ,r⟩,_⟩:=id I.loc;obtain⟨fy,hP⟩:=u.any aZ I.free λz=>(pO _ z).2.1 rfl;exact I.step (ch:=ch) pO (λb o hP ab aL e n=>u.keep b o e n (λz=>(dR.mp (I.uL b z)).elim hP ab) aL) (λb o _ _ aL e n=>u.any e n aL) (λb o aL e n=>u.free b o e n aL) (λb o aL e=>u.there b o e aL) u.tups u.l5 u.nd (λe_ bx=>by
  obtain⟨o',g4,l2,mR,dA⟩:=bx;rw[aZ]at mR;cases mR;exact⟨_,g4,l2,hP,dA⟩) a' bl
def Inv.turned{t':Nat}{it:O}(I:Inv X aa σ H s)(k:∀b o,b≠it->s.heap.get? b=some o->h'.get? b=some o)(ba:H it=none)(hP:it≠X.env.locals)
  (h1:it∈X.ex∨X.s₀.heap.objs.size<=it)(h2:∀x c,X.env.cells.lookup x=some c->c≠it)(aN:∀p∈X.cv++aa,p.1≠it):Inv X aa σ H {s with heap:=h',toks:=t'}:=by
 have Tg:∀b u,H b=some u->b≠it:=λb u e z=>by rw[z,ba]at e;cases e
 refine I.step (g':=s.gens) (d':=s.drawn) (ch:=[it]) (λb ab=>?_) (λb o _ _ aL e _=>k b o (λz=>aL (by simp[z])) e) (λb o _ _ aL e _=>⟨o.slots,k b o (λz=>aL (by simp[z])) e⟩) (λ_ _ _ _ n=>n)
  (λb o aL e=>⟨o,k b o (λz=>aL (by simp[z])) e⟩) (λ_ _ e=>e) (λ_ _ _ e=>e) (λb ps e=>⟨#[],by rw[e];simp⟩) (λm bx=>?_) (λb u e=>?_) I.bare
 ·have e:b=it:=by simpa using ab
  subst e;exact⟨h1,hP,h2,aN⟩
 ·obtain⟨o,es,ep,aZ,r⟩:=bx;exact⟨o,es,ep,k _ o (Ne.symm hP) aZ,r⟩
 ·refine(I.a' b u e).p8 (λc v aL q=>k c v ?_ q) (λ_ q=>q) λ_ _ q=>q;rcases aL with z | z
  ·rw[z];exact Tg b u e
  ·exact Tg c _ z
def Inv.tok(I:Inv X aa σ H s)(t:Nat):Inv X aa σ H {s with toks:=t}:=I.un (h':=s.heap) (t':=t) eV.refl I.a'
def Inv.kept{t':Nat}(I:Inv X aa σ H s)(k:∀b u,s.heap.get? b=some u->h'.get? b=some u):Inv X aa σ H {s with heap:=h',toks:=t'}:=I.un (eV.kept k) (I.a'.kept k)
def Inv.laid{a:O}{t':Nat}(I:Inv X aa σ H s)(k:∀b u,s.heap.get? b=some u->h'.get? b=some u)(aB:s.heap.objs.size<=a)(new:fZ X.prog X.w (a1 H a o) h' a o):
  Inv X aa σ (a1 H a o) {s with heap:=h',toks:=t'}:=I.un (eV.laid k aB (I.a'.fresh aB)) (I.a'.laid k aB new)
def Inv.write{x e:O}{t':Nat}(I:Inv X aa σ H s)(l9:yq (H x))(he:e=x∨H e=some (.own x))(k:∀b u,b≠e->s.heap.get? b=some u->h'.get? b=some u)(sk:∃u,h'.get? e=some u)
  (new:fZ X.prog X.w (a1 H x o) h' x o):Inv X aa σ (a1 H x o) {s with heap:=h',toks:=t'}:=I.un (eV.write l9 he k sk) (I.a'.write l9 he k sk new)
def Inv.weak{σ':List (Option V)}(I:Inv X aa σ H s)(ar:σ'.length=σ.length)(w:∀(i:Nat) v,σ'[i]? =some (some v)->σ[i]? =some (some v)):Inv X aa σ' H s:=
 ⟨I.ok,I.os,I.bare,I.base,let⟨m,ba,aha⟩:=I.loc;⟨m,ba,λi x v ag aF cU=>aha i x v ag (w i v aF) cU⟩,I.cell,I.free,I.iR,I.pin,I.a',ar.trans I.len⟩
def Inv.KI{lI:List (O×b_)}(I:Inv X aa σ H s)(h:∀p∈lI,s.heap.get? p.1=some p.2/\H p.1=none/\p.1≠X.env.locals/\p.1∉X.fs/\∀v,p.2.data≠ .cell v):Inv X lI σ H s:=
 ⟨I.ok,I.os,I.bare,I.base,I.loc,I.cell,I.free,I.iR,λp aB=>(nn.mp aB).elim (λz=>I.pin p (xy _ z)) (h p),I.a',I.len⟩
def Kj{N:List Str}(e9:N.Nodup){i j:Nat}(a:N[i]? =some x)(b:N[j]? =some x):i=j:=by
 obtain⟨h1,ag⟩:=hf.mp a;obtain⟨h2,aF⟩:=hf.mp b;exact(WK e9).mp (ag.trans aF.symm)
def Va{i:Nat}{Q:Unit->aM->Prop}(I:Inv X aa σ H s)(e9:X.N.Nodup)(au:X.N[i]? =some x)(ah:Loc X.env.scope x)(r:RelV v u)
  (h:∀s',Inv X aa (σ.set i (some v)) H s'->(∃a,i0 a s.heap s'.heap/\(a=X.env.locals∨X.env.cells.lookup x=some a))->Q () s')(aH:X.fn x=true∨X.env.scope.names.lookup x=some .local:=by first | exact .inl rfl | exact .inr rfl | assumption):wpAny M A (storeName X.env x u) Q E s:=by
 obtain⟨m,ba,ar⟩:=id I.loc;have I5:(X.env.scope.kind== .class || (X.env.scope.kind== .module && X.env.locals !=X.env.globals))=false:=by rw[I.ok.kind];rfl
 have RR:i < σ.length:=by rw[I.len];exact(hf.mp au).1
 have qD:=I.qD;have VC:∀{a:O}{h':cg},(∃o,s.heap.get? a=some o/\H a=none)->i0 a s.heap h'->eN X.prog X.w H h':=λ{a h'} af aS b bW e=>by
  obtain⟨_,_,wb⟩:=af;refine(I.a' b bW e).p8 (λc fq aL q=>(aS.2 c ?_).trans q) (λ_ q=>q) λ_ _ q=>q;rintro rfl;rcases aL with rfl | aL
  ·rw[wb]at e;cases e
  ·rw[wb]at aL;cases aL
 rcases ah with aw | aw
 ·refine wpAny_storeName_local aw ba (λh' wc aS=>?_) I5;obtain⟨Tu,_,_,pR,_⟩:=id ba;refine h _ ⟨I.ok,I.os,I.bare,⟨λb o e n ab ah=>?_,λb o e n ab ah=>?_,I.base.free,λb o e ah=>?_,I.base.tups,I.base.l5,I.base.nd⟩,⟨_,wc,λj y xd ag aF cU=>?_⟩,λy c e=>?_,I.free,I.iR,λp aB=>?_,VC ⟨Tu,pR,I.free⟩ aS,by simpa using I.len⟩ ⟨_,aS,.inl rfl⟩
  ·exact(aS.2 b (d3 (i1 (dm e) I.ok.above))).trans (I.base.keep b o e n ab ah)
  ·obtain⟨fy,ag⟩:=I.base.slot b o e n ab ah;exact⟨fy,(aS.2 b (d3 (i1 (dm e) I.ok.above))).trans ag⟩
  ·obtain⟨o',ag⟩:=I.base.there b o e ah;exact⟨o',(aS.2 b (d3 (i1 (dm e) I.ok.above))).trans ag⟩
  ·by_cases a2:j=i
   ·subst a2;rw[au]at ag;cases ag;rw[j1 RR]at aF;cases aF;exact⟨u,r,.inl ⟨aw,by simp⟩⟩
   ·rw[j0 (Ne.symm a2)]at aF;obtain⟨fg,dA,q⟩:=ar j y xd ag aF cU;refine⟨fg,dA,?_⟩;rcases q with⟨k,e⟩ | ⟨k,c,e,z⟩
    ·refine .inl ⟨k,?_⟩;have:y≠x:=λe=>a2 (Kj e9 ag (e▸au));simp[this,e]
    ·exact .inr ⟨k,c,e,z.sameBut aS (qD y c e)⟩
  ·obtain⟨fq,z⟩:=I.cell y c e;exact⟨fq,z.sameBut aS (qD y c e)⟩
  ·obtain⟨e,n,ne,eg,d⟩:=I.pin p aB;exact⟨(aS.2 p.1 ne).trans e,n,ne,eg,d⟩
 ·have Ja:X.fn x=true:=by
   rcases aH with z | z
   ·exact z
   ·rw[z]at aw;cases aw
  obtain⟨c,aL⟩:=I.ok.has x (.inl aw);obtain⟨fq,z⟩:=I.cell x c aL;refine wpAny_storeName_cell I.ok.kind aw aL z (λh' v' aS=>?_);obtain⟨jd,t7,ahn⟩:=id z;refine h {s with heap:=h'} ⟨I.ok,I.os,I.bare,⟨λb o e n ab ah=>?_,λb o e n ab ah=>?_,I.base.free,λb o e ah=>?_,I.base.tups,I.base.l5,I.base.nd⟩,⟨m,ba.sameBut aS (Ne.symm (qD x c aL)),λj y xd ag aF cU=>?_⟩,λy c' e=>?_,I.free,I.iR,λp aB=>?_,VC ⟨jd,t7,I.iR x c aL⟩ aS,by simpa using I.len⟩ ⟨c,aS,.inr aL⟩
  ·exact(aS.2 b (d3 (i1 (dm e) (I.ok.tG x c Ja aL)))).trans (I.base.keep b o e n ab ah)
  ·obtain⟨fy,ag⟩:=I.base.slot b o e n ab ah;exact⟨fy,(aS.2 b (d3 (i1 (dm e) (I.ok.tG x c Ja aL)))).trans ag⟩
  ·obtain⟨o',ag⟩:=I.base.there b o e ah;exact⟨o',(aS.2 b (d3 (i1 (dm e) (I.ok.tG x c Ja aL)))).trans ag⟩
  ·by_cases a2:j=i
   ·subst a2;rw[au]at ag;cases ag;rw[j1 RR]at aF;cases aF;exact⟨u,r,.inr ⟨.inl aw,c,aL,v'⟩⟩
   ·rw[j0 (Ne.symm a2)]at aF;obtain⟨fg,dA,q⟩:=ar j y xd ag aF cU;refine⟨fg,dA,?_⟩;rcases q with q | ⟨k,c',e,z'⟩
    ·exact .inl q
    ·refine .inr ⟨k,c',e,z'.sameBut aS ?_⟩;rintro rfl;exact a2 (Kj e9 ag (I.ok.inj _ _ _ e aL▸au))
  ·by_cases RI:c'=c
   ·subst RI;exact⟨_,v'⟩
   ·obtain⟨qd,ek⟩:=I.cell y c' e;exact⟨qd,ek.sameBut aS RI⟩
  ·obtain⟨e,n,ne,eg,d⟩:=I.pin p aB;refine⟨(aS.2 p.1 ?_).trans e,n,ne,eg,d⟩;intro q;rw[q,t7]at e;have q':jd=p.2:=hW e;exact d fq (by rw[<- q'];exact ahn)
def EZ{i:Nat}{Q:Unit->aM->Prop}(I:Inv X aa σ H s)(e9:X.N.Nodup)(au:X.N[i]? =some x)(ah:Loc X.env.scope x)(r:RelV v u)
  (h:∀s',Inv X aa (σ.set i (some v)) H s'->Q () s')(aH:X.fn x=true∨X.env.scope.names.lookup x=some .local:=by first | exact .inl rfl | exact .inr rfl | assumption):wpAny M A (storeName X.env x u) Q E s:=
 Va I e9 au ah r (λs' dX _=>h s' dX) aH
def Inv.r2{s':aM}{ch:List O}(I:Inv X aa σ H s)(aZ:s'.os=s.os)(u:eV (jO X.stack) ch H H' s.heap s'.heap)(a':eN X.prog X.w H' s'.heap)(bl:qh s'.gens)
  (pO:∀b∈ch,(b∈X.ex∨X.s₀.heap.objs.size<=b)/\b≠X.env.locals/\(∀x c,X.env.cells.lookup x=some c->c≠b)/\∀p∈X.cv++aa,p.1≠b):Inv X aa σ H' s':=by
 obtain⟨h',g',d',t',o'⟩:=s';have e:o'=s.os:=aZ;subst e;exact I.call (g':=g') (t':=t') (d':=d') u a' bl pO
end
abbrev eP:=aj->Option O->ak->Prop
abbrev St:=List (Option V)
abbrev c3:=V->ak->Prop
abbrev TE:=St->ak->c3->Prop
abbrev TT:=St->ak->(Bool->ak->Prop)->Prop
abbrev fi:=St->ak->(List V->ak->Prop)->Prop
structure Ends where
 nx:St->ak->Prop
 ey:c3
 f7:St->ak->Prop:=λ_ _=>False
 ct:St->ak->Prop:=λ_ _=>False
abbrev d8:=Ends->St->ak->Prop
def gj(X:bp)(aa:List (O×b_))(σ:St)(Q:c3)(u:aj)(s':aM):Prop:=∃v H',Inv X aa σ H' s'/\RelV v u/\Q v H'
def Ct(X:bp)(aa:List (O×b_))(σ:St)(Q:Bool->ak->Prop)(b:Bool)(s':aM):Prop:=∃H',Inv X aa σ H' s'/\Q b H'
def N6(X:bp)(aa:List (O×b_))(σ:St)(Q:List V->ak->Prop)(us:List aj)(s':aM):Prop:=∃vs H',Inv X aa σ H' s'/\cz vs us/\Q vs H'
def iK(X:bp)(aa:List (O×b_))(D:Ends)(f:Flow)(s':aM):Prop:=
 match f with
 | .next=>∃σ' H',Inv X aa σ' H' s'/\D.nx σ' H'
 | .brk=>∃σ' H',Inv X aa σ' H' s'/\D.f7 σ' H'
 | .cont=>∃σ' H',Inv X aa σ' H' s'/\D.ct σ' H'
 | .ret u=>∃v σ' H',Inv X aa σ' H' s'/\RelV v u/\D.ey v H'
def bz(X:bp)(e:ck)(t:TE):Prop:=
 ∀(aa:List (O×b_))(s:aM)(σ:St)(H:ak)(Q:c3),Inv X aa σ H s->t σ H Q->wpAny (model X.prog X.w) X.A (eval e X.env) (gj X aa σ Q) X.cb s
def j_(X:bp)(e:ck)(t:TT):Prop:=
 ∀(aa:List (O×b_))(s:aM)(σ:St)(H:ak)(Q:Bool->ak->Prop),Inv X aa σ H s->t σ H Q->wpAny (model X.prog X.w) X.A (isTrue e X.env (eval e X.env)) (Ct X aa σ Q) X.cb s
def qx(X:bp)(e:ck)(t:TT):Prop:=
 ∀(uR:nu aj)(aa:List (O×b_))(s:aM)(σ:St)(H:ak)(Q:Bool->ak->Prop),Inv X aa σ H s->t σ H Q->wpAny (model X.prog X.w) X.A (isTrue e X.env uR) (Ct X aa σ Q) X.cb s
def qx.pt(h:qx X e t):j_ X e t:=h _
def jJ(X:bp)(es:List ck)(t:fi):Prop:=
 ∀(pos:d1)(aa:List (O×b_))(s:aM)(σ:St)(H:ak)(Q:List V->ak->Prop),Inv X aa σ H s->t σ H Q->wpAny (model X.prog X.w) X.A (spliced (backTo pos (starEach es X.env))) (N6 X aa σ Q) X.cb s
def hZ(X:bp)(st:cc)(t:d8):Prop:=
 ∀(aa:List (O×b_))(s:aM)(σ:St)(H:ak)(D:Ends),Inv X aa σ H s->t D σ H->wpAny (model X.prog X.w) X.A (exec st X.env) (iK X aa D) X.cb s
def hw(X:bp)(st:List cc)(t:d8):Prop:=
 ∀(aa:List (O×b_))(s:aM)(σ:St)(H:ak)(D:Ends),Inv X aa σ H s->t D σ H->wpAny (model X.prog X.w) X.A (execs st X.env) (iK X aa D) X.cb s
def bJ{α:Type}{t:nu α}{Q Q':α->aM->Prop}{M:Be}{A:d0}{E:aj->aM->Prop}{s:aM}(h:wpAny M A t Q E s)(eC:∀a s,Q a s->Q' a s):wpAny M A t Q' E s:=j4 h eC λ_ _ x=>x
section
variable{X:bp}
def dP(i:Nat):TE:=λσ H Q=>∃v,σ[i]? =some (some v)/\Q v H
def gT(v:V):TE:=λ_ H Q=>Q v H
abbrev fC(x:Str):Prop:=(x==("__debug__":Str))=false
def alv{i:Nat}(e9:X.N[i]? =some x)(bm:G8 X.env.scope x)(hd:fC x:=by decide)(kL:(x==("__classdict__":Str))=false:=by decide):bz X (.Name x pos) (dP i):=by
 intro aa s σ H Q I h;obtain⟨v,e,h⟩:=h;obtain⟨m,ba,ar⟩:=I.loc;obtain⟨u,r,l⟩:=ar i x v e9 e bm;have dq:gj X aa σ Q u s:=⟨v,H,I,r,h⟩;rcases l with⟨aw,bx⟩ | ⟨aw,c,aL,RJ⟩
 ·exact NV (wpAny_loadName_local I.ok.kind aw ba bx dq) hd
 ·rcases aw with aw | aw
  ·exact NV (wpAny_loadName_cell I.ok.kind aw aL RJ dq) hd
  ·exact NV (wpAny_loadName_free I.ok.kind aw aL RJ dq kL) hd
def dg{i j pos}:bz X (.Constant (.int i) j pos) (gT (.int i)):=λ_ _ _ H _ I h=>wpAny_Constant_int ⟨.int i,H,I.tok _,⟨_,rfl⟩,h⟩
def wG{b j pos}:bz X (.Constant (.bool b) j pos) (gT (.aG b)):=λ_ _ _ H _ I h=>Constant_bool ⟨.aG b,H,I,rfl,h⟩
def Ap{j pos}:bz X (.Constant .none j pos) (gT .bb):=λ_ _ _ H _ I h=>M5 ⟨.bb,H,I,rfl,h⟩
def cx{x j pos}:bz X (.Constant (.str x) j pos) (gT (.str x)):=λ_ _ _ H _ I h=>Calls.Constant_str ⟨.str x,H,I.tok _,⟨_,rfl⟩,h⟩
def fd(X:bp)(x:Str):Prop:=X.env.kindOf x=some .globalImplicit
def lF{H:ak}{Q:aj->aM->Prop}(I:Inv X aa σ H s)(bl:fd X x)(bx:X.mg x=some u)(h:Q u s)
  (hd:fC x:=by decide):wpAny (model X.prog X.w) X.A (eval (.Name x pos) X.env) Q E s:=
 Wc I.ok.kind bl (Calls.loadGlobal_global (by rw[I.ok.glob];exact I.mod.glob.keeps I.f7) bx h) hd
def qV{H:ak}{Q:aj->aM->Prop}(I:Inv X aa σ H s)(bl:fd X x)(bx:X.mg x=none)(bm:bootBuiltins x=some u)(h:Q u s)
  (ba:x≠"__name__":=by decide)(hd:fC x:=by decide):wpAny (model X.prog X.w) X.A (eval (.Name x pos) X.env) Q E s:=by
 obtain⟨kQ,h1,h2⟩:=I.mod.blt;exact Wc I.ok.kind bl (Calls.loadGlobal_builtin (by rw[I.ok.glob];exact I.mod.glob.keeps I.f7) bx (by rw[I.ok.blt];exact h1.keeps I.f7) ((h2 x ba).trans bm) h) hd
def q7(bl:fd X x)(bx:X.mg x=some u)(r:RelV v u)(hd:fC x:=by decide):bz X (.Name x pos) (gT v):=
 λ_ _ _ H _ I h=>lF I bl bx ⟨v,H,I,r,h⟩ hd
def lH(bl:fd X x)(bx:X.mg x=none)(bm:bootBuiltins x=some u)(r:RelV v u)(ba:x≠"__name__":=by decide)(hd:fC x:=by decide):bz X (.Name x pos) (gT v):=
 λ_ _ _ H _ I h=>qV I bl bx bm ⟨v,H,I,r,h⟩ ba hd
variable{a b:ck}{aP tb:TE}{pos:d1}
def vr(X:bp)(eG:xo)(a b:ck)(t:TE):Prop:=
 ∀(aa:List (O×b_))(s:aM)(σ:St)(H:ak)(Q:c3),Inv X aa σ H s->t σ H Q->
  wpAny (model X.prog X.w) X.A (eval a X.env) (λv s₁=>wpAny (model X.prog X.w) X.A (eval b X.env) (λu s₂=>wpAny (model X.prog X.w) X.A (compareOp eG v u) (gj X aa σ Q) X.cb s₂) X.cb s₁) X.cb s
def Tn(b:ck){eG:xo}(h:eG≠ .In)(h2:eG≠ .NotIn):behindInMarks eG b=false:=by
 have ag:(eG==We)=false:=by cases eG<;>first | rfl | exact absurd rfl h
 have aF:(eG==Wf)=false:=by cases eG<;>first | rfl | exact absurd rfl h2
 cases b<;>simp[behindInMarks,ag,aF]
def Vm(aP:TE):TE:=λσ H Q=>aP σ H λx H1=>Q (.aG (decide (x= .bb))) H1
def Vs(aP:TE):TE:=λσ H Q=>aP σ H λx H1=>Q (.aG (!decide (x= .bb))) H1
def RelV.Tp{x:V}{v:aj}(r:RelV x v):(v==Value.none)=decide (x= .bb):=by
 cases x with
 | bb=>cases r;rfl
 | aG _=>cases r;rfl
 | int _=>obtain⟨t,rfl⟩:=r;rfl
 | str _=>obtain⟨t,rfl⟩:=r;rfl
 | k8 _=>obtain⟨t,rfl⟩:=r;rfl
 | sb _=>obtain⟨t,rfl⟩:=r;rfl
 | ref _=>cases r;rfl
 | ty _=>cases r;rfl
def o2{j jU}(af:bz X a aP):vr X .Is a (.Constant .none j jU) (Vm aP):=by
 intro aa s σ H Q I h;refine bJ (af aa s σ H _ I h) λv s1 ⟨x,H1,aW,b4,ao⟩=>?_;exact M5 (is_none_gen ⟨.aG _,H1,aW,by rw[b4.Tp];rfl,ao⟩)
def Ao{j jU}(af:bz X a aP):vr X .IsNot a (.Constant .none j jU) (Vs aP):=by
 intro aa s σ H Q I h;refine bJ (af aa s σ H _ I h) λv s1 ⟨x,H1,aW,b4,ao⟩=>?_;exact M5 (isnot_none_gen ⟨.aG _,H1,aW,by rw[b4.Tp];rfl,ao⟩)
def Mt(t:TE):TT:=λσ H Q=>t σ H λx H1=>∃c,x= .aG c/\Q c H1
def T0(h:vr X eG a b t)(h1:behindInMarks eG b=false:=by first | exact Tn _ (by decide) (by decide) | rfl):bz X (.Compare a [eG] [b] pos) t:=λaa s σ H Q I b0=>X0 (h aa s σ H Q I b0) h1
def g_{eG:xo}{t:TE}(h:vr X eG a b t)(h1:behindInMarks eG b=false:=by first | exact Tn _ (by decide) (by decide) | rfl):j_ X (.Compare a [eG] [b] pos) (Mt t):=by
 intro aa s σ H Q I b0;refine X7 (bJ (h aa s σ H _ I b0) λv s1 h1=>bJ h1 λu s2 h2=>bJ h2 λc s3 ⟨x,H1,aW,b4,ao⟩=>?_) h1;obtain⟨d,rfl,q⟩:=ao;cases b4;exact rL ⟨H1,aW,q⟩
def jV{e:ck}{t:TE}(h:bz X e t)(he:∀uR,isTrue e X.env uR=(do let v <- uR;standAt e.pos;holding [v] (truthy v)):=by intro _;rfl):j_ X e (Mt t):=by
 intro aa s σ H Q I b0;refine isTrue_plain (bJ (h aa s σ H _ I b0) λv s1 ⟨x,H1,aW,b4,ao⟩=>?_) (he _);obtain⟨d,rfl,q⟩:=ao;cases b4;exact rL ⟨H1,aW,q⟩
variable{tA E1:TT}{dG:List ck}
def Ms(t u:TT):TT:=λσ H Q=>t σ H λc H1=>if c=true then u σ H1 Q else Q false H1
def Vt(t u:TT):TT:=λσ H Q=>t σ H λc H1=>if c=true then Q true H1 else u σ H1 Q
def Vr(t:TT):TT:=λσ H Q=>t σ H λc H1=>Q (!c) H1
def p2(af:j_ X a tA):qx X (.BoolOp .And [a] pos) tA:=by
 intro A0 aa s σ H Q I h;refine isTrue_and (bJ (af aa s σ H Q I h) λc s1 e=>?_);cases c with
 | true=>exact isTrue_and_nil e
 | false=>exact e
def Ur(af:j_ X a tA):qx X (.BoolOp .Or [a] pos) tA:=by
 intro A0 aa s σ H Q I h;refine isTrue_or (bJ (af aa s σ H Q I h) λc s1 e=>?_);cases c with
 | false=>exact isTrue_or_nil e
 | true=>exact e
def o5(af:j_ X a tA)(ab:qx X (.BoolOp .And (b::dG) pos) E1):qx X (.BoolOp .And (a::b::dG) pos) (Ms tA E1):=by
 intro A0 aa s σ H Q I h;refine isTrue_and (bJ (af aa s σ H _ I h) λc s1 ⟨H1,aW,ao⟩=>?_);cases c with
 | true=>exact ab A0 aa s1 σ H1 Q aW ao
 | false=>exact⟨H1,aW,ao⟩
def Uq(af:j_ X a tA)(ab:qx X (.BoolOp .Or (b::dG) pos) E1):qx X (.BoolOp .Or (a::b::dG) pos) (Vt tA E1):=by
 intro A0 aa s σ H Q I h;refine isTrue_or (bJ (af aa s σ H _ I h) λc s1 ⟨H1,aW,ao⟩=>?_);cases c with
 | true=>exact⟨H1,aW,ao⟩
 | false=>exact ab A0 aa s1 σ H1 Q aW ao
def q_(af:j_ X a tA):j_ X (.UnaryOp .Not a pos) (Vr tA):=by
 intro aa s σ H Q I h;exact isTrue_not (af aa s σ H (λc H1=>Q (!c) H1) I h)
def Ve(aP tb:TE):TE:=λσ H Q=>aP σ H λx H1=>∃c,x= .aG c/\if c=true then tb σ H1 Q else Q (.aG false) H1
def anE(aP:TE):TE:=λσ H Q=>aP σ H λx H1=>∃c,x= .aG c/\Q (.aG (!c)) H1
def mb{eG}(h:bz X a t):bz X (.BoolOp eG [a] pos) t:=λaa s σ H Q I b0=>BoolOp_one (h aa s σ H Q I b0)
def ma(af:bz X a aP)(ab:bz X (.BoolOp .And (b::dG) pos) tb):bz X (.BoolOp .And (a::b::dG) pos) (Ve aP tb):=by
 intro aa s σ H Q I h;refine BoolOp_and (bJ (af aa s σ H _ I h) λv s1 ⟨x,H1,aW,b4,ao⟩=>?_);obtain⟨c,rfl,ao⟩:=ao;cases b4;refine rL ?_;cases c with
 | true=>exact ab aa s1 σ H1 Q aW ao
 | false=>exact⟨.aG false,H1,aW,rfl,ao⟩
def alq(af:bz X a aP):bz X (.UnaryOp .Not a pos) (anE aP):=by
 intro aa s σ H Q I h;refine UnaryOp_ (bJ (af aa s σ H _ I h) λv s1 ⟨x,H1,aW,b4,ao⟩=>?_);obtain⟨c,rfl,ao⟩:=ao;cases b4;exact not_of (rL ⟨.aG (!c),H1,aW,rfl,ao⟩)
def Vl(t:TT)(aP tb:TE):TE:=λσ H Q=>t σ H λc H1=>if c=true then aP σ H1 Q else tb σ H1 Q
def alk{c:ck}(aL:j_ X c tA)(af:bz X a aP)(ab:bz X b tb):bz X (.IfExp c a b pos) (Vl tA aP tb):=by
 intro aa s σ H Q I h;refine wpAny_IfExp (bJ (aL aa s σ H _ I h) λd s1 ⟨H1,aW,ao⟩=>?_);cases d with
 | true=>exact af aa s1 σ H1 Q aW ao
 | false=>exact ab aa s1 σ H1 Q aW ao
end
def cS(K:b5)(H:ak)(a:O)(xs:List V):Prop:=
 ec H a (.lst xs)∨
  ∃(o:b_)(its:Array aj)(n:Nat),K.lookup a=some o/\o.cls= .type "list"/\o.dict=none/\o.data= .seq its n/\its.size<=sizeLine/\cz xs its.toList
def gL(K:b5)(H:ak)(a:O)(xs:List V):Prop:=
 ec H a (.tup xs)∨
  ∃(o:b_)(its:Array aj)(n:Nat),K.lookup a=some o/\o.cls= .type "tuple"/\o.data= .seq its n/\its.size<=sizeLine/\cz xs its.toList
def aav:aj->Option V
 | .none=>some .bb
 | .bool b=>some (.aG b)
 | .int i _=>some (.int i)
 | .str x _=>some (.str x)
 | .bytes b _=>some (.k8 b)
 | .float b _=>some (.sb b)
 | .ref a=>some (.ref a)
 | .type n=>some (.ty n)
 | _=>none
def RelV.abs(r:RelV x u):aav u=some x:=by
 cases x with
 | bb=>cases r;rfl
 | aG _=>cases r;rfl
 | int _=>obtain⟨t,rfl⟩:=r;rfl
 | str _=>obtain⟨t,rfl⟩:=r;rfl
 | k8 _=>obtain⟨t,rfl⟩:=r;rfl
 | sb _=>obtain⟨t,rfl⟩:=r;rfl
 | ref _=>cases r;rfl
 | ty _=>cases r;rfl
def RelV.inj(r:RelV x u)(q:RelV y u):x=y:=hW (r.abs.symm.trans q.abs)
def cz.inj:∀{xs ys:List V}{us:List aj},cz xs us->cz ys us->xs=ys
 | _,_,_,.nil,.nil=>rfl
 | _,_,_,.cons r t,.cons dA t'=>by rw[r.inj dA,cz.inj t t']
section
variable{X:bp}{aa:List (O×b_)}{σ:St}{H:ak}{s:aM}{a:O}{xs ys:List V}
def cS.of{K:b5}(h:H a=some (.lst xs)):cS K H a xs:=.inl (.inl h)
def gL.of{K:b5}(h:H a=some (.tup xs)):gL K H a xs:=.inl (.inl h)
def Inv.list(I:Inv X aa σ H s)(h:cS X.K H a xs):∃its:List aj,cz xs its/\PlainL s.heap a its.toArray/\xs.length<=sizeLine:=by
 rcases h with h | ⟨o,its,n,aw,aL,hd,aS,hz,r⟩
 ·obtain⟨z,its,n,r,e⟩:=h.ok I.a';exact⟨its,r,⟨_,n,e,rfl,rfl,rfl⟩,z⟩
 ·refine⟨its.toList,r,⟨o,n,I.eo a o aw,aL,hd,by simpa using aS⟩,?_⟩
  have e:=r.length;simp only[jA]at e;omega
def Inv.tuple(I:Inv X aa σ H s)(h:gL X.K H a xs):∃its:List aj,cz xs its/\IsTup s.heap a its.toArray/\xs.length<=sizeLine:=by
 rcases h with h | ⟨o,its,n,aw,aL,aS,hz,r⟩
 ·obtain⟨z,its,r,p⟩:=h.ok I.a';exact⟨its,r,p,z⟩
 ·refine⟨its.toList,r,⟨o,I.eo a o aw,aL,n,by simpa using aS⟩,?_⟩
  have e:=r.length;simp only[jA]at e;omega
def Inv.SM(I:Inv X aa σ H s)(h:cS X.K H a xs)(h':cS X.K H a ys):xs=ys:=by
 obtain⟨its,r,⟨o,n,e,_,_,d⟩,_⟩:=I.list h;obtain⟨its',dA,⟨o',q0,bQ,_,_,d'⟩,_⟩:=I.list h';rw[e]at bQ;cases bQ;rw[d]at d';injection d' with hN _
 have:its=its':=by simpa using congrArg Array.toList hN
 subst this;exact r.inj dA
end
abbrev bp.qe(X:bp)(E:aj->aM->Prop):bp:={X with cb:=E}
abbrev bp.nZ(X:bp):bp:=X.qe λ_ _=>False
def bp.Ok.qe{X:bp}(ok:X.Ok)(E:aj->aM->Prop):(X.qe E).Ok:=
 ⟨ok.mod,ok.kind,ok.glob,ok.blt,ok.above,ok.inj,ok.has,ok.tG,ok.hd,ok.frames,ok.w3,ok.C6,ok.bs,ok.kI,ok.sE,ok.vX,ok.lq,ok.pL⟩
def bp.Ok.s0{X:bp}(ok:(X.qe E).Ok):X.Ok:=
 ⟨ok.mod,ok.kind,ok.glob,ok.blt,ok.above,ok.inj,ok.has,ok.tG,ok.hd,ok.frames,ok.w3,ok.C6,ok.bs,ok.kI,ok.sE,ok.vX,ok.lq,ok.pL⟩
section
variable{X:bp}{aa:List (O×b_)}{σ:St}{H:ak}{s:aM}{E:aj->aM->Prop}
def Inv.qe(I:Inv X aa σ H s)(E:aj->aM->Prop):Inv (X.qe E) aa σ H s:=⟨I.ok.qe E,I.os,I.bare,I.base,I.loc,I.cell,I.free,I.iR,I.pin,I.a',I.len⟩
def Inv.s0(I:Inv (X.qe E) aa σ H s):Inv X aa σ H s:=⟨I.ok.s0,I.os,I.bare,I.base,I.loc,I.cell,I.free,I.iR,I.pin,I.a',I.len⟩
def iK.s0(h:iK (X.qe E) aa D f s'):iK X aa D f s':=by
 cases f with
 | next=>obtain⟨σ',H',I,q⟩:=h;exact⟨σ',H',I.s0,q⟩
 | brk=>obtain⟨σ',H',I,q⟩:=h;exact⟨σ',H',I.s0,q⟩
 | cont=>obtain⟨σ',H',I,q⟩:=h;exact⟨σ',H',I.s0,q⟩
 | ret u=>obtain⟨v,σ',H',I,r,q⟩:=h;exact⟨v,σ',H',I.s0,r,q⟩
def hw.nZ{st:List cc}{t:d8}(h:hw X.nZ st t):hw X st t:=λaa s σ H D I b0=>
 j4 (h aa s σ H D (I.qe _) b0) (λ_ _ q=>q.s0) λ_ _ z=>ik z
end
section
variable{X:bp}{st:cc}{dG:List cc}{t u:d8}{e:ck}{te:TE}{pos:d1}
def AR:d8:=λD σ H=>D.nx σ H
def e1(t u:d8):d8:=λD σ H=>t {D with nx:=u D} σ H
def dZ:hw X [] AR:=λ_ _ σ H _ I h=>NX ⟨σ,H,I,h⟩
def a6(h1:hZ X st t)(h2:hw X dG u):hw X (st::dG) (e1 t u):=by
 intro aa s σ H D I h;refine X4 (bJ (h1 aa s σ H {D with nx:=u D} I h) λf s1 q=>?_)
 cases f with
 | next=>
  obtain⟨σ',H',dX,q⟩:=q;exact h2 aa s1 σ' H' D dX q
 | ret v=>exact q
 | brk=>exact q
 | cont=>exact q
def bI(h1:hZ X st t):hw X [st] t:=by
 intro aa s σ H D I h;refine X4 (bJ (h1 aa s σ H D I h) λf s1 q=>?_);cases f with
 | next=>exact NX q
 | ret v=>exact q
 | brk=>exact q
 | cont=>exact q
def Inv.quiet{H:ak}(I:Inv X aa σ H s):interactive X.env=false:=by simp[interactive,I.ok.kind]
def sY(te:TE):d8:=λD σ H=>te σ H λ_ H1=>D.nx σ H1
def fU(he:bz X e te)(aS:swapsWith e none pos.line X.env=pure false:=by rfl):hZ X (.Expr e pos) (sY te):=by
 intro aa s σ H D I h;exact wpAny_Expr_any (bJ (he aa s σ H _ I h) λv s1 ⟨x,H1,aW,b4,ao⟩=>⟨σ,H1,aW,ao⟩) I.quiet aS
def w8(te:TE):d8:=λD σ H=>te σ H D.ey
def dr(he:bz X e te):hZ X (.Return (some e) pos) (w8 te):=by
 intro aa s σ H D I h;exact wpAny_Return_some (bJ (he aa s σ H _ I h) λv s1 ⟨x,H1,aW,b4,ao⟩=>⟨x,σ,H1,aW,b4,ao⟩)
def w7(c:TT)(t u:d8):d8:=λD σ H=>c σ H λb H1=>if b=true then t D σ H1 else u D σ H1
def dN{c:ck}{a b:List cc}{hT:TT}(aL:j_ X c hT)(af:hw X a t)(ab:hw X b u):hZ X (.If c a b pos) (w7 hT t u):=by
 intro aa s σ H D I h;refine wpAny_If (bJ (aL aa s σ H _ I h) λd s1 ⟨H1,aW,ao⟩=>?_);cases d with
 | true=>exact af aa s1 σ H1 D aW ao
 | false=>exact ab aa s1 σ H1 D aW ao
def Mz:d8:=λ_ _ _=>False
def hQ:hw X aqJ Mz:=λ_ _ _ _ _ _ h=>h.elim
end
abbrev gM:=V->St->ak->(St->ak->Prop)->Prop
abbrev rY:=List V->St->ak->(St->ak->Prop)->Prop
def nD(X:bp)(anO:ck)(t:gM):Prop:=
 ∀(aa:List (O×b_))(s:aM)(σ:St)(H:ak)(v:V)(u:aj)(Q:St->ak->Prop),Inv X aa σ H s->RelV v u->t v σ H Q->
  wpAny (model X.prog X.w) X.A (assign anO X.env u) (λ_ s'=>∃σ' H',Inv X aa σ' H' s'/\Q σ' H') X.cb s
def Cn(X:bp)(ts:List ck)(t:rY):Prop:=
 ∀(aa:List (O×b_))(s:aM)(σ:St)(H:ak)(vs:List V)(us:List aj)(Q:St->ak->Prop),Inv X aa σ H s->cz vs us->t vs σ H Q->
  wpAny (model X.prog X.w) X.A (assignInOrder ((assignEach ts X.env).map (·.2)) us) (λ_ s'=>∃σ' H',Inv X aa σ' H' s'/\Q σ' H') X.cb s
abbrev G6:=V->V->V->ak->(ak->Prop)->Prop
def OV(X:bp)(t:G6):Prop:=
 ∀(aa:List (O×b_))(s:aM)(σ:St)(H:ak)(o i v:V)(eL iU u:aj)(Q:ak->Prop),Inv X aa σ H s->RelV o eL->RelV i iU->RelV v u->t o i v H Q->
  wpAny (model X.prog X.w) X.A (setItem eL iU u) (λ_ s'=>∃H',Inv X aa σ H' s'/\Q H') X.cb s
section
variable{X:bp}{pos:d1}
def lr(i:Nat):gM:=λv σ H Q=>Q (σ.set i (some v)) H
def ew{i:Nat}(e9:X.N.Nodup)(au:X.N[i]? =some x)(ah:Loc X.env.scope x)(aH:X.fn x=true∨X.env.scope.names.lookup x=some .local:=by first | exact .inl rfl | exact .inr rfl | assumption):nD X (.Name x pos) (lr i):=by
 intro aa s σ H v u Q I r h;exact X1 (EZ I e9 au ah r (λs' dX=>⟨_,H,dX,h⟩) aH)
def Rk:rY:=λvs σ H Q=>vs=[]/\Q σ H
def Rj(t:gM)(u:rY):rY:=λvs σ H Q=>∃v r,vs=v::r/\t v σ H λσ' H'=>u r σ' H' Q
def Et:Cn X [] Rk:=by
 intro aa s σ H vs us Q I r h;obtain⟨e,h⟩:=h;subst e;cases r;exact assignInOrder_nil ⟨σ,H,I,h⟩
def sL{e:ck}{es:List ck}{t:gM}{u:rY}(h1:nD X e t)(h2:Cn X es u)
  (aS:(assignEach (e::es) X.env).map (·.2)=assign e X.env::(assignEach es X.env).map (·.2):=by rfl):Cn X (e::es) (Rj t u):=by
 intro aa s σ H vs us Q I r h;obtain⟨v,n_,ag,h⟩:=h;subst ag;cases r with
 | cons r uE=>
  rw[aS];refine assignInOrder_cons (bJ (h1 aa s σ H _ _ _ I r h) λ_ s1 ⟨ni,H1,aW,ao⟩=>?_);exact h2 aa s1 ni H1 _ _ Q aW uE ao
def Rl(K:b5)(n:Nat)(t:rY):gM:=λv σ H Q=>∃a xs,v= .ref a/\gL K H a xs/\xs.length=n/\t xs σ H Q
def Es{n:Nat}(aL:X.calm=true)(h:Cn X es t)
  (ba:(assignEach es X.env).length=n:=by rfl)(mT:(assignEach es X.env).findIdx? (·.1)=none:=by rfl):nD X (.Tuple es k pos) (Rl X.K n t):=by
 intro aa s σ H v u Q I r b0;obtain⟨a,xs,ag,a9,ar,b0⟩:=b0;subst ag;cases r;obtain⟨its,cf,cj,hz⟩:=I.tuple a9;refine assign_Tuple_tuple (I.ok.hd aL) cj (by simp[ba, <- ar,cf.length]) mT λh' ah=>?_
 have aW:Inv X aa σ H {s with heap:=h'}:=I.kept (t':=s.toks) λb o e=>ah b o (d3 (dm e)) e
 exact h aa _ σ H xs _ Q aW (by simpa using cf) b0
def IM(to E7:TE)(t:G6):gM:=λv σ H Q=>to σ H λo H1=>E7 σ H1 λi H2=>t o i v H2 λH3=>Q σ H3
def wK{o i:ck}{to E7:TE}{t:G6}(aZ:bz X o to)(au:bz X i E7)(aS:OV X t)
  (af:∀v,assign (.Subscript o i pos) X.env v=(do
   let eL <- holding [v] (eval o X.env)
   let iU <- holding [v,eL] (eval i X.env)
   standAt pos
   holding [v,eL,iU] (setItem eL iU v)
   release [v,eL,iU] []):=by intro _;rfl):nD X (.Subscript o i pos) (IM to E7 t):=by
 intro aa s σ H v u Q I r h;rw[af];refine aQ (jF (bJ (aZ aa s σ H _ I h) λeL s1 ⟨x,H1,aW,b4,ao⟩=>?_));refine aQ (jF (bJ (au aa s1 σ H1 _ aW ao) λiU s2 ⟨y,H2,bU,da,bZ⟩=>?_));refine aQ (rK (aQ (jF (bJ (aS aa s2 σ H2 x y v eL iU u _ bU b4 da r bZ) λ_ s3 ⟨H3,b9,fk⟩=>?_))));exact wpAny_release ⟨σ,H3,b9,fk⟩
def ml(te:TE)(g:gM):d8:=λD σ H=>te σ H λx H1=>g x σ H1 D.nx
def wL{dH e:ck}{te:TE}{g:gM}(he:bz X e te)(bl:nD X dH g)(aS:swapsWithSole [dH] e pos.line X.env=pure false:=by rfl)(b0:swappedStores [dH] e X.env=pure none:=by rfl)
  (h1:(assignEach [dH] X.env).map (·.2)=[assign dH X.env]:=by rfl):hZ X (.Assign [dH] e pos) (ml te g):=by
 intro aa s σ H D I h;refine wpAny_Assign_stores (bJ (he aa s σ H _ I h) λv s1 ⟨x,H1,aW,b4,ao⟩=>?_) aS b0;rw[h1];exact bJ (bl aa s1 σ H1 x v _ aW b4 ao) λ_ s2 q=>q
def du{i:Nat}{x:Str}{e:ck}{te:TE}{jU:d1}(e9:X.N.Nodup)(au:X.N[i]? =some x)(ah:Loc X.env.scope x)(he:bz X e te)(aS:swapsWith e (some (.Name x jU)) pos.line X.env=pure false:=by rfl)(aH:X.fn x=true∨X.env.scope.names.lookup x=some .local:=by first | exact .inl rfl | exact .inr rfl | assumption):
  hZ X (.Assign [.Name x jU] e pos) (ml te (lr i)):=by
 intro aa s σ H D I h;refine wpAny_Assign_Name (bJ (he aa s σ H _ I h) λv s1 ⟨y,H1,aW,b4,ao⟩=>?_) aS;exact EZ aW e9 au ah b4 (λs2 bU=>⟨_,H1,bU,ao⟩) aH
end
structure It where
 go:Nat->ak->Prop
 rx:Nat->ak->V->ak->Prop
 stop:Nat->ak->Prop
def hJ(X:bp)(aa:List (O×b_))(H:ak)(b:O):Prop:=
 H b=none/\b≠X.env.locals/\b∉X.fs/\(b∈X.ex∨X.s₀.heap.objs.size<=b)/\(∀x c,X.env.cells.lookup x=some c->c≠b)/\∀p∈X.cv++aa,p.1≠b
def Inv.qJ{H H':ak}{b:O}(I:Inv X aa σ H s)(ab:s.heap.objs.size<=b)(ba:H' b=none):hJ X aa H' b:=by
 refine⟨ba,ph (i1 I.lt ab),I.ajv ab,.inr (gX I.lO ab),λx c e z=>?_,λp aB z=>?_⟩
 ·obtain⟨v,q⟩:=I.cell x c e;exact absurd (i1 q.lt (by rw[z];exact ab)) (rE _)
 ·exact absurd (i1 (dm (I.pin p aB).1) (by rw[z];exact ab)) (rE _)
structure vx(P:dn)(w:cH)(K:b5)(dH:ck)(bP:It)(fp:List O)(it:O)(gf:Nat->cg->Prop):Prop where
 mem:it∈fp
 obj:∀i h,gf i h->∀b∈fp,∃o,h.get? b=some o/\∀v,o.data≠ .cell v
 keep:∀i h h',gf i h->(∀b∈fp,∀o,h.get? b=some o->h'.get? b=some o)->gf i h'
 item:∀(X:bp),X.prog=P->X.w=w->X.K=K->X.calm=true->∀(i:Nat)(aa:List (O×b_))(s:aM)(σ:St)(H:ak)(E:aj->aM->Prop),Inv X aa σ H s->(∀b∈fp,hJ X aa H b)->gf i s.heap->bP.go i H->
  wpAny (model P w) X.A (pyNext (.ref it)) (λr s1=>∃u,r=some u/\
   wpAny (model P w) X.A (letOwnedTupleGo dH (.ref it) u) (λ_ s2=>∃x H',Inv X aa σ H' s2/\RelV x u/\bP.rx i H x H'/\gf (i+1) s2.heap/\∀b∈fp,H' b=none) E s1) E s
 done:∀(X:bp),X.prog=P->X.w=w->X.K=K->X.calm=true->∀(i:Nat)(aa:List (O×b_))(s:aM)(σ:St)(H:ak)(E:aj->aM->Prop),Inv X aa σ H s->(∀b∈fp,hJ X aa H b)->gf i s.heap->bP.stop i H->
  wpAny (model P w) X.A (pyNext (.ref it)) (λr s1=>r=none/\Inv X aa σ H s1) E s
 self:∀(A:d0)(i:Nat)(s:aM)(Q:aj->aM->Prop)(E:aj->aM->Prop),gf i s.heap->Q (.ref it) s->wpAny (model P w) A (pyIter (.ref it)) Q E s
abbrev TI:=St->ak->(It->ak->Prop)->Prop
def OU(X:bp)(aa:List (O×b_))(σ:St)(dH:ck)(R:It->ak->Prop)(JH:aj)(s2:aM):Prop:=
 ∃(it:O)(fp:List O)(gf:Nat->cg->Prop)(bP:It)(H':ak),JH= .ref it/\Inv X aa σ H' s2/\vx X.prog X.w X.K dH bP fp it gf/\gf 0 s2.heap/\(∀b∈fp,hJ X aa H' b)/\R bP H'
def mE(X:bp)(dH gw:ck)(ez:TI):Prop:=
 ∀(aa:List (O×b_))(s:aM)(σ:St)(H:ak)(R:It->ak->Prop),Inv X aa σ H s->ez σ H R->
  wpAny (model X.prog X.w) X.A (eval gw X.env) (λv s1=>wpAny (model X.prog X.w) X.A (pyIter v) (OU X aa σ dH R) X.cb s1) X.cb s
def Dj{s:aM}{it:O}{Q:Unit->aM->Prop}(aZ:s.heap.get? it=some o)(aL:o.cls= .type n)(hd:o.data= .fields vs)
  (ba: ["enumerate","zip","dict_itemiterator","dict_reverseitemiterator","odict_iterator","itertools.zip_longest","itertools.pairwise"].contains n=false)(eC:Q () s):wpAny M A (letOwnedTupleGo dH (.ref it) u) Q E s:=by
 unfold letOwnedTupleGo;cases dH<;>first
  | exact bC eC
  | (
    cases u<;>first
    | exact bC eC
    | (
      refine aQ (NZ aZ ?_);rw[aL,hd];show wpAny M A (if(["enumerate","zip","dict_itemiterator","dict_reverseitemiterator","odict_iterator","itertools.zip_longest","itertools.pairwise"].contains n && vs[0]? ==some (rawInt _))=true then _ else _) Q E s
      rw[if_neg (by intro h;rw[ba,A6]at h;cases h)]
      exact bC eC))
def OP(K:b5)(a:O):It:=
 ⟨λi H=>∃xs x,cS K H a xs/\xs[i]? =some x,λi H x H'=>H'=H/\∀xs,cS K H a xs->xs[i]? =some x,λi H=>∃xs,cS K H a xs/\xs.length<=i⟩
def yk(lo:Int)(n:Nat):It:=⟨λi _=>i < n,λi H x H'=>H'=H/\x= .int (lo+i),λi _=>n<=i⟩
def an0{P:dn}{w:cH}{K:b5}{dH:ck}(a it:O):vx P w K dH (OP K a) [it] it (λi h=>h.IsListIter it a i) where
 mem:=by simp
 obj:=λi h st b ab=>by
  have e:b=it:=by simpa using ab
  subst e;obtain⟨o,e,c,d⟩:=st;exact⟨o,e,λv z=>by rw[d]at z;cases z⟩
 keep:=λi h h' st k=>st.at λo e=>k it (by simp) o e
 item:=by
  intro X dj b0 iS aL i aa s σ H E I aH st bl;subst dj b0 iS;obtain⟨xs,x,a9,ah⟩:=bl;obtain⟨its,cf,p,hz⟩:=I.list a9;obtain⟨u,aD,dO⟩:=cf.get ah;obtain⟨iv,f1,fF,dc,hh,hx⟩:=aH it (by simp)
  refine Bu st p.isList (x:=u) (by simpa using aD) λh' iZ dU=>?_
  have aW:Inv X aa σ H {s with heap:=h'}:=I.turned (t':=s.toks) (λb o ab e=>(dU.2 b ab).trans e) iv f1 dc hh hx
  obtain⟨o,e,c,d⟩:=id iZ;exact⟨u,rfl,Dj (s:={s with heap:=h'}) e c d (by decide) ⟨x,H,aW,dO,⟨rfl,λys b2=>by rw[I.SM b2 a9];exact ah⟩,iZ,λb ab=>(aH b ab).1⟩⟩
 done:=by
  intro X dj b0 iS aL i aa s σ H E I aH st bl;subst dj b0 iS;obtain⟨xs,a9,ah⟩:=bl;obtain⟨its,cf,p,hz⟩:=I.list a9;obtain⟨iv,f1,fF,dc,hh,hx⟩:=aH it (by simp)
  have ar:=cf.length;exact F9 (I.ok.hd aL) st p.isList (by simp;omega) λh' cC=>⟨rfl,I.turned (t':=s.toks) (λb o ab e=>cC b o ab e) iv f1 dc hh hx⟩
 self:=λ_ _ _ _ _ st h=>wpAny_pyIter_listiter st h
def an1{P:dn}{w:cH}{K:b5}{dH:ck}(it:O)(lo:Int)(n:Nat):vx P w K dH (yk lo n) [it] it (λi h=>IsRangeIter h it (lo+(i:Nat) * 1) ((n:Int) - (i:Nat)) 1) where
 mem:=by simp
 obj:=λi h st b ab=>by
  have e:b=it:=by simpa using ab
  subst e;exact⟨_,st,λv z=>by
   have z':M6 _=Wh v:=z;cases z'⟩
 keep:=λi h h' st k=>k it (by simp) _ st
 item:=by
  intro X dj b0 iS aL i aa s σ H E I aH st bl;subst dj b0 iS;obtain⟨iv,f1,fF,dc,hh,hx⟩:=aH it (by simp)
  have W:=Walks.range (prog:=X.prog) (w:=X.w) (I.ok.hd aL) it lo 1 n;refine W.item i s _ _ bl st λv h' tk bm iZ kk=>?_;obtain⟨t,rfl⟩:=bm;have aW:Inv X aa σ H {s with heap:=h',toks:=tk}:=I.turned (λb o ab e=>kk b o (by simpa using ab) e) iv f1 dc hh hx
  refine⟨_,rfl,Dj (s:={s with heap:=h',toks:=tk}) (n:="range_iterator") iZ rfl rfl (by decide) ⟨.int (lo+i),H,aW,⟨t,?_⟩,⟨rfl,rfl⟩,iZ,λb ab=>(aH b ab).1⟩⟩
  rw[Int.mul_one]
 done:=by
  intro X dj b0 iS aL i aa s σ H E I aH st bl;subst dj b0 iS;obtain⟨iv,f1,fF,dc,hh,hx⟩:=aH it (by simp)
  exact wpAny_pyNext_range_end (I.ok.hd aL) st (by have:n<=i:=bl;omega) λh' cC=>⟨rfl,I.turned (t':=s.toks) (λb o ab e=>cC b o ab e) iv f1 dc hh hx⟩
 self:=λ_ _ _ _ _ st h=>wpAny_pyIter_rangeiter st h
section
variable{X:bp}{dH:ck}
def Sd(K:b5)(gz:TE):TI:=λσ H R=>gz σ H λx H1=>∃a,x= .ref a/\(∃xs,cS K H1 a xs)/\R (OP K a) H1
def g9{l:ck}{gz:TE}(ar:bz X l gz):mE X dH l (Sd X.K gz):=by
 intro aa s σ H R I h;refine bJ (ar aa s σ H _ I h) λv s1 ⟨x,H1,aW,b4,ao⟩=>?_;obtain⟨a,e,⟨xs,a9⟩,q⟩:=ao;subst e;cases b4;obtain⟨its,cf,p,hz⟩:=aW.list a9;refine xR p.isList ?_;refine⟨s1.heap.objs.size,[s1.heap.objs.size],_,_,H1,rfl,aW.kept (t':=s1.toks) λb o e=>cV _ e,an0 a _,⟨_,eT _ rfl,rfl,rfl⟩,λb ab=>?_,q⟩;have e:b=s1.heap.objs.size:=by simpa using ab
 subst e;exact aW.qJ (c9 _) (aW.a'.fresh (c9 _))
def al_{H:ak}{R:It->ak->Prop}{lo au:Int}{tk:Nat}(I:Inv X aa σ H s)(h1: -(2 ^ 62)<=lo)(h2:lo < 2 ^ 62)(aN: -(2 ^ 62)<=au)(h4:au < 2 ^ 62)
  (q:R (yk lo (au - lo).toNat) H):wpAny (model X.prog X.w) X.A (pyIter (.ref s.heap.objs.size)) (OU X aa σ dH R) E {s with heap:=s.heap.push {cls:=.type "range",data:=.fields #[.int lo t,.int au u,.int 1 v]},toks:=tk}:=by
 refine wpAny_pyIter_range (IsRange.new ..) (small_one h1 h2 aN h4) ?_;have aW:Inv X aa σ H {s with heap:=s.heap.push {cls:=.type "range",data:=.fields #[.int lo t,.int au u,.int 1 v]},toks:=tk}:=I.kept λb o e=>cV _ e
 refine⟨(s.heap.push {cls:=.type "range",data:=.fields #[.int lo t,.int au u,.int 1 v]}).objs.size,[(s.heap.push {cls:=.type "range",data:=.fields #[.int lo t,.int au u,.int 1 v]}).objs.size],_,_,H,rfl,
  aW.kept (t':=tk) λb o e=>cV _ e,an1 _ lo (au - lo).toNat,?_,λb ab=>?_,q⟩
 ·have ag:lo+((0:Nat):Int) * 1=lo:=by simp
  have aF:(((au - lo).toNat:Nat):Int) - ((0:Nat):Int)=ao0 lo au 1:=by rw[rangeSize_one];split<;>omega
  show IsRangeIter _ _ (lo+((0:Nat):Int) * 1) ((((au - lo).toNat:Nat):Int) - ((0:Nat):Int)) 1;rw[ag,aF];exact eT _ rfl
 ·have e:b=(s.heap.push {cls:=.type "range",data:=.fields #[.int lo t,.int au u,.int 1 v]}).objs.size:=by simpa using ab
  subst e;exact aW.qJ (c9 _) (aW.a'.fresh (c9 _))
def Se(aP:fi):TI:=λσ H R=>aP σ H λvs H1=>∃j:Int,vs=[.int j]/\-(2 ^ 62)<=j/\j < 2 ^ 62/\R (yk 0 j.toNat) H1
def KG{a:ck}{aP:fi}{p pos:d1}(bl:fd X "range")(bx:X.mg "range"=none)(af:jJ X [a] aP)(aS:starEach [a] X.env=[(false,eval a X.env)]:=by rfl):mE X dH (.Call (.Name "range" p) [a] [] pos) (Se aP):=by
 intro aa s σ H R I h;refine Call_ (qV I bl bx boot_range (Np (bJ (af pos aa s σ H _ I h) λus s1 ⟨vs,H1,aW,b4,ao⟩=>?_) aS rfl));obtain⟨j,e,ao,bZ,q⟩:=ao;subst e;cases b4 with
 | cons r uE=>
  cases uE;obtain⟨t,rfl⟩:=r;exact call_range_1 (al_ aW (by omega) (by omega) ao bZ (by simpa using q))
def w6(ez:TI)(g:gM)(tb:d8):d8:=λD σ H=>ez σ H λbP H1=>∃W:Nat->Nat->St->ak->Prop,(∃m,W 0 m σ H1)/\∀i m σ H,W i m σ H->
 (bP.stop i H/\D.nx σ H)∨(bP.go i H/\∃N:St->ak->Prop,(∀σ' H',N σ' H'->∃e_,e_ < m/\W (i+1) e_ σ' H')/\∀x H',bP.rx i H x H'->g x σ H' λfX H2=>tb {D with nx:=N,ct:=N,f7:=D.nx} fX H2)
def Ar(fp:List O)(h:cg):List (O×b_):=fp.filterMap λb=>(h.get? b).map λo=>(b,o)
def DX{fp:List O}{h:cg}{b:O}(ab:b∈fp)(e:h.get? b=some o):(b,o)∈Ar fp h:=FD.mpr ⟨b,ab,by rw[e];rfl⟩
def ajY{p:O×b_}(aB:p∈Ar fp h):p.1∈fp/\h.get? p.1=some p.2:=by
 obtain⟨b,ab,e⟩:=FD.mp aB;cases q:h.get? b with
 | none=>rw[q]at e;cases e
 | some o=>
  rw[q]at e;have bQ:(b,o)=p:=hW e;subst bQ;exact⟨ab,q⟩
def Inv.pinned{H:ak}{fp:List O}(I:Inv X aa σ H s)(aH:∀b∈fp,hJ X aa H b)(aZ:∀b∈fp,∃o,s.heap.get? b=some o/\∀v,o.data≠ .cell v):Inv X (aa++Ar fp s.heap) σ H s:=
 I.KI λp aB=>(nn.mp aB).elim (λz=>I.pin p (il _ z)) λz=>by
  obtain⟨ab,e⟩:=ajY z;obtain⟨iv,f1,fF,_⟩:=aH p.1 ab;obtain⟨o,bQ,d⟩:=aZ p.1 ab;rw[e]at bQ;cases bQ;exact⟨e,iv,f1,fF,d⟩
def Inv.w'{aa pl:List (O×b_)}{H:ak}(I:Inv X (aa++pl) σ H s):Inv X aa σ H s:=I.KI λp aB=>I.pin p (il _ (xy _ aB))
def hn{gw:ck}{body:List cc}{ez:TI}{g:gM}{tb:d8}{pos:d1}(aB:PassesOwn (model X.prog X.w) X.A X.env X.cb)(aL:X.calm=true)(au:mE X dH gw ez)(bl:nD X dH g)(ab:hw X body tb)
  (aS:∀x,foldedSetIterable gw X.env x=pure x:=by intro _;rfl):hZ X (.For dH gw body [] pos) (w6 ez g tb):=by
 intro aa s σ H D I h;refine wpAny_For (bJ (au aa s σ H _ I h) λv s1 h1=>bJ h1 λJH s2 h2=>?_) aS;obtain⟨it,fp,gf,bP,H2,e,bU,T,w0,fF,W,⟨z7,o8⟩,turn⟩:=h2;subst e;have Mk:∀{H':ak},(∀b∈fp,H' b=none)->∀b∈fp,hJ X aa H' b:=λba b ab=>⟨ba b ab,(fF b ab).2⟩;refine codeAny_forLoop_any (λn s'=>∃i σ' H',Inv X aa σ' H' s'/\gf i s'.heap/\(∀b∈fp,H' b=none)/\W i n σ' H') ?_ z7 ⟨0,σ,H2,bU,w0,λb ab=>(fF b ab).1,o8⟩;rintro n s3 ⟨i,ob,H3,b9,AL,Rb,AX⟩;rcases turn i n ob H3 AX with⟨stop,wQ⟩ | ⟨go,N,e9,step⟩
 ·refine Bt aB (bJ (T.done X rfl rfl rfl aL i aa s3 ob H3 X.cb b9 (Mk Rb) AL stop) λr fI ⟨aA,iI⟩=>?_);subst aA;exact NX ⟨ob,H3,iI,wQ⟩
 ·refine Bt aB (bJ (T.item X rfl rfl rfl aL i aa s3 ob H3 X.cb b9 (Mk Rb) AL go) λr fI ⟨u,aA,h4⟩=>?_);subst aA;refine Bt aB (bJ h4 λ_ ha ⟨x,H5,tp,rf,MQ,w1,De⟩=>?_);have ZM:=tp.pinned (Mk De) (T.obj _ _ w1);refine Bt aB (bJ (bl _ ha ob H5 x u _ ZM rf (step x H5 MQ)) λ_ jY ⟨MT,mD,j7,alV⟩=>?_);refine Bt aB (bJ (ab _ jY MT mD _ j7 alV) λf kn sQ=>?_);have again:∀{pb:St}{hg:ak},Inv X (aa++Ar fp ha.heap) pb hg kn->N pb hg->∃m,m < n/\∃i σ' H',Inv X aa σ' H' kn/\gf i kn.heap/\(∀b∈fp,H' b=none)/\W i m σ' H':=λ{pb hg} k4 uo=>by
   obtain⟨e_,bx,o9⟩:=e9 pb hg uo;refine⟨e_,bx,i+1,pb,hg,k4.w',T.keep _ _ _ w1 λb ab o e=>(k4.pin (b,o) (il _ (il _ (DX ab e)))).1,λb ab=>?_,o9⟩;obtain⟨o,e,d⟩:=T.obj _ _ w1 b ab;exact(k4.pin (b,o) (il _ (il _ (DX ab e)))).2.1
  cases f with
  | next=>obtain⟨pb,hg,k4,uo⟩:=sQ;exact again k4 uo
  | cont=>obtain⟨pb,hg,k4,uo⟩:=sQ;exact again k4 uo
  | brk=>obtain⟨pb,hg,k4,sQ⟩:=sQ;exact⟨pb,hg,k4.w',sQ⟩
  | ret v=>obtain⟨MO,pb,hg,k4,rg,sQ⟩:=sQ;exact⟨MO,pb,hg,k4.w',rg,sQ⟩
end
abbrev iJ:=V->V->ak->c3->Prop
def f6(X:bp)(f:aj->aj->nu aj)(r:iJ):Prop:=
 ∀(aa:List (O×b_))(s:aM)(σ:St)(H:ak)(x y:V)(v u:aj)(Q:c3),Inv X aa σ H s->RelV x v->RelV y u->r x y H Q->
  wpAny (model X.prog X.w) X.A (f v u) (gj X aa σ Q) X.cb s
def G7(X:bp)(f:aj->nu aj)(r:V->ak->c3->Prop):Prop:=
 ∀(aa:List (O×b_))(s:aM)(σ:St)(H:ak)(x:V)(v:aj)(Q:c3),Inv X aa σ H s->RelV x v->r x H Q->
  wpAny (model X.prog X.w) X.A (f v) (gj X aa σ Q) X.cb s
def ji(X:bp)(f:aj)(r:List V->ak->c3->Prop):Prop:=
 ∀(aa:List (O×b_))(s:aM)(σ:St)(H:ak)(xs:List V)(us:List aj)(Q:c3),Inv X aa σ H s->cz xs us->r xs H Q->
  wpAny (model X.prog X.w) X.A (call f us) (gj X aa σ Q) X.cb s
def Z9(X:bp)(r:V->ak->(Bool->ak->Prop)->Prop):Prop:=
 ∀(aa:List (O×b_))(s:aM)(σ:St)(H:ak)(x:V)(v:aj)(Q:Bool->ak->Prop),Inv X aa σ H s->RelV x v->r x H Q->
  wpAny (model X.prog X.w) X.A (truthy v) (Ct X aa σ Q) X.cb s
def nc(r:iJ)(aP tb:TE):TE:=λσ H Q=>aP σ H λx H1=>tb σ H1 λy H2=>r x y H2 Q
def Vy(r:V->ak->c3->Prop)(aP:TE):TE:=λσ H Q=>aP σ H λx H1=>r x H1 Q
def p3(C:Int->Int->Prop)(g:Int->Int->V):iJ:=λx y H Q=>∃i j,x= .int i/\y= .int j/\C i j/\Q (g i j) H
def lJ(g:Int->Int->V):iJ:=λx y H Q=>∃i j,x= .int i/\y= .int j/\Q (g i j) H
def Az(g:Int->V):V->ak->c3->Prop:=λx H Q=>∃i,x= .int i/\Q (g i) H
section
variable{X:bp}{a b:ck}{aP tb:TE}{pos:d1}
def Hm(af:bz X a aP)(ab:bz X b tb){aa:List (O×b_)}{s:aM}{σ:St}{H:ak}{R:V->V->ak->Prop}(I:Inv X aa σ H s)
  (h:aP σ H λx H1=>tb σ H1 λy H2=>R x y H2){Q:aj->aM->Prop}{f:aj->aj->nu aj}
  (aH:∀v u s2 x y H2,Inv X aa σ H2 s2->RelV x v->RelV y u->R x y H2->wpAny (model X.prog X.w) X.A (f v u) Q X.cb s2):
  wpAny (model X.prog X.w) X.A (eval a X.env) (λv s₁=>wpAny (model X.prog X.w) X.A (eval b X.env) (λu s₂=>wpAny (model X.prog X.w) X.A (f v u) Q X.cb s₂) X.cb s₁) X.cb s:=by
 refine bJ (af aa s σ H _ I h) λv s1 ⟨x,H1,aW,b4,ao⟩=>?_;refine bJ (ab aa s1 σ H1 _ aW ao) λu s2 ⟨y,H2,bU,da,bZ⟩=>?_;exact aH v u s2 x y H2 bU b4 da bZ
def f'(aZ:f6 X (binaryOp eG) r)(af:bz X a aP)(ab:bz X b tb):bz X (.BinOp a eG b pos) (nc r aP tb):=by
 intro aa s σ H Q I h;exact wpAny_BinOp (Hm af ab I h λv u s2 x y H2 bU bt br q=>aZ aa s2 σ H2 x y v u Q bU bt br q)
def alu{eG:UnaryOp}{r:V->ak->c3->Prop}(aZ:G7 X (unaryOp eG) r)(af:bz X a aP):bz X (.UnaryOp eG a pos) (Vy r aP):=by
 intro aa s σ H Q I h;exact UnaryOp_ (bJ (af aa s σ H _ I h) λv s1 ⟨x,H1,aW,b4,ao⟩=>aZ aa s1 σ H1 x v Q aW b4 ao)
def Ec{f:aj->aj->nu aj}{C:Int->Int->Prop}{g:Int->Int->Int}
  (rule:∀(i j:Int)(t u:i3)(s:aM)(Q:aj->aM->Prop)(E:aj->aM->Prop),C i j->Q (.int (g i j) s.toks) {s with toks:=s.toks+1}->wpAny (model X.prog X.w) X.A (f (.int i t) (.int j u)) Q E s):
  f6 X f (p3 C λi j=>.int (g i j)):=by
 intro aa s σ H x y v u Q I bt br h;obtain⟨i,j,rfl,rfl,aL,q⟩:=h;obtain⟨t,rfl⟩:=bt;obtain⟨t',rfl⟩:=br;exact rule i j t t' s _ _ aL ⟨.int (g i j),H,I.tok _,⟨_,rfl⟩,q⟩
def TG{f:aj->aj->nu aj}{g:Int->Int->Int}
  (rule:∀(i j:Int)(t u:i3)(s:aM)(Q:aj->aM->Prop)(E:aj->aM->Prop),Q (.int (g i j) s.toks) {s with toks:=s.toks+1}->wpAny (model X.prog X.w) X.A (f (.int i t) (.int j u)) Q E s):
  f6 X f (lJ λi j=>.int (g i j)):=by
 intro aa s σ H x y v u Q I bt br h;obtain⟨i,j,rfl,rfl,q⟩:=h;obtain⟨t,rfl⟩:=bt;obtain⟨t',rfl⟩:=br;exact rule i j t t' s _ _ ⟨.int (g i j),H,I.tok _,⟨_,rfl⟩,q⟩
def Eb{f:aj->aj->nu aj}{g:Int->Int->Bool}
  (rule:∀(i j:Int)(t u:i3)(s:aM)(Q:aj->aM->Prop)(E:aj->aM->Prop),Q (.bool (g i j)) s->wpAny (model X.prog X.w) X.A (f (.int i t) (.int j u)) Q E s):
  f6 X f (lJ λi j=>.aG (g i j)):=by
 intro aa s σ H x y v u Q I bt br h;obtain⟨i,j,rfl,rfl,q⟩:=h;obtain⟨t,rfl⟩:=bt;obtain⟨t',rfl⟩:=br;exact rule i j t t' s _ _ ⟨.aG (g i j),H,I,rfl,q⟩
def YV(i j:Int):Prop:=0 < j/\j < 1073741824
def Ou(i j:Int):Prop:=0<=j/\j<=1000000/\i.natAbs < 2 ^ 64
def Bz(i j:Int):Prop:=(-(2 ^ 64)< i/\i < 2 ^ 64)∨(-(2 ^ 64)< j/\j < 2 ^ 64)
def Bz.ok(h:Bz i j):IntMulOk i j:=by
 rcases h with⟨h1,h2⟩ | ⟨h1,h2⟩
 ·exact .of_left (XP h1 h2)
 ·exact .of_right (XP h1 h2)
def q4:f6 X (binaryOp .Add) (lJ λi j=>.int (i+j)):=TG λ_ _ _ _ _ _ _ q=>add_int q
def ak7:f6 X (binaryOp .Sub) (lJ λi j=>.int (i - j)):=TG λ_ _ _ _ _ _ _ q=>sub_int q
def sG:f6 X (binaryOp .Mult) (p3 Bz λi j=>.int (i * j)):=Ec λ_ _ _ _ _ _ _ aL q=>mul_int q aL.ok
def TK:f6 X (binaryOp .FloorDiv) (p3 YV λi j=>.int (i / j)):=Ec λi j _ _ _ _ _ aL q=>by
 have h1:(0:Int)< j:=aL.1;have h2:j < 1073741824:=aL.2;exact floordiv_int (by omega) (by rw[Int.fdiv_eq_ediv_of_nonneg i (by omega)];exact q) (.inl (PyProof.noPylong_small (by omega)))
def wD:f6 X (binaryOp .Mod) (p3 (λ_ j=>0 < j) λi j=>.int (i % j)):=Ec λi j _ _ _ _ _ aL q=>by
 have h1:(0:Int)< j:=aL;exact mod_int' (by omega) (by rw[Int.fmod_eq_emod_of_nonneg i (by omega)];exact q)
def ak6:f6 X (binaryOp .Pow) (p3 Ou λi j=>.int (i ^ j.toNat)):=Ec λ_ _ _ _ _ _ _ aL q=>pow_int_small aL.1 aL.2.1 aL.2.2 q
def an3{f:aj->nu aj}{g:Int->Int}
  (rule:∀(i:Int)(t:i3)(s:aM)(Q:aj->aM->Prop)(E:aj->aM->Prop),Q (.int (g i) s.toks) {s with toks:=s.toks+1}->wpAny (model X.prog X.w) X.A (f (.int i t)) Q E s):
  G7 X f (Az λi=>.int (g i)):=by
 intro aa s σ H x v Q I bt h;obtain⟨i,rfl,q⟩:=h;obtain⟨t,rfl⟩:=bt;exact rule i t s _ _ ⟨.int (g i),H,I.tok _,⟨_,rfl⟩,q⟩
def an5:G7 X (unaryOp .USub) (Az λi=>.int (-i)):=an3 λ_ _ _ _ _ q=>neg_int q
end
def EP:V->V->Bool
 | .bb,.bb=>true | .bb,.int _=>true | .int _,.bb=>true | .bb,.aG _=>true | .aG _,.bb=>true | .bb,.str _=>true | .str _,.bb=>true
 | .int _,.int _=>true | .aG _,.aG _=>true | .str _,.str _=>true | .k8 _,.k8 _=>true
 | .int _,.str _=>true | .str _,.int _=>true | .aG _,.str _=>true | .str _,.aG _=>true
 | _,_=>false
def Ut:iJ:=λx y H Q=>EP x y=true/\Q (.aG (decide (x=y))) H
def al3:iJ:=λx y H Q=>EP x y=true/\Q (.aG (!decide (x=y))) H
def PG:decide (V.int i=V.int j)=(i==j):=by
 rw[pe];simp
def PE:decide (V.aG i=V.aG j)=(i==j):=by
 rw[pe];simp
def PH:decide (V.str i=V.str j)=(i==j):=by
 rw[pe];simp
def PF:decide (V.k8 i=V.k8 j)=(i.toList==j.toList):=by
 rw[pe];cases i;cases j;simp
section
variable{X:bp}{a b c:ck}{aP tb hT:TE}{pos:d1}
def f0{H:ak}{Q:c3}{k sx:Bool}(I:Inv X aa σ H s)(q:Q (.aG k) H)(e:k=sx):gj X aa σ Q (.bool sx) s:=by
 subst e;exact⟨.aG k,H,I,rfl,q⟩
def Kv:f6 X (compareOp .Eq) Ut:=by
 intro aa s σ H x y v u Q I bt br h;obtain⟨aS,q⟩:=h;cases x with
 | bb=>
  cases bt;cases y with
  | bb=>cases br;exact apg (f0 I q (by simp))
  | aG j=>cases br;exact ape (f0 I q (by simp))
  | int j=>obtain⟨t',rfl⟩:=br;exact apf (f0 I q (by simp))
  | str j=>obtain⟨t',rfl⟩:=br;exact aph (f0 I q (by simp))
  | _=>exact absurd (show false=true from aS) hG
 | aG i=>
  cases bt;cases y with
  | bb=>cases br;exact apc (f0 I q (by simp))
  | aG j=>cases br;exact eq_bool (f0 I q PE)
  | str j=>obtain⟨t',rfl⟩:=br;exact ao6 (f0 I q (by simp))
  | _=>exact absurd (show false=true from aS) hG
 | int i=>
  obtain⟨t,rfl⟩:=bt;cases y with
  | bb=>cases br;exact apd (f0 I q (by simp))
  | int j=>obtain⟨t',rfl⟩:=br;exact eq_int (f0 I q PG)
  | str j=>obtain⟨t',rfl⟩:=br;exact ao7 (f0 I q (by simp))
  | _=>exact absurd (show false=true from aS) hG
 | str i=>
  obtain⟨t,rfl⟩:=bt;cases y with
  | bb=>cases br;exact api (f0 I q (by simp))
  | aG j=>cases br;exact ao8 (f0 I q (by simp))
  | int j=>obtain⟨t',rfl⟩:=br;exact ao9 (f0 I q (by simp))
  | str j=>obtain⟨t',rfl⟩:=br;exact eq_str (f0 I q PH)
  | _=>exact absurd (show false=true from aS) hG
 | k8 i=>
  obtain⟨t,rfl⟩:=bt;cases y with
  | k8 j=>obtain⟨t',rfl⟩:=br;exact PySem.W.eq_bytes (f0 I q PF)
  | _=>exact absurd (show false=true from aS) hG
 | _=>cases y<;>exact absurd (show false=true from aS) hG
def Ky:f6 X (compareOp .NotEq) al3:=by
 intro aa s σ H x y v u Q I bt br h;obtain⟨aS,q⟩:=h;cases x with
 | bb=>
  cases bt;cases y with
  | bb=>cases br;exact apn (f0 I q (by simp))
  | aG j=>cases br;exact apl (f0 I q (by simp))
  | int j=>obtain⟨t',rfl⟩:=br;exact apm (f0 I q (by simp))
  | str j=>obtain⟨t',rfl⟩:=br;exact apo (f0 I q (by simp))
  | _=>exact absurd (show false=true from aS) hG
 | aG i=>
  cases bt;cases y with
  | bb=>cases br;exact apj (f0 I q (by simp))
  | aG j=>cases br;exact ne_bool (f0 I q (congrArg not PE))
  | str j=>obtain⟨t',rfl⟩:=br;exact ao_ (f0 I q (by simp))
  | _=>exact absurd (show false=true from aS) hG
 | int i=>
  obtain⟨t,rfl⟩:=bt;cases y with
  | bb=>cases br;exact apk (f0 I q (by simp))
  | int j=>obtain⟨t',rfl⟩:=br;exact ne_int (f0 I q (congrArg not PG))
  | str j=>obtain⟨t',rfl⟩:=br;exact ao' (f0 I q (by simp))
  | _=>exact absurd (show false=true from aS) hG
 | str i=>
  obtain⟨t,rfl⟩:=bt;cases y with
  | bb=>cases br;exact apq (f0 I q (by simp))
  | aG j=>cases br;exact apa (f0 I q (by simp))
  | int j=>obtain⟨t',rfl⟩:=br;exact apb (f0 I q (by simp))
  | str j=>obtain⟨t',rfl⟩:=br;exact ne_str (f0 I q (congrArg not PH))
  | _=>exact absurd (show false=true from aS) hG
 | k8 i=>
  obtain⟨t,rfl⟩:=bt;cases y with
  | k8 j=>obtain⟨t',rfl⟩:=br;exact PySem.W.ne_bytes (f0 I q (congrArg not PF))
  | _=>exact absurd (show false=true from aS) hG
 | _=>cases y<;>exact absurd (show false=true from aS) hG
def Kx:f6 X (compareOp .Lt) (lJ λi j=>.aG (decide (i < j))):=Eb λ_ _ _ _ _ _ _ q=>lt_int q
def Ed:f6 X (compareOp .LtE) (lJ λi j=>.aG (decide (i<=j))):=Eb λ_ _ _ _ _ _ _ q=>le_int q
def ak0:f6 X (compareOp .Gt) (lJ λi j=>.aG (decide (j < i))):=Eb λ_ _ _ _ _ _ _ q=>gt_int q
def Kw:f6 X (compareOp .GtE) (lJ λi j=>.aG (decide (j<=i))):=Eb λ_ _ _ _ _ _ _ q=>ge_int q
def ak1:f6 X (compareOp .Lt) (λx y H Q=>∃i j,x= .str i/\y= .str j/\Q (.aG (decide (i.cps.toList < j.cps.toList))) H):=by
 intro aa s σ H x y v u Q I bt br h;obtain⟨i,j,rfl,rfl,q⟩:=h;obtain⟨t,rfl⟩:=bt;obtain⟨t',rfl⟩:=br;exact lt_str (f0 I q rfl)
def TL:f6 X (compareOp .In) (λx y H Q=>∃i j,x= .str i/\y= .str j/\Q (.aG (!(Wb j i 0 j.length 1).isEmpty)) H):=by
 intro aa s σ H x y v u Q I bt br h;obtain⟨i,j,rfl,rfl,q⟩:=h;obtain⟨t,rfl⟩:=bt;obtain⟨t',rfl⟩:=br;exact in_str (f0 I q rfl)
def kl(b:ck){eG:xo}(h:eG≠ .In:=by decide)(h2:eG≠ .NotIn:=by decide):behindInMarks eG b=false:=by
 have ag:(eG==We)=false:=by cases eG<;>first | rfl | exact absurd rfl h
 have aF:(eG==Wf)=false:=by cases eG<;>first | rfl | exact absurd rfl h2
 cases b<;>simp[behindInMarks,ag,aF]
def wH(aZ:f6 X (compareOp eG) r)(af:bz X a aP)(ab:bz X b tb)(bx:behindInMarks eG b=false):bz X (.Compare a [eG] [b] pos) (nc r aP tb):=by
 intro aa s σ H Q I h;exact X0 (Hm af ab I h λv u s2 x y H2 bU bt br q=>aZ aa s2 σ H2 x y v u Q bU bt br q) bx
def w9(t:TE):TT:=λσ H Q=>t σ H λx H'=>∃k,x= .aG k/\Q k H'
def ho{eG:xo}{r:iJ}(aZ:f6 X (compareOp eG) r)(af:bz X a aP)(ab:bz X b tb)(bx:behindInMarks eG b=false):j_ X (.Compare a [eG] [b] pos) (w9 (nc r aP tb)):=by
 intro aa s σ H Q I h;refine X7 (bJ (af aa s σ H _ I h) λv s1 ⟨x,H1,aW,b4,ao⟩=>bJ (ab aa s1 σ H1 _ aW ao) λu s2 ⟨y,H2,bU,da,bZ⟩=>
  bJ (aZ aa s2 σ H2 x y v u _ bU b4 da bZ) λc s3 ⟨z,H3,b9,kY,k,e,fk⟩=>?_) bx
 subst e;cases kY;exact rL ⟨H3,b9,fk⟩
def Vf(r dA:iJ)(aP tb hT:TE):TE:=λσ H Q=>aP σ H λx H1=>tb σ H1 λy H2=>r x y H2 λz H3=>∃k,z= .aG k/\
 (if k=true then hT σ H3 λfq H4=>dA y fq H4 Q else Q (.aG false) H3)
def TZ{eG Ku:xo}{r dA:iJ}(aZ:f6 X (compareOp eG) r)(mR:f6 X (compareOp Ku) dA)(af:bz X a aP)(ab:bz X b tb)(aL:bz X c hT)
  (bx:lastMarks [eG,Ku] [b,c]=false:=by with_unfolding_all rfl):bz X (.Compare a [eG,Ku] [b,c] pos) (Vf r dA aP tb hT):=by
 intro aa s σ H Q I h;refine Compare_chain (bJ (af aa s σ H _ I h) λv s1 ⟨x,H1,aW,b4,ao⟩=>chain_link (bJ (ab aa s1 σ H1 _ aW ao) λu s2 ⟨y,H2,bU,da,bZ⟩=>
  bJ (aZ aa s2 σ H2 x y v u _ bU b4 da bZ) λd s3 ⟨z,H3,b9,kY,k,e,fk⟩=>?_)) bx
 subst e;cases kY;refine rL ?_;cases k with
 | false=>exact ite_ff ⟨.aG false,H3,b9,rfl,fk⟩
 | true=>exact ite_tt (chain_last (bJ (aL aa s3 σ H3 _ b9 fk) λfq fI ⟨z',H4,iI,rd,K0⟩=>mR aa fI σ H4 y z' u fq Q iI da rd K0))
def Cu(K:b5)(x:V)(H:ak)(k:Bool):Prop:=
 match x with
 | .bb=>k=false
 | .aG b=>k=b
 | .int i=>k=(i !=0)
 | .str y=>y.length<=sizeLine/\k=((y.length:Int) !=0)
 | .k8 y=>y.size<=sizeLine/\k=((y.size:Int) !=0)
 | .ref p=>(∃xs,cS K H p xs/\k= !xs.isEmpty)∨(∃xs,gL K H p xs/\k= !xs.isEmpty)∨∃kvs,H p=some (.a7 kvs)/\k= !kvs.isEmpty
 | _=>False
def ahV{fA:Type}{kvs:List (fA×V)}{vs:List (fA×aj)}(r:fY kvs vs):(!vs.isEmpty)= !kvs.isEmpty:=by
 cases r<;>rfl
def Si(r:cz xs its):(!its.toArray.isEmpty)= !xs.isEmpty:=by
 cases r<;>simp
def ug:(sizeLine:Nat)< 2 ^ 63:=by rw[k1];decide
def VD:Z9 X (λx H Q=>∃k,Cu X.K x H k/\Q k H):=by
 intro aa s σ H x v Q I bt h;obtain⟨k,e,q⟩:=h;have ar:=ug;have aS:sizeLine=16777216:=k1;cases x with
 | bb=>
  cases bt;have bQ:k=false:=e;subst bQ;exact truthy_none ⟨H,I,q⟩
 | aG b=>
  cases bt;have bQ:k=b:=e;subst bQ;exact rL ⟨H,I,q⟩
 | int i=>
  obtain⟨t,rfl⟩:=bt;have bQ:k=(i !=0):=e;subst bQ;exact PySem.P.truthy_int ⟨H,I,q⟩
 | str y=>
  obtain⟨t,rfl⟩:=bt;obtain⟨b2,bQ⟩:y.length<=sizeLine/\k=((y.length:Int) !=0):=e;subst bQ;exact PySem.P.truthy_str (by omega) ⟨H,I.tok _,q⟩
 | k8 y=>
  obtain⟨t,rfl⟩:=bt;obtain⟨b2,bQ⟩:y.size<=sizeLine/\k=((y.size:Int) !=0):=e;subst bQ;exact PySem.W.truthy_bytes (by omega) ⟨H,I.tok _,q⟩
 | ref p=>
  cases bt;have bQ:(∃xs,cS X.K H p xs/\k= !xs.isEmpty)∨(∃xs,gL X.K H p xs/\k= !xs.isEmpty)∨∃kvs,H p=some (.a7 kvs)/\k= !kvs.isEmpty:=e;rcases bQ with⟨xs,ah,bQ⟩ | ⟨xs,ah,bQ⟩ | ⟨kvs,ah,bQ⟩
  ·subst bQ;obtain⟨its,r,pl,hz⟩:=I.list ah;have eh:=r.length;exact wpAny_truthy_list pl.isList (by simp only[hV];omega) ⟨H,I.tok _,by rw[Si r];exact q⟩
  ·subst bQ;obtain⟨its,r,pl,hz⟩:=I.tuple ah;have eh:=r.length;exact truthy_tuple pl (by simp only[hV];omega) ⟨H,I.tok _,by rw[Si r];exact q⟩
  ·subst bQ;obtain⟨hz,dE,vs,r,m⟩:kvs.length<=sizeLine/\(p==sysModules)=false/\∃vs,fY kvs vs/\s.heap.DictOf (fG X.prog X.w) p vs:=I.a' p _ ah;have eh:kvs.length=vs.length:=Paired.length r;exact wpAny_truthy_dict dE m (by omega) ⟨H,I.tok _,by rw[ahV r];exact q⟩
 | _=>exact(show False from e).elim
def KN(af:bz X a aP)(he:∀uR,isTrue a X.env uR=(do let v <- uR;standAt a.pos;holding [v] (truthy v))):
  j_ X a (λσ H Q=>aP σ H λx H'=>∃k,Cu X.K x H' k/\Q k H'):=by
 intro aa s σ H Q I h;exact isTrue_plain (bJ (af aa s σ H _ I h) λv s1 ⟨x,H1,aW,b4,ao⟩=>VD aa s1 σ H1 x v Q aW b4 ao) (he _)
def TH:f6 X (binaryOp .Add) (λx y H Q=>∃i j,x= .str i/\y= .str j/\i.length+j.length<=sizeLine/\Q (.str (i++j)) H):=by
 intro aa s σ H x y v u Q I bt br h;obtain⟨i,j,rfl,rfl,hz,q⟩:=h;obtain⟨t,rfl⟩:=bt;obtain⟨t',rfl⟩:=br;exact add_str (λt' tk=>⟨.str (i++j),H,I.tok _,⟨_,rfl⟩,q⟩) hz
def vals1{x:V}(r:cz [x] us):∃u,us=[u]/\RelV x u:=by
 cases r with
 | cons b4 da=>cases da;exact⟨_,rfl,b4⟩
end
structure tv(h:cg)(x dx C:O)(mA:Str->Option aj):Prop where
 obj:h.get? x=some (rH C dx)
 ns:h.Ns1 dx mA
 ne:dx≠x
def J0{h:cg}(n:h.Ns1 dx mA):∃od,h.get? dx=some od/\∀name,FV name od=some (mA name):=by
 obtain⟨o,es,ep,aZ,hd,aw,_,bx⟩:=n;refine⟨o,aZ,λname=>?_⟩;have e:=bx name;unfold nsFind findBy at e;rw[<- MX]at e;unfold FV;rw[hd];dsimp only;split
 ·rename_i y q;rw[q]at e;exact congrArg some e
 ·rename_i q;rw[q]at e;have a:es.toList.any (·.refKey)=false:=by
   rw[List.any_eq_false];intro y b2;obtain⟨z,t,ag5⟩:=aw y (Array.mem_toList_iff.mp b2);simp[Wi,ag5]
  have iu:¬es.toList.any (·.refKey)=true:=by rw[a];exact hG
  rw[if_neg iu];exact congrArg some e
def tv.look(I:tv h x dx C mA):∃od,Xh h x (rH C dx) C (some od)/\∀name,FV name od=some (mA name):=
 let⟨od,aZ,ar⟩:=J0 I.ns
 ⟨od,⟨I.obj,rfl,rfl,aZ⟩,ar⟩
section
variable{prog:dn}{w:cH}{A:d0}{E:aj->aM->Prop}{s:aM}{K:b5}{x dx C f:O}{mA:Str->Option aj}{name:Str}{v:aj}
def af3{Q:aj->aM->Prop}(X:K.In s.heap)(I:tv s.heap x dx C mA)(bl:FW K C name=true)(cu:Nu K C=true)
  (af:kB K (.ref C) name=some none)(bm:mA name=some v)(ahD:Xl v=true)(h:Q v {s with toks:=s.toks+1}):
  wpAny (model prog w) A (getAttr (.ref x) name Ij) Q E s:=by
 obtain⟨od,bP,ar⟩:=I.look;exact PySem.W.get_value X bP (Nz bl).1 (PySem.W.findObj_own cu af rfl (by rw[ar,bm])) ahD h
def af4{Q:aj×List aj->aM->Prop}(X:K.In s.heap)(I:tv s.heap x dx C mA)(bl:FW K C name=true)
  (aH:kB K (.ref C) name=some (some (.ref f)))(cj:FU K (.ref f)=true)(bm:mA name=none)(h:Q (.ref f,[.ref x]) s):
  wpAny (model prog w) A (getMethod (.ref x) name pl) Q E s:=by
 obtain⟨od,bP,ar⟩:=I.look;exact PySem.W.method_fn X bP (Nz bl).1 (Nz bl).2 aH (beq_iff_eq.mp cj) (by show(FV name od).map (·.isSome)=some false;rw[ar,bm];rfl) h
def ang{Q:Unit->aM->Prop}(X:K.In s.heap)(I:tv s.heap x dx C mA)
  (aS:kB K (.ref C) "__setattr__"=some (some (.builtin "object.__setattr__")))(aB:Xp K C=true)(cj:NC K C name=some none)(cu:Nu K C=true)
  (b0:xK mA ns)(hsz:ns.length<=sizeLine)
  (h:∀h',tv h' x dx C (λy=>if y=name then some v else mA y)->i0 dx s.heap h'->Q () {s with heap:=h',toks:=s.toks+2}):
  wpAny (model prog w) A (setAttr (.ref x) name v) Q E s:=by
 obtain⟨od,bP,ar⟩:=I.look;refine PySem.W.set_plain X bP aS (PySem.W.osa_open (s:={s with toks:=s.toks+1}) (r:=none) X bP aB cj λb=>?_)
 obtain⟨cd,aL,oR⟩:=PySem.W.any_some cu;have ah:s.heap.get? x=some ⟨.ref C,some dx,.plain, #[]⟩:=I.obj;refine aQ (bC (aQ (aQ (F6 ah (aQ (apr (s:={s with toks:=s.toks+1}) (PySem.W.looks_clsIn X aL) ?_))))))
 rw[oR];refine bC (a:=some dx) (aQ (bC (aQ ?_)));refine N2 (s:={s with toks:=s.toks+1}) I.ns λh' t5 pS=>?_
 obtain⟨l',Qb,P4,zT,zP,zO⟩:=t5.count (ND name v b0);refine aQ (N0 zT (by rw[zP];exact NP (gX zO (by rw[hH];omega))) ?_)
 exact bC (h _ ⟨(pS.2 _ (Ne.symm I.ne)).trans I.obj,t5,I.ne⟩ pS)
def aiU{vs:List aj}{kw:List (Str×aj)}(X:K.In s.heap)(bx:Nv K C=true)
  (au:kB K (.ref C) "__init__"=some (some (.ref f)))(aH:PySem.W.typeIn K (.ref f)=some (.type "function"))
  (h:codeAny (model prog w) (A.under (.builtin "type.__call__" ⟨.ref C::vs,kw⟩)) (.call (.ref f) ⟨.ref (s.heap.objs.size+1)::vs,kw⟩) (PySem.W.InitBack (s.heap.objs.size+1) R)
   {s with heap:=(s.heap.push rG).push (rH C s.heap.objs.size)}):
  codeAny (model prog w) A (.call (.ref C) ⟨vs,kw⟩) R s:=by
 obtain⟨cu,g,d,t,os⟩:=s;exact PySem.W.make_core (PySem.W.makes_of X bx) (PySem.W.looks_findIn X au) (λself=>PySem.W.bind_fn X self aH) (.inl rfl) h
end
def ie(f:Str)(v:V):List (Str×V)->List (Str×V)
 | []=>[(f,v)]
 | (g,x)::r=>if g=f then(g,v)::r else(g,x)::ie f v r
def J2(f g:Str)(v:V):∀fs:List (Str×V),(ie f v fs).lookup g=if g=f then some v else fs.lookup g
 | []=>by
  show s9 g [(f,v)]=_;by_cases h:g=f
  ·have ab:(g==f)=true:=beq_iff_eq.mpr h;simp only[s9,ab,if_pos h]
  ·have ab:(g==f)=false:=beq_eq_false_iff_ne.mpr h;simp only[s9,ab,if_neg h]
 | (k,x)::r=>by
  have b3:=J2 f g v r;rw[show ie f v ((k,x)::r)=(if k=f then(k,v)::r else(k,x)::ie f v r)from rfl]
  by_cases aw:k=f
  ·rw[if_pos aw];by_cases h:g=k
   ·have ab:(g==k)=true:=beq_iff_eq.mpr h;simp only[s9,ab,if_pos (h.trans aw)]
   ·have ab:(g==k)=false:=beq_eq_false_iff_ne.mpr h;simp only[s9,ab,if_neg (λe:g=f=>h (e.trans aw.symm))]
  ·rw[if_neg aw];by_cases h:g=k
   ·have ab:(g==k)=true:=beq_iff_eq.mpr h;simp only[s9,ab,if_neg (λe:g=f=>aw (h.symm.trans e))]
   ·have ab:(g==k)=false:=beq_eq_false_iff_ne.mpr h;simp only[s9,ab];exact b3
def z2(f:Str)(v:V):∀fs:List (Str×V),f∈(ie f v fs).map (·.1)/\∀g,g∈fs.map (·.1)->g∈(ie f v fs).map (·.1)
 | []=>⟨by simp[ie],λg h=>by simp at h⟩
 | (k,x)::r=>by
  obtain⟨ju,i2⟩:=z2 f v r;rw[show ie f v ((k,x)::r)=(if k=f then(k,v)::r else(k,x)::ie f v r)from rfl]
  by_cases aw:k=f
  ·rw[if_pos aw];subst aw;exact⟨by simp,λg h=>by simpa using h⟩
  ·rw[if_neg aw];refine⟨?_,λg h=>?_⟩
   ·rw[fM];exact nq _ ju
   ·rw[fM]at h ⊢;rcases dR.mp h with e | e
    ·exact dR.mpr (.inl e)
    ·exact nq _ (i2 g e)
def SJ(f:Str)(v:V):∀fs:List (Str×V),(ie f v fs).length<=fs.length+1
 | []=>by simp[ie]
 | (k,x)::r=>by
  have b3:=SJ f v r;rw[show ie f v ((k,x)::r)=(if k=f then(k,v)::r else(k,x)::ie f v r)from rfl]
  by_cases aw:k=f
  ·rw[if_pos aw,hH,hH];omega
  ·rw[if_neg aw,hH,hH];omega
def h0.some_of(r:h0 (some v) o):∃u,o=some u/\RelV v u:=by
 cases o with
 | none=>exact(show False from r).elim
 | some u=>exact⟨u,rfl,r⟩
def h0.none_of(r:h0 none o):o=none:=by
 cases o with
 | none=>rfl
 | some u=>exact(show False from r).elim
def RD(r:RelV v u):Xl u=true:=by
 cases v with
 | bb=>cases(show u=Value.none from r);rfl
 | aG b=>cases(show u=Value.bool b from r);rfl
 | int i=>obtain⟨t,e⟩:=(show ∃t,u=Value.int i t from r);cases e;rfl
 | str x=>obtain⟨t,e⟩:=(show ∃t,u=Value.str x t from r);cases e;rfl
 | k8 b=>obtain⟨t,e⟩:=(show ∃t,u=XC b t from r);cases e;rfl
 | sb b=>obtain⟨t,e⟩:=(show ∃t,u=NK b t from r);cases e;rfl
 | ref a=>cases(show u=Value.ref a from r);rfl
 | ty n=>cases(show u=Value.type n from r);rfl
section
variable{P:dn}{w:cH}{H:ak}{h:cg}{a C dx:O}{fs:List (Str×V)}
def zY(a':eN P w H h)(e:H a=some (.ins C dx fs)):∃mA,tv h a dx C mA/\(∀f,h0 (fs.lookup f) (mA f))/\xK mA (fs.map (·.1))/\fs.length<=1000/\H dx=some (.own a):=by
 obtain⟨d,z,ne,bW,mA,n,r,q⟩:=(show fZ P w H h a (.ins C dx fs)from a' a _ e)
 exact⟨mA,⟨bW,n,ne⟩,r,q,z,d⟩
end
structure jG(K:b5)(C:O):Prop where
 alw:FW K C Str.empty=true
 hd:Nu K C=true
 po:Xp K C=true
 hS:kB K (.ref C) "__setattr__"=some (some (.builtin "object.__setattr__"))
def jG.get{K:b5}{C:O}(c:jG K C)(f:Str):FW K C f=true:=c.alw
def fv(K:b5)(C:O)(f:Str):Prop:=kB K (.ref C) f=some none
def fv.anN{K:b5}{C:O}{f:Str}(n:fv K C f):NC K C f=some none:=by
 unfold NC;rw[show kB K (.ref C) f=some none from n]
 rfl
structure eO(K:b5)(C:O)(m:Str)(f:O):Prop where
 at_:kB K (.ref C) m=some (some (.ref f))
 fn:FU K (.ref f)=true
 cD:jE K (.ref f)=true
section
variable{X:bp}{aa:List (O×b_)}{σ:St}{H:ak}{s:aM}{a C dx:O}{fs:List (Str×V)}{f:Str}{v:V}{A:d0}{E:aj->aM->Prop}
def af5{Q:aj->aM->Prop}(I:Inv X aa σ H s)(e:H a=some (.ins C dx fs))(c:jG X.K C)(n:fv X.K C f)(l:fs.lookup f=some v)
  (h:∀u s',Inv X aa σ H s'->RelV v u->Q u s'):wpAny (model X.prog X.w) A (getAttr (.ref a) f b) Q E s:=by
 obtain⟨mA,nC,r,_,_,_⟩:=zY I.a' e;obtain⟨u,aD,dO⟩:=h0.some_of (v:=v) (o:=mA f) (by rw[<- l];exact r f)
 exact af3 I.eo nC (c.get f) c.hd n aD (RD dO) (h u _ (I.tok _) dO)
def IP{Q:aj×List aj->aM->Prop}(I:Inv X aa σ H s)(e:H a=some (.ins C dx fs))(c:jG X.K C)(k:eO X.K C m g)(l:fs.lookup m=none)
  (h:Q (.ref g,[.ref a]) s):wpAny (model X.prog X.w) A (getMethod (.ref a) m pl) Q E s:=by
 obtain⟨mA,nC,r,_,_,_⟩:=zY I.a' e;have ba:mA m=none:=h0.none_of (by rw[<- l];exact r m)
 exact af4 I.eo nC (c.get m) k.at_ k.fn ba h
def anh{Q:Unit->aM->Prop}(I:Inv X aa σ H s)(e:H a=some (.ins C dx fs))(c:jG X.K C)(n:fv X.K C f)(ar:fs.length < 1000)(br:RelV y u)
  (h:∀s',Inv X aa σ (a1 H a (.ins C dx (ie f y fs))) s'->Q () s'):wpAny (model X.prog X.w) A (setAttr (.ref a) f u) Q E s:=by
 obtain⟨mA,nC,r,ez,_,aZ⟩:=zY I.a' e;have hz:(fs.map (·.1)).length<=sizeLine:=by rw[dV,k1];omega
 refine ang I.eo nC c.hS c.po n.anN c.hd ez hz λh' G1 dU=>h _ ?_;have hd:∃o,h'.get? dx=some o:=let⟨o,_,_,bQ,_⟩:=G1.ns;⟨o,bQ⟩
 refine I.write (x:=a) (e:=dx) (by rw[e];exact True.intro) (.inr aZ) (λb q ab z=>(dU.2 b ab).trans z) hd ?_
 refine⟨by rw[bj nC.ne];exact aZ,?_,nC.ne,G1.obj,_,G1.ns,λg=>?_,λg bl=>?_⟩
 ·have:=SJ f y fs;omega
 ·show h0 ((ie f y fs).lookup g) (if g=f then some u else mA g)
  rw[J2];by_cases q:g=f
  ·rw[if_pos q,if_pos q];exact br
  ·rw[if_neg q,if_neg q];exact r g
 ·by_cases q:g=f
  ·rw[q];exact(z2 f y fs).1
  ·refine(z2 f y fs).2 g (ez g λz=>bl ?_);show(if g=f then some u else mA g)=none
   rw[if_neg q];exact z
def Inv.made(I:Inv X aa σ H s):Inv X aa σ (a1 (a1 H s.heap.objs.size (.own (s.heap.objs.size+1))) (s.heap.objs.size+1) (.ins C s.heap.objs.size []))
  {s with heap:=(s.heap.push rG).push (rH C s.heap.objs.size)}:=by
 have ag:(s.heap.push rG).get? s.heap.objs.size=some rG:=eT s.heap rfl;have aF:((s.heap.push rG).push (rH C s.heap.objs.size)).get? (s.heap.objs.size+1)=some (rH C s.heap.objs.size):=by
  have:=eT (s.heap.push rG) (o:=rH C s.heap.objs.size) rfl
  rwa [ms]at this
 have cU:(s.heap.push rG).Ns s.heap.objs.size (λ_=>none):=⟨rG, #[],_,ag,rfl,(λe he=>absurd he (by simp)),λ_=>rfl⟩
 have aW:=I.laid (a:=s.heap.objs.size) (o:=.own (s.heap.objs.size+1)) (h':=s.heap.push rG) (t':=s.toks) (λb u q=>cV _ q) (c9 _) ⟨_,ag⟩;refine aW.laid (a:=s.heap.objs.size+1) (o:=.ins C s.heap.objs.size []) (t':=s.toks) (λb u q=>cV _ q) (W2 (ms _ _)) ?_;have ne:s.heap.objs.size≠s.heap.objs.size+1:=d3 (Bg _);refine⟨by rw[bj ne,cw],j2 _,ne,aF,λ_=>none,(Wr cU).at λo q=>cV _ q,λ_=>True.intro,λy b2=>absurd rfl b2⟩
def O9{s:aM}(ab:attributeBase e f env (eval e env)=eval e env)
  (h:wpAny (model prog w) A (eval e env) (λo s₁=>wpAny (model prog w) A (getAttr o f true) Q E s₁) E s):wpAny (model prog w) A (eval (.Attribute e f pos) env) Q E s:=
 Attribute_any_ h (by rw[arm_eval_Attribute,ab])
end
def E3(K:b5)(aP:TE)(f:Str):TE:=λσ H Q=>aP σ H λx H1=>∃a C dx fs v,x= .ref a/\H1 a=some (.ins C dx fs)/\jG K C/\fv K C f/\fs.lookup f=some v/\Q v H1
def EJ(K:b5)(aP gU:TE)(f:Str):d8:=λD σ H=>gU σ H λy H1=>aP σ H1 λx H2=>∃a C dx fs,x= .ref a/\H2 a=some (.ins C dx fs)/\jG K C/\fv K C f/\fs.length < 1000/\
 D.nx σ (a1 H2 a (.ins C dx (ie f y fs)))
section
variable{X:bp}{o e value:ck}{f:Str}{pos jU:d1}{aP gU:TE}
def fT(he:bz X e aP)(ab:attributeBase e f X.env (eval e X.env)=eval e X.env):bz X (.Attribute e f pos) (E3 X.K aP f):=by
 intro aa s σ H Q I h;refine O9 ab (bJ (he aa s σ H _ I h) λu s1 ⟨x,H1,aW,bt,a,C,dx,fs,v,ex,aR,c,n,l,q⟩=>?_);subst ex;obtain rfl:u=Value.ref a:=bt;exact af5 aW aR c n l λfg s2 bU dO=>⟨v,H1,bU,dO,q⟩
def mc(af:bz X o aP)(bm:bz X value gU)(aS:swapsWith value (some (.Attribute o f jU)) pos.line X.env=pure false):hZ X (.Assign [.Attribute o f jU] value pos) (EJ X.K aP gU f):=by
 intro aa s σ H D I h;refine NQ (bJ (bm aa s σ H _ I h) λu s1 ⟨y,H1,aW,br,q⟩=>bJ (af aa s1 σ H1 _ aW q) λeL s2 ⟨x,H2,bU,bt,a,C,dx,fs,ex,aR,c,n,l,bZ⟩=>?_) aS;subst ex;obtain rfl:eL=Value.ref a:=bt;exact anh bU aR c n l br λs3 b9=>⟨σ,_,b9,bZ⟩
end
section
variable{X:bp}{aa:List (O×b_)}{σ:St}{H:ak}{s:aM}{A:d0}{E:aj->aM->Prop}{Q:aj->aM->Prop}{c:aj}{b:Bool}
inductive mH(K:b5)(H:ak):V->aj->Prop where
 | bb:mH K H .bb (.type "NoneType")
 | aG (x:Bool):mH K H (.aG x) (.type "bool")
 | int (i:Int):mH K H (.int i) (.type "int")
 | str (x:Str):mH K H (.str x) (.type "str")
 | sb (x:UInt64):mH K H (.sb x) (.type "float")
 | lst {a:O} {xs:List V} (e:H a=some (.lst xs)):mH K H (.ref a) (.type "list")
 | eQ {a:O} {o:b_} {xs:List V} (e:H a=some (.eQ o (.lst xs))):mH K H (.ref a) (.type "list")
 | tup {a:O} {xs:List V} (e:H a=some (.tup xs)):mH K H (.ref a) (.type "tuple")
 | a7 {a:O} {kvs:List (bM×V)} (e:H a=some (.a7 kvs)):mH K H (.ref a) (.type "dict")
 | i5 {a:O} {kvs:List (List bM×V)} (e:H a=some (.i5 kvs)):mH K H (.ref a) (.type "dict")
 | ins {a C dx:O} {fs:List (Str×V)} (e:H a=some (.ins C dx fs)) (cl:jG K C) (af:kB K (.ref C) "__class__"=some (some (.builtin "object.__class__")))
   (ba:FX K (.builtin "object.__class__") "__get__"=some (some (.builtin "getset_descriptor.__get__"))) (wd:PySem.W.takesIn K (.builtin "object.__class__")=some true)
   (bx:PySem.W.mroIn K C (.type "object")=some true):mH K H (.ref a) (.ref C)
def ahW(I:Inv X aa σ H s)(bt:RelV x u)(ty:mH X.K H x t)(e:Xm X.K t c=some b)(h:∀tk,Q (.bool b) {s with toks:=tk}):
  wpAny (model X.prog X.w) A (call (.builtin "isinstance") [u,c]) Q E s:=by
 cases ty with
 | bb=>cases(show u=Value.none from bt);exact pj PySem.W.kitx_none I.eo True.intro e (λz=>nomatch z) h
 | aG y=>cases(show u=Value.bool y from bt);exact pj PySem.W.kitx_bool I.eo True.intro e (λz=>nomatch z) h
 | int i=>obtain⟨t,q⟩:=(show ∃t,u=Value.int i t from bt);cases q;exact pj PySem.W.kitx_int I.eo True.intro e (λz=>nomatch z) h
 | str y=>obtain⟨t,q⟩:=(show ∃t,u=Value.str y t from bt);cases q;exact pj PySem.W.kitx_str I.eo True.intro e (λz=>nomatch z) h
 | sb y=>obtain⟨t,q⟩:=(show ∃t,u=NK y t from bt);cases q;exact pj PySem.W.kitx_float I.eo True.intro e (λz=>nomatch z) h
 | @lst a xs aR=>
  cases(show u=Value.ref a from bt)
  obtain⟨_,_,n,_,h1⟩:=(show fZ X.prog X.w H s.heap a (.lst xs)from I.a' a _ aR)
  exact pj Xo I.eo ⟨_,h1,rfl⟩ e (λz=>nomatch z) h
 | @eQ a bW xs aR=>
  cases(show u=Value.ref a from bt)
  obtain⟨_,_,_,n,_,h1⟩:=(show fZ X.prog X.w H s.heap a (.eQ bW (.lst xs))from I.a' a _ aR)
  exact pj Xo I.eo ⟨_,h1,rfl⟩ e (λz=>nomatch z) h
 | @tup a xs aR=>
  cases(show u=Value.ref a from bt)
  obtain⟨_,_,_,p⟩:=(show fZ X.prog X.w H s.heap a (.tup xs)from I.a' a _ aR)
  obtain⟨o,h1,h2,_⟩:=p;exact pj PySem.W.kitx_tuple I.eo ⟨o,h1,h2⟩ e (λz=>nomatch z) h
 | @a7 a kvs aR=>
  cases(show u=Value.ref a from bt)
  obtain⟨_,_,vs,_,p⟩:=(show fZ X.prog X.w H s.heap a (.a7 kvs)from I.a' a _ aR)
  obtain⟨o,es,ep,h1,h2,_⟩:=p;exact pj Xn I.eo ⟨o,h1,h2.1⟩ e (λz=>nomatch z) h
 | @i5 a kvs aR=>
  cases(show u=Value.ref a from bt)
  obtain⟨_,_,xs,_,o,es,ep,h1,h2,_⟩:=(show fZ X.prog X.w H s.heap a (.i5 kvs)from I.a' a _ aR)
  exact pj Xn I.eo ⟨o,h1,h2.1⟩ e (λz=>nomatch z) h
 | @ins a C dx fs aR cl af ba wd bx=>
  cases(show u=Value.ref a from bt)
  obtain⟨mA,nC,_⟩:=zY I.a' aR;obtain⟨od,bP,_⟩:=nC.look;exact pj (PySem.W.kitx_own (cl.get _) cl.hd af ba wd bx) I.eo bP e (λz=>nomatch z) h
end
structure dT(k:Nat)(A:d0):Prop where
 hd:A.handled=none
 ze:A.depth+3 * k+5 < recursionLimit
 un:A.units+16 * k+200 < cLine
def dT.mono{j k:Nat}(r:dT k A)(h:j<=k):dT j A:=⟨r.hd,by have:=r.ze;omega,by have:=r.un;omega⟩
def dT.less{j k:Nat}(r:dT k A)(h:j<=k:=by decide):dT j A:=r.mono h
def dT.m{j k:Nat}(r:dT k A)(h:j<=k:=by decide):dT j A:=r.mono h
def dT.deeper{k:Nat}(r:dT (k+1) A)(env:fL):dT k (A.deeper env):=
 ⟨r.hd,by have:=r.ze;show A.depth+1+3 * k+5 < _;omega,by have:=r.un;show A.units+3+16 * k+200 < _;omega⟩
def dT.in1{k:Nat}(r:dT (k+1) A):dT k A.in1:=
 ⟨r.hd,by have:=r.ze;show A.depth+3 * k+5 < _;omega,by have:=r.un;show A.units+1+16 * k+200 < _;omega⟩
def aiT{A:d0}{us:List aj}{kw:List (Str×aj)}:(A.under (.builtin "type.__call__" ⟨.ref C::us,kw⟩)).depth=A.depth+1:=by
 first | rfl | simp[MW,Code.weight,Code.isCreation,Code.isGuard,Code.isCaller,Wg,M3,guardIds]
def aiV{A:d0}{us:List aj}{kw:List (Str×aj)}:(A.under (.builtin "type.__call__" ⟨.ref C::us,kw⟩)).units=A.units+1:=by
 first | rfl | simp[MW,Code.cUnits,Wg,M3]
def dT.make{k:Nat}(r:dT (k+1) A)(C:O)(us:List aj)(kw:List (Str×aj)):dT k (A.under (.builtin "type.__call__" ⟨.ref C::us,kw⟩)):=
 ⟨r.hd,by have:=r.ze;rw[aiT];omega,by have:=r.un;rw[aiV];omega⟩
def dT.depth(r:dT k A):A.depth < recursionLimit:=by have:=r.ze;omega
def dT.units(r:dT k A):A.units+64 < cLine:=by have:=r.un;omega
def gy:fi:=λ_ H Q=>Q [] H
def gd(aP:TE)(hb:fi):fi:=λσ H Q=>aP σ H λx H1=>hb σ H1 λxs H2=>Q (x::xs) H2
section
variable{X:bp}{e:ck}{es:List ck}{te:TE}{t:fi}{pos:d1}
def aV:jJ X [] gy:=λ_ _ _ _ H Q I h=>xn ⟨[],H,I,.nil,h⟩
abbrev oz(X:bp)(e:ck)(es:List ck):Prop:=starEach (e::es) X.env=(false,eval e X.env)::starEach es X.env
def ay(af:bz X e te)(aA:jJ X es t)(aS:oz X e es:=by rfl):jJ X (e::es) (gd te t):=by
 intro pos aa s σ H Q I h;rw[aS];show wpAny _ _ (spliced ((false,eval e X.env)::backTo pos (starEach es X.env))) _ _ s;refine uW (bJ (af aa s σ H _ I h) λu s1 ⟨x,H1,aW,b4,ao⟩=>?_);exact bJ (aA pos aa s1 σ H1 _ aW ao) λus s2 ⟨xs,H2,bU,da,bZ⟩=>⟨x::xs,H2,bU,.cons b4 da,bZ⟩
def Vx(t:fi):TE:=λσ H Q=>t σ H λxs H1=>xs.length<=sizeLine/\∀p,H1 p=none->Q (.ref p) (a1 H1 p (.tup xs))
def Mx(t:fi):TE:=λσ H Q=>t σ H λxs H1=>xs.length<=sizeLine/\∀p,H1 p=none->Q (.ref p) (a1 H1 p (.lst xs))
def iA{x1}(h:jJ X es t):bz X (.Tuple es x1 pos) (Vx t):=by
 intro aa s σ H Q I a9;refine wpAny_Tuple_spliced (bJ (h pos aa s σ H _ I a9) λus s1 ⟨xs,H1,aW,r,z,q⟩=>⟨by rw[<- r.length];exact z,?_⟩)
 have aH:H1 s1.heap.objs.size=none:=aW.a'.fresh (c9 _);refine⟨.ref s1.heap.objs.size,a1 H1 s1.heap.objs.size (.tup xs),aW.laid (t':=s1.toks) (λb u e=>cV _ e) (c9 _) ?_,rfl,q _ aH⟩;exact⟨z,us,r,⟨_,eT _ rfl,rfl,_,rfl⟩⟩
def kU(h:jJ X es t):bz X (.List es pos) (Mx t):=by
 intro aa s σ H Q I a9;refine wpAny_List_spliced (bJ (h pos aa s σ H _ I a9) λus s1 ⟨xs,H1,aW,r,z,q⟩=>⟨by rw[<- r.length];exact z,?_⟩)
 have aH:H1 s1.heap.objs.size=none:=aW.a'.fresh (c9 _);refine⟨.ref s1.heap.objs.size,a1 H1 s1.heap.objs.size (.lst xs),aW.laid (t':=s1.toks) (λb u e=>cV _ e) (c9 _) ?_,rfl,q _ aH⟩;exact⟨z,us,0,r,eT _ rfl⟩
end
abbrev e4:=List V->ak->c3->eP->Prop
abbrev kC:=List fL->ak->aM->eP->aj->aM->Prop
structure px(P:dn)(w:cH)(K:b5)(mg:Str->Option aj)(base:cg)(A:d0)(a3:List fL)(s:aM)(H:ak):Prop where
 frames:A.frames=some a3
 mod:Mod K mg base
 bs:∀b o,base.get? b=some o->s.heap.get? b=some o/\H b=none
 kI:base.objs.size<=s.heap.objs.size
 lq:s.heap.FunFrames base a3
 pL:∀b∈jO a3,H b=none
 a':eN P w H s.heap
 bare:qh s.gens
def xY(a3:List fL)(P:dn)(w:cH)(H:ak)(s:aM)(Q:c3)(u:aj)(s':aM):Prop:=
 ∃v H',s'.os=s.os/\qh s'.gens/\eV (jO a3) [] H H' s.heap s'.heap/\eN P w H' s'.heap/\RelV v u/\Q v H'
def YX(cW:kC)(a3:List fL)(P:dn)(w:cH)(H:ak)(s:aM)(Q:c3)(E:eP)(r:u5)(s':aM):Prop:=
 match r with
 | .ok (.ret u)=>xY a3 P w H s Q u s'
 | .ok _=>False
 | .error e=>cW a3 H s E e s'
structure aY(P:dn)(w:cH)(K:b5)(mg:Str->Option aj)(base:cg)(cW:kC)(k:Nat)(f:O)(aE:f4)(ps:List Str)(sp:e4):Prop where
 len:∀vs H Q E,sp vs H Q E->vs.length=ps.length
 run:∀(A:d0)(a3:List fL)(s:aM)(H:ak)(args:Args)(us:List aj)(vs:List V)(Q:c3)(E:eP),dT k A->px P w K mg base A a3 s H->qj s aE args (ps.zip us)->cz vs us->sp vs H Q E->
  codeAny (model P w) A (.call (.ref f) args) (YX cW a3 P w H s Q E) s
def aY.mono{P:dn}{w:cH}{K:b5}{mg:Str->Option aj}{base:cg}{cW:kC}{j k:Nat}{f:O}{aE:f4}{ps:List Str}{sp:e4}(F:aY P w K mg base cW j f aE ps sp)(h:j<=k):
  aY P w K mg base cW k f aE ps sp:=⟨F.len,λA a3 s H args us vs Q E aA=>F.run A a3 s H args us vs Q E (aA.mono h)⟩
def aY.imp{P:dn}{w:cH}{K:b5}{mg:Str->Option aj}{base:cg}{cW:kC}{k:Nat}{f:O}{aE:f4}{ps:List Str}{sp U4:e4}(F:aY P w K mg base cW k f aE ps sp)
  (h:∀vs H Q E,U4 vs H Q E->sp vs H Q E):aY P w K mg base cW k f aE ps U4:=
 ⟨λvs H Q E q=>F.len vs H Q E (h _ _ _ _ q),λA a3 s H args us vs Q E aA he ab bm aS=>F.run A a3 s H args us vs Q E aA he ab bm (h _ _ _ _ aS)⟩
def px.make{P:dn}{w:cH}{K:b5}{mg:Str->Option aj}{base:cg}{A:d0}{a3:List fL}{s:aM}{H:ak}(e:px P w K mg base A a3 s H)(C:O)(us:List aj)(kw:List (Str×aj)):
  px P w K mg base (A.under (.builtin "type.__call__" ⟨.ref C::us,kw⟩)) a3 s H:=⟨by first | exact e.frames | (simpa[MW,Code.envs,M3,pushEnvs]using e.frames),e.mod,e.bs,e.kI,e.lq,e.pL,e.a',e.bare⟩
def px.in1{P:dn}{w:cH}{K:b5}{mg:Str->Option aj}{base:cg}{A:d0}{a3:List fL}{s:aM}{H:ak}(e:px P w K mg base A a3 s H):
  px P w K mg base A.in1 a3 s H:=⟨e.frames,e.mod,e.bs,e.kI,e.lq,e.pL,e.a',e.bare⟩
section
variable{X:bp}{aa:List (O×b_)}{σ:St}{H:ak}{s s':aM}
def Inv.zo(I:Inv X aa σ H s):px X.prog X.w X.K X.mg X.base X.A X.stack s H:=
 ⟨I.ok.frames,I.ok.mod,I.bs,gX I.ok.kI I.lO,I.stack,I.w4,I.a',I.bare⟩
def Inv.after(I:Inv X aa σ H s)(h:xY X.stack X.prog X.w H s Q u s'):gj X aa σ Q u s':=by
 obtain⟨v,H',os,bare,un,a',r,q⟩:=h;obtain⟨cu,g,d,t,ak9⟩:=s';obtain rfl:ak9=s.os:=os;exact⟨v,H',I.call (h':=cu) (g':=g) (d':=d) (t':=t) (ch:=[]) un a' bare (λb z=>absurd z (by simp)),r,q⟩
end
def o7(sp:e4)(e7:List V)(E:eP)(t:fi):TE:=λσ H Q=>t σ H λvs H1=>sp (vs++e7) H1 Q E
def AQ(C:O)(m:Str)(sp:e4)(e7:List V)(E:eP)(aP:TE)(t:fi):TE:=λσ H Q=>aP σ H λx H1=>∃a dx fs,x= .ref a/\H1 a=some (.ins C dx fs)/\fs.lookup m=none/\
 t σ H1 λvs H2=>sp (x::(vs++e7)) H2 Q E
def anC(C:O)(sp:e4)(e7:List V)(E:eP)(t:fi):TE:=λσ H Q=>t σ H λvs H1=>∀x dx,H1 x=none->H1 dx=none->dx≠x->
 sp (.ref x::(vs++e7)) (a1 (a1 H1 dx (.own x)) x (.ins C dx [])) (λv H2=>v= .bb/\Q (.ref x) H2) E
def Binds(K:b5)(aE:f4)(ps:List Str)(ds:List aj):Prop:=
 ∀(s:aM)(us:List aj),K.In s.heap->(us++ds).length=ps.length->qj s aE ⟨us,[]⟩ (ps.zip (us++ds))
def Binds.all{K:b5}{ps:List Str}(h:∀us:List aj,us.length=ps.length->bindArgs aE ⟨us,[]⟩=pure (ps.zip us)):Binds K aE ps []:=λs us _ ar=>by
 rw[mu]at ar ⊢;exact .of_eq (h us ar)
def kE(cW:kC)(X:bp)(E:eP):Prop:=∀(aa:List (O×b_))(σ:St)(H:ak)(s:aM)(e:aj)(s':aM),Inv X aa σ H s->cW X.stack H s E e s'->X.cb e s'
section
variable{X:bp}{cW:kC}{k:Nat}{f C:O}{aE:f4}{ps:List Str}{sp:e4}{e7:List V}{ds:List aj}{E:eP}{x m:Str}{p pos e6:d1}{e o:ck}{es:List ck}{aP:TE}{t:fi}
def AB{aa:List (O×b_)}{σ:St}{H:ak}{s:aM}{Q:c3}{us:List aj}{vs:List V}(F:aY X.prog X.w X.K X.mg X.base cW k f aE ps sp)(aA:dT k X.A)(ab:Binds X.K aE ps ds)(hd:cz e7 ds)(ah:kE cW X E)
  (I:Inv X aa σ H s)(r:cz vs us)(h:sp (vs++e7) H Q E):wpAny (model X.prog X.w) X.A (call (.ref f) us) (gj X aa σ Q) X.cb s:=by
 have da:cz (vs++e7) (us++ds):=r.append hd;have ar:(us++ds).length=ps.length:=by rw[<- da.length];exact F.len _ _ _ _ h
 refine qm (pm (F.run X.A X.stack s H ⟨us,[]⟩ (us++ds) (vs++e7) Q E aA I.zo (ab s us I.eo ar) da h) λr s' a9=>?_);cases r with
 | error e=>exact ah aa σ H s e s' I a9
 | ok fl=>
  cases fl with
  | ret u=>exact I.after a9
  | next=>exact ik a9
  | brk=>exact ik a9
  | cont=>exact ik a9
abbrev qn(X:bp)(p:d1)(es:List ck):Prop:=(backTo p (starEach es X.env)).any (·.1)=false
def TY(F:aY X.prog X.w X.K X.mg X.base cW k f aE ps sp)(aA:dT k X.A)(bl:fd X x)(bx:X.mg x=some (.ref f))(aw:jE X.K (.ref f)=true)(ab:Binds X.K aE ps ds)(hd:cz e7 ds)(ah:kE cW X E)
  (af:jJ X (e::es) t)(iT:fC x:=by decide)(he:oz X e es:=by rfl)(ib:qn X pos es:=by rfl):
  bz X (.Call (.Name x p) (e::es) [] pos) (o7 sp e7 E t):=by
 intro aa s σ H Q I h;refine ql (lF I bl bx ?_ iT);refine FR (h₀:=X.base) I.ok.mod.mW aw (bJ (af pos aa s σ H _ I h) λus s1 ⟨vs,H1,aW,r,q⟩=>⟨aW.eo,?_⟩) he ib;exact AB F aA ab hd ah aW r q
def alf(F:aY X.prog X.w X.K X.mg X.base cW k f aE ps sp)(aA:dT k X.A)(bl:fd X x)(bx:X.mg x=some (.ref f))(aw:jE X.K (.ref f)=true)(ab:Binds X.K aE ps ds)(hd:cz e7 ds)(ah:kE cW X E)
  (iT:fC x:=by decide):bz X (.Call (.Name x p) [] [] pos) (o7 sp e7 E gy):=by
 intro aa s σ H Q I h;refine ql (lF I bl bx ?_ iT);exact FT I.eo aw (AB (us:=[]) F aA ab hd ah I .nil h)
def gS{pl:nu Bool}(he:bz X o aP)(c:jG X.K C)(bx:eO X.K C m f)(F:aY X.prog X.w X.K X.mg X.base cW k f aE ps sp)(aA:dT k X.A)(ab:Binds X.K aE ps ds)(hd:cz e7 ds)(ah:kE cW X E)(af:jJ X (e::es) t)
  (mT:oz X e es:=by rfl)(ib:qn X pos es:=by rfl)
  (cj:eval (.Call (.Attribute o m e6) (e::es) [] pos) X.env=(do
   let eL <- eval o X.env
   standAt e6.atName
   let(f,first)<- holding [eL] (getMethod eL m pl)
   callWith pos f first (backTo pos (starEach (e::es) X.env)) (backToKw pos (keywordEach [] X.env))):=by rfl):
  bz X (.Call (.Attribute o m e6) (e::es) [] pos) (AQ C m sp e7 E aP t):=by
 intro aa s σ H Q I h;refine Bj (pl:=pl) (bJ (he aa s σ H _ I h) λu s1 ⟨x,H1,aW,bt,a,dx,fs,ex,aR,l,q⟩=>?_) cj;subst ex;obtain rfl:u=Value.ref a:=bt;refine IP aW aR c bx l ?_;refine FR (first:=[.ref a]) (h₀:=X.base) I.ok.mod.mW bx.cD (bJ (af pos aa s1 σ H1 _ aW q) λus s2 ⟨vs,H2,bU,r,bZ⟩=>⟨bU.eo,?_⟩) mT ib
 exact AB (us:=.ref a::us) (vs:=.ref a::vs) F aA ab hd ah bU (.cons rfl r) bZ
def KD{pl:nu Bool}(he:bz X o aP)(c:jG X.K C)(bx:eO X.K C m f)(F:aY X.prog X.w X.K X.mg X.base cW k f aE ps sp)(aA:dT k X.A)(ab:Binds X.K aE ps ds)(hd:cz e7 ds)(ah:kE cW X E)
  (cj:eval (.Call (.Attribute o m e6) [] [] pos) X.env=(do
   let eL <- eval o X.env
   standAt e6.atName
   let(f,first)<- holding [eL] (getMethod eL m pl)
   callWith pos f first (backTo pos (starEach [] X.env)) (backToKw pos (keywordEach [] X.env))):=by rfl):
  bz X (.Call (.Attribute o m e6) [] [] pos) (AQ C m sp e7 E aP gy):=by
 intro aa s σ H Q I h;refine Bj (pl:=pl) (bJ (he aa s σ H _ I h) λu s1 ⟨x,H1,aW,bt,a,dx,fs,ex,aR,l,q⟩=>?_) cj;subst ex;obtain rfl:u=Value.ref a:=bt;refine IP aW aR c bx l ?_;exact FT (first:=[.ref a]) aW.eo bx.cD (AB (us:=[.ref a]) (vs:=[.ref a]) F aA ab hd ah aW (.cons rfl .nil) q)
structure Cm(K:b5)(C f:O):Prop where
 makes:Nv K C=true
 init:kB K (.ref C) "__init__"=some (some (.ref f))
 fn:FU K (.ref f)=true
 cD:jE K (.ref C)=true
def amt{H:ak}{Q:c3}(M:Cm X.K C f)(F:aY X.prog X.w X.K X.mg X.base cW k f aE ps sp)(aA:dT (k+1) X.A)(ab:Binds X.K aE ps ds)(hd:cz e7 ds)
  (ah:kE cW X E)(I:Inv X aa σ H s)(r:cz vs us)
  (h:∀x dx,H x=none->H dx=none->dx≠x->sp (.ref x::(vs++e7)) (a1 (a1 H dx (.own x)) x (.ins C dx [])) (λv H2=>v= .bb/\Q (.ref x) H2) E):
  wpAny (model X.prog X.w) X.A (call (.ref C) us) (gj X aa σ Q) X.cb s:=by
 have a9:=h (s.heap.objs.size+1) s.heap.objs.size (I.a'.fresh (oj _)) (I.a'.fresh (c9 _)) (d3 (Bg _));have bU:=Inv.made (C:=C) I;have da:cz (V.ref (s.heap.objs.size+1)::(vs++e7)) (Value.ref (s.heap.objs.size+1)::(us++ds)):=.cons rfl (r.append hd);have ar:(Value.ref (s.heap.objs.size+1)::us++ds).length=ps.length:=by
  have e:=da.length;rw[F.len _ _ _ _ a9]at e;exact e.symm
 refine qm (aiU (f:=f) I.eo M.makes M.init (beq_iff_eq.mp M.fn) (pm (F.run _ X.stack _ _ ⟨Value.ref (s.heap.objs.size+1)::us,[]⟩ (Value.ref (s.heap.objs.size+1)::(us++ds)) _ _ E (aA.make C us [])
  (bU.zo.make C us []) (ab _ (Value.ref (s.heap.objs.size+1)::us) bU.eo ar) da a9) λr s' oS=>?_))
 cases r with
 | error e=>exact ah aa σ _ _ e s' bU oS
 | ok fl=>
  cases fl with
  | ret u=>
   obtain⟨v,H',b9,cf,qH,fk⟩:=bU.after oS;subst qH;exact⟨cf,⟨V.ref (s.heap.objs.size+1),H',b9,rfl,fk⟩⟩
  | next=>exact ik oS
  | brk=>exact ik oS
  | cont=>exact ik oS
def T2(M:Cm X.K C f)(F:aY X.prog X.w X.K X.mg X.base cW k f aE ps sp)(aA:dT (k+1) X.A)(bl:fd X x)(bx:X.mg x=some (.ref C))(ab:Binds X.K aE ps ds)(hd:cz e7 ds)(ah:kE cW X E)
  (iT:fC x:=by decide):bz X (.Call (.Name x p) [] [] pos) (anC C sp e7 E gy):=by
 intro aa s σ H Q I h;refine ql (lF I bl bx ?_ iT);exact FT I.eo M.cD (amt (us:=[]) M F aA ab hd ah I .nil h)
end
def yu(X:bp)(mX:List rB)(t:fi):Prop:=
 ∀(pos:d1)(aa:List (O×b_))(s:aM)(σ:St)(H:ak)(Q:List V->ak->Prop),Inv X aa σ H s->t σ H Q->wpAny (model X.prog X.w) X.A (evalAll ((backToKw pos (keywordEach mX X.env)).map (·.2))) (N6 X aa σ Q) X.cb s
section
variable{X:bp}{cW:kC}{k:Nat}{f:O}{aE:f4}{ps ks:List Str}{sp:e4}{E:eP}{x:Str}{pos DK:d1}{e:ck}{mX:List rB}{te:TE}{t:fi}{nm:Option Str}
def Ub:yu X [] gy:=λ_ _ _ _ H Q I h=>wpAny_evalAll_nil ⟨[],H,I,.nil,h⟩
def Ua(af:bz X e te)(aA:yu X mX t):yu X (⟨nm,e,DK⟩::mX) (gd te t):=by
 intro pos aa s σ H Q I h;show wpAny _ _ (evalAll ((do let v <- eval e X.env;standAt pos;pure v)::(backToKw pos (keywordEach mX X.env)).map (·.2))) _ _ s
 refine wpAny_evalAll_cons (aQ (bJ (af aa s σ H _ I h) λu s1 ⟨x,H1,aW,b4,ao⟩=>aQ (rK (bC ?_))));exact bJ (aA pos aa s1 σ H1 _ aW ao) λus s2 ⟨xs,H2,bU,da,bZ⟩=>⟨x::xs,H2,bU,.cons b4 da,bZ⟩
structure yl(K:b5)(aE:f4)(ps ks:List Str)(g:List aj->List aj->List aj)(nP:List V->List V->List V):Prop where
 to:∀(s:aM)(us cJ:List aj),K.In s.heap->(g us cJ).length=ps.length->qj s aE ⟨us,ks.zip cJ⟩ (ps.zip (g us cJ))
 rel:∀{vs:List V}{us:List aj}{kZ:List V}{cJ:List aj},cz vs us->cz kZ cJ->cz (nP vs kZ) (g us cJ)
variable{g:List aj->List aj->List aj}{nP:List V->List V->List V}
def amr{H:ak}(F:aY X.prog X.w X.K X.mg X.base cW k f aE ps sp)(aA:dT k X.A)(ab:yl X.K aE ps ks g nP)(ah:kE cW X E)
  (I:Inv X aa σ H s)(r:cz vs us)(n6:cz kZ cJ)(h:sp (nP vs kZ) H Q E):wpAny (model X.prog X.w) X.A (call (.ref f) us (ks.zip cJ)) (gj X aa σ Q) X.cb s:=by
 have da:=ab.rel r n6;have ar:(g us cJ).length=ps.length:=by rw[<- da.length];exact F.len _ _ _ _ h
 refine qm (pm (F.run X.A X.stack s H ⟨us,ks.zip cJ⟩ (g us cJ) (nP vs kZ) Q E aA I.zo (ab.to s us cJ I.eo ar) da h) λr s' a9=>?_);cases r with
 | error e=>exact ah aa σ H s e s' I a9
 | ok fl=>
  cases fl with
  | ret u=>exact I.after a9
  | next=>exact ik a9
  | brk=>exact ik a9
  | cont=>exact ik a9
end
structure cX(N P:List Str)(sc:gh):Prop where
 kind:sc.kind= .function
 co:sc.isCoroutine=false
 gen:sc.isGenerator=false
 a4:N.Nodup
 pre:N.take P.length=P
 par:∀x∈P,sc.names.lookup x=some .local∨sc.names.lookup x=some .cell
 D4:∀y∈sc.names,y.2≠ .free
def cX.of{N P:List Str}{sc:gh}(h:sc.kind= .function/\sc.isCoroutine=false/\sc.isGenerator=false/\N.Nodup/\N.take P.length=P/\(∀x∈P,sc.names.lookup x=some .local∨sc.names.lookup x=some .cell)/\∀y∈sc.names,y.2≠ .free):cX N P sc:=⟨h.1,h.2.1,h.2.2.1,h.2.2.2.1,h.2.2.2.2.1,h.2.2.2.2.2.1,h.2.2.2.2.2.2⟩
def Pg{kindOf:Str->Option xC}{x:Str}:∀{yZ:List (Str×aj)}{m:Str->Option aj},(∀v,(x,v)∉yZ)->bindL kindOf yZ m x=m x
 | [],_,_=>rfl
 | (n,v)::r,m,h=>by
  unfold bindL;rw[Pg λw b0=>h w (nq _ b0)];split
  ·have:x≠n:=by rintro rfl;exact h v rD
   simp[this]
  ·rfl
def Pe{kindOf:Str->Option xC}{x:Str}:∀{yZ:List (Str×aj)}{m:Str->Option aj},(∀v,(x,v)∉yZ)->bindC kindOf yZ m x=m x
 | [],_,_=>rfl
 | (n,v)::r,m,h=>by
  unfold bindC;rw[Pe λw b0=>h w (nq _ b0)];split
  ·rfl
  ·have:x≠n:=by rintro rfl;exact h v rD
   simp[this]
def Pf{kindOf:Str->Option xC}:∀{P:List Str}{vs:List aj}{i:Nat}{m:Str->Option aj},P.Nodup->P[i]? =some x->vs[i]? =some v->kindOf x=some .local->
  bindL kindOf (P.zip vs) m x=some v
 | [],_,_,_,_,h,_,_=>by simp at h
 | _::_,[],_,_,_,_,h,_=>by simp at h
 | p::P,w::vs,0,m,a4,h1,h2,aw=>by
  simp at h1 h2;subst h1;subst h2;show bindL kindOf ((p,w)::P.zip vs) m p=_;unfold bindL;rw[Pg λv bm=>(nr.mp a4).1 (Nj bm).1,if_pos aw];simp
 | p::P,w::vs,i+1,m,a4,h1,h2,aw=>by
  show bindL kindOf ((p,w)::P.zip vs) m x=_;unfold bindL;exact Pf (i:=i) (nr.mp a4).2 (by simpa using h1) (by simpa using h2) aw
def Pd{kindOf:Str->Option xC}:∀{P:List Str}{vs:List aj}{i:Nat}{m:Str->Option aj},P.Nodup->P[i]? =some x->vs[i]? =some v->kindOf x≠some .local->
  bindC kindOf (P.zip vs) m x=some v
 | [],_,_,_,_,h,_,_=>by simp at h
 | _::_,[],_,_,_,_,h,_=>by simp at h
 | p::P,w::vs,0,m,a4,h1,h2,aw=>by
  simp at h1 h2;subst h1;subst h2;show bindC kindOf ((p,w)::P.zip vs) m p=_;unfold bindC;rw[Pe λv bm=>(nr.mp a4).1 (Nj bm).1,if_neg aw];simp
 | p::P,w::vs,i+1,m,a4,h1,h2,aw=>by
  show bindC kindOf ((p,w)::P.zip vs) m x=_;unfold bindC;exact Pd (i:=i) (nr.mp a4).2 (by simpa using h1) (by simpa using h2) aw
def start(N:List Str)(vs:List V):St:=vs.map some++u0 (N.length - vs.length) none
def jk(cW:kC)(P:dn)(w:cH)(K:b5)(mg:Str->Option aj)(base:cg)(N:List Str)(qual:Str)(aX:gh)(f:O)(cd:aj)(A:d0)(a3:List fL)(s:aM)(H:ak)(E:eP):bp where
 prog:=P
 w:=w
 K:=K
 mg:=mg
 base:=base
 A:=A.deeper (envOfC qual aX s.heap.objs.size f cd)
 N:=N
 s₀:=s
 H₀:=H
 env:=envOfC qual aX s.heap.objs.size f cd
 a3:=a3
 stack:=envOfC qual aX s.heap.objs.size f cd::a3
 ex:=[]
 calm:=true
 fn:=λ_=>true
 cv:=[]
 cb:=λe s'=>wpAny (model P w) (A.deeper (envOfC qual aX s.heap.objs.size f cd)) (leaving (envOfC qual aX s.heap.objs.size f cd) e) (λ_ s''=>cW a3 H s E e s'') (λbQ s''=>cW a3 H s E bQ s'') s'
def Pq{sc:gh}(h:sc.names.lookup x=some .cell):∃c,(cellsFrom n sc.names []).lookup x=some c:=by
 have q:=Xj sc.names n [] (.inl h);exact Option.isSome_iff_exists.mp q
def ahU{cW:kC}{P:dn}{w:cH}{K:b5}{mg:Str->Option aj}{base:cg}{N ps:List Str}{qual:Str}{aX:gh}{f:O}{cd:aj}{A:d0}{a3:List fL}{s s1:aM}{H:ak}{E:eP}{us:List aj}{vs:List V}
  (S:cX N ps aX)(hd:A.handled=none)(eu:px P w K mg base A a3 s H)(ar:vs.length=ps.length)(r:cz vs us)
  (x:InCallC s s.heap.objs.size (bindL (envOfC qual aX s.heap.objs.size f cd).kindOf (ps.zip us) λ_=>none) (cellsFrom (s.heap.objs.size+1) aX.names []) (bindC (envOfC qual aX s.heap.objs.size f cd).kindOf (ps.zip us) λ_=>none) s1):
  Inv (jk cW P w K mg base N qual aX f cd A a3 s H E) [] (start N vs) H s1:=by
 have ib:ps.length<=N.length:=by have:=congrArg List.length S.pre;rw[WO]at this;omega
 obtain⟨h1,tk,rfl,aw⟩:=x.done;have jT:∀b:O,b∉(jk cW P w K mg base N qual aX f cd A a3 s H E).ex:=λb z=>absurd (show b∈([]:List O)from z) (by simp)
 refine⟨⟨eu.mod,S.kind,rfl,rfl,c9 _,λy z c h1 h2=>?_,λy b2=>?_,λy c _ h=>?_,λ_=>hd,VV eu.frames,.inr ⟨rfl,rfl⟩,λb z=>absurd z (jT b),eu.bs,eu.kI,λb _ _=>jT b,λb z=>absurd z (jT b),eu.lq,eu.pL⟩,
  rfl,eu.bare,eV.kept aw,⟨_,x.toInCall.ns,λi y v h1 h2 aN=>?_⟩,λy c h=>⟨_,x.cell y c h⟩,eu.a'.fresh (c9 _),λy c h=>?_,λp aB=>absurd (show p∈([]:List (O×b_))from aB) (by simp),eu.a'.kept aw,?_⟩
 ·exact name_of_addr x.apart (op h1) (op h2)
 ·have b2:aX.names.lookup y=some .cell∨aX.names.lookup y=some .free:=b2;rcases b2 with b2 | b2
  ·exact Pq b2
  ·exact absurd rfl (S.D4 _ (op b2))
 ·exact kA (x.above y c (op h))
 ·have au:i < vs.length:=by
   unfold start at h2;by_cases au:i < vs.length
   ·exact au
   ·rw[mx (by simpa using au)]at h2
    rw[xw]at h2;split at h2<;>cases h2
  have af:vs[i]? =some v:=by
   unfold start at h2;rw[mw (by simpa using au),ft]at h2
   cases e:vs[i]? with
   | none=>rw[e]at h2;cases h2
   | some a=>rw[e]at h2;cases h2;rfl
  obtain⟨u,aD,cf⟩:=r.get af;have aB:ps[i]? =some y:=by
   rw[<- S.pre,List.getElem?_take_of_lt (by omega)];exact h1
  have S_:ps.Nodup:=by rw[<- S.pre];exact S.a4.sublist (WZ _ _)
  refine⟨u,cf,?_⟩;rcases S.par y (oh aB)with k | k
  ·exact .inl ⟨k,Pf S_ aB aD k⟩
  ·obtain⟨c,e⟩:=Pq (n:=s.heap.objs.size+1) k;refine .inr ⟨.inl k,c,e,?_⟩;have q:=x.cell y c e;rw[Pd S_ aB aD (by show aX.names.lookup y≠_;rw[k];decide)]at q
   exact q
 ·exact eu.a'.fresh (kA (x.above y c (op h)))
 ·unfold start;show _=N.length;rw[oc,dV,Ng];omega
def IE{K:b5}{name qual:Str}{params:xk}{body:List cc}{aX:gh}{oH dF fj dM bA ct jd:aj}{an od:Option O}
  {kT:Array (Option aj)}{sp:e4}(lk:K.lookup f=some ⟨jd,od,.func (ht name qual params body aX oH dF fj dM an bA ct),kT⟩)(kL:qk K bA qual=true)(S:cX N ps aX)
  (len:∀vs H Q E,sp vs H Q E->vs.length=ps.length)
  (zM:∀(A:d0)(a3:List fL)(s:aM)(H:ak)(vs:List V)(Q:c3)(E:eP),dT k (A.deeper (envOfC qual aX s.heap.objs.size f bA))->sp vs H Q E->
   ∃t,hw (jk cW P w K mg base N qual aX f bA A a3 s H E) body t/\t {nx:=λ_ H'=>Q .bb H',ey:=Q} (start N vs) H):
  aY P w K mg base cW (k+1) f (ht name qual params body aX oH dF fj dM an bA ct) ps sp:=by
 refine⟨len,λA a3 s H args us vs Q E aA eu ab r kO=>?_⟩;have ar:=len _ _ _ _ kO;have hY:K.In s.heap:=eu.mod.mW.keeps λb o e=>(eu.bs b o e).1;have aiG:s.heap.NoLimit:=eu.mod.nolimit.keeps λb o e=>(eu.bs b o e).1;have ag6:∀y∈ps.zip us,aX.names.lookup y.1=some .local∨(aX.names.lookup y.1=some .cell/\((cellsFrom (s.heap.objs.size+1) aX.names []).lookup y.1).isSome=true):=λ⟨n,v⟩ b2=>by
  rcases S.par n (Nj b2).1 with q | q
  ·exact .inl q
  ·exact .inr ⟨q,Xj _ _ _ (.inl q)⟩
 refine codeAny_call_function aA.depth (hY _ _ lk) rfl S.co S.gen rfl (PySem.W.codeRec_of hY kL) (ab _ _ _ _ ?_);refine wpAny_newFunctionEnv_cells S.kind ag6 λenv he s1 x=>?_;subst he;refine⟨aiG.keeps x.toInCall.keep,codeAny_func ?_⟩;obtain⟨t,cj,a9⟩:=zM A a3 s H vs Q E (aA.deeper _) kO;have I:Inv (jk cW P w K mg base N qual aX f bA A a3 s H E) [] (start N vs) H s1:=ahU S aA.hd eu ar r x;refine j4 (cj [] s1 (start N vs) H _ I a9) (λfl s' aS=>?_) λe s' aS=>aS;have dq:∀{σ':St}{H':ak}{v:V}{u:aj},Inv (jk cW P w K mg base N qual aX f bA A a3 s H E) [] σ' H' s'->RelV v u->Q v H'->xY a3 P w H s Q u s':=
  λ{σ' H' v u} bP cf q=>⟨v,H',bP.os,bP.bare,bP.base,bP.a',cf,q⟩
 cases fl with
 | ret u=>
  obtain⟨v,σ',H',bP,cf,q⟩:=aS;exact dq bP cf q
 | next=>
  obtain⟨σ',H',bP,q⟩:=aS;exact dq (v:=V.bb) (u:=Value.none) bP rfl q
 | brk=>
  obtain⟨_,_,_,q⟩:=aS;exact ik q
 | cont=>
  obtain⟨_,_,_,q⟩:=aS;exact ik q
section
variable{X:bp}{x:Str}{p pos:d1}{e:ck}{es:List ck}{t:fi}{id T:String}{r:List V->ak->c3->Prop}
def kp(r:List V->ak->c3->Prop)(t:fi):TE:=λσ H Q=>t σ H λvs H1=>r vs H1 Q
def ea(aL:ji X (.builtin id) r)(bl:fd X x)(bx:X.mg x=none)(bm:bootBuiltins x=some (.builtin id))(af:jJ X (e::es) t)(ba:x≠"__name__":=by decide)(iT:fC x:=by decide)
  (he:oz X e es:=by rfl)(ib:qn X pos es:=by rfl):bz X (.Call (.Name x p) (e::es) [] pos) (kp r t):=by
 intro aa s σ H Q I h;refine ql (qV I bl bx bm ?_ ba iT);exact FK (bJ (af pos aa s σ H _ I h) λus s1 ⟨vs,H1,aW,b4,ao⟩=>aL aa s1 σ H1 vs us Q aW b4 ao) he ib
def je(aL:ji X (.type T) r)(bl:fd X x)(bx:X.mg x=none)(bm:bootBuiltins x=some (.type T))(af:jJ X (e::es) t)(ba:x≠"__name__":=by decide)(iT:fC x:=by decide)
  (he:oz X e es:=by rfl)(ib:qn X pos es:=by rfl):bz X (.Call (.Name x p) (e::es) [] pos) (kp r t):=by
 intro aa s σ H Q I h;refine ql (qV I bl bx bm ?_ ba iT);exact Np (bJ (af pos aa s σ H _ I h) λus s1 ⟨vs,H1,aW,b4,ao⟩=>aL aa s1 σ H1 vs us Q aW b4 ao) he ib
end
section
variable{fA:Type}[DecidableEq fA]
def kr(kvs:List (fA×V))(k:fA):Option V:=(kvs.find? λcO=>decide (cO.1=k)).map (·.2)
def et(kvs:List (fA×V))(k:fA)(v:V):List (fA×V):=
 if(kvs.any λcO=>decide (cO.1=k))=true then kvs.map (λcO=>if cO.1=k then(cO.1,v)else cO)else kvs++[(k,v)]
def Ff{p:fA×V}{r:List (fA×V)}{k:fA}(e:p.1=k):kr (p::r) k=some p.2:=by simp[kr,mv,e]
def Fe{p:fA×V}{r:List (fA×V)}{k:fA}(e:¬p.1=k):kr (p::r) k=kr r k:=by simp[kr,mv,e]
def VN(k:fA):∀kvs:List (fA×V),(kvs.any λcO=>decide (cO.1=k))=(kr kvs k).isSome
 | []=>rfl
 | p::r=>by
  rw[s8];by_cases e:p.1=k
  ·simp only[Ff e,decide_eq_true e,V6,W8]
  ·rw[Fe e,decide_eq_false e,Bool.false_or];exact VN k r
def JZ(kvs:List (fA×V))(k:fA)(v:V):(et kvs k v).length<=kvs.length+1:=by
 unfold et;split
 ·rw[dV];omega
 ·rw[oc,hH,Bc];omega
def h0.z0(r:h0 o u):o.isSome=u.isSome:=by
 cases o with
 | none=>cases u with
  | none=>rfl
  | some _=>exact(show False from r).elim
 | some _=>cases u with
  | none=>exact(show False from r).elim
  | some _=>rfl
def h0.getD(r:h0 o u)(hE:RelV d d'):RelV (o.getD d) (u.getD d'):=by
 cases o with
 | none=>cases u with
  | none=>exact hE
  | some _=>exact(show False from r).elim
 | some _=>cases u with
  | none=>exact(show False from r).elim
  | some _=>exact r
def fY.val(r:fY kvs vs)(k:fA):h0 (kr kvs k) (valueAt vs k):=by
 unfold fY at r;induction r with
 | nil=>exact True.intro
 | @cons p q ps n4 h t b3=>
  obtain⟨h1,h2⟩:=h;by_cases e:p.1=k
  ·have bQ:q.1=k:=h1.symm.trans e;have b:valueAt (q::n4) k=some q.2:=by simp[valueAt,mv,bQ]
   rw[Ff e,b];exact h2
  ·have bQ:¬q.1=k:=λz=>e (h1.trans z);have b:valueAt (q::n4) k=valueAt n4 k:=by simp[valueAt,mv,bQ]
   rw[Fe e,b];exact b3
def fY.any(r:fY kvs vs)(k:fA):(kvs.any λcO=>decide (cO.1=k))=vs.any λcO=>decide (cO.1=k):=by
 unfold fY at r;induction r with
 | nil=>rfl
 | cons h t b3=>rw[s8,s8,b3,h.1]
def fY.K_(r:fY kvs vs)(k:fA)(br:RelV y u):
  fY (kvs.map λcO=>if cO.1=k then(cO.1,y)else cO) (vs.map λcO=>if cO.1=k then(cO.1,u)else cO):=by
 unfold fY at r ⊢;induction r with
 | nil=>exact .nil
 | @cons p q ps n4 h t b3=>
  rw[fM,fM];refine .cons ?_ b3;obtain⟨h1,h2⟩:=h;by_cases e:p.1=k
  ·rw[if_pos e,if_pos (h1.symm.trans e)];exact⟨h1,br⟩
  ·rw[if_neg e,if_neg (λz=>e (h1.trans z))];exact⟨h1,h2⟩
def fY.put(r:fY kvs vs)(k:fA)(br:RelV y u):fY (et kvs k y) (stored vs k u):=by
 unfold et stored;rw[r.any k];by_cases e:(vs.any λcO=>decide (cO.1=k))=true
 ·rw[if_pos e,if_pos e];exact r.K_ k br
 ·rw[if_neg e,if_neg e];exact W' r ⟨rfl,br⟩
def fY.keys{kvs:List (fA×V)}{vs:List (fA×aj)}(r:fY kvs vs):kvs.map (·.1)=vs.map (·.1):=by
 unfold fY at r;induction r with
 | nil=>rfl
 | cons h t b3=>rw[fM,fM,b3,h.1]
def fY.length(r:fY kvs vs):kvs.length=vs.length:=Paired.length r
end
def sy(r:RelV (dF k) u):(fG P w).is k u=true:=by
 cases k with
 | inl i=>obtain⟨t,e⟩:=(show ∃t,u=Value.int i t from r);subst e;exact ai2 P w i t
 | inr x=>obtain⟨t,e⟩:=(show ∃t,u=Value.str x t from r);subst e;exact S7 P w x t
def Sk:∀{ks:List bM}{us:List aj},cz (ks.map dF) us->ItemsAre (fG P w) ks us
 | [],_,r=>by rw[Ni]at r;cases r;exact .nil
 | k::ks,_,r=>by
  rw[fM]at r;cases r with
  | cons h t=>exact .cons (sy h) (Sk t)
abbrev lV(H:ak):List (List bM×V)->List (List bM×O×aj)->Prop:=Paired λp q=>p.1=q.1/\H q.2.1=some (.tup (p.1.map dF))/\RelV p.2 q.2.2
def lV.val(r:lV H kvs xs)(k:List bM):h0 (kr kvs k) ((atKey xs k).map (·.2)):=by
 induction r with
 | nil=>exact True.intro
 | @cons p q ps n4 h t b3=>
  obtain⟨h1,_,h2⟩:=h;by_cases e:p.1=k
  ·have bQ:q.1=k:=h1.symm.trans e;have b:atKey (q::n4) k=some q.2:=by simp[atKey,mv,bQ]
   rw[Ff e,b];exact h2
  ·have bQ:¬q.1=k:=λz=>e (h1.trans z);have b:atKey (q::n4) k=atKey n4 k:=by simp[atKey,mv,bQ]
   rw[Fe e,b];exact b3
def lV.K_(r:lV H kvs xs)(k:List bM)(br:RelV y u):
  lV H (kvs.map λcO=>if cO.1=k then(cO.1,y)else cO) (xs.map (putAt k u)):=by
 induction r with
 | nil=>exact .nil
 | @cons p q ps n4 h t b3=>
  rw[fM,fM];refine .cons ?_ b3;obtain⟨h1,h2,aN⟩:=h;unfold putAt;by_cases e:p.1=k
  ·rw[if_pos e,if_pos (h1.symm.trans e)];exact⟨h1,h2,br⟩
  ·rw[if_neg e,if_neg (λz=>e (h1.trans z))];exact⟨h1,h2,aN⟩
def lV.put(r:lV H kvs xs)(k:List bM)(ab:H b=some (.tup (k.map dF)))(br:RelV y u):
  lV H (et kvs k y) (storedH xs k b u):=by
 have e:(kvs.any λcO=>decide (cO.1=k))=(atKey xs k).isSome:=by
  rw[VN,(r.val k).z0,Bh]
 unfold et storedH;rw[e];by_cases q:(atKey xs k).isSome=true
 ·rw[if_pos q,if_pos q];exact r.K_ k br
 ·rw[if_neg q,if_neg q];exact W' r ⟨rfl,ab,br⟩
def lV.keeps{H H':ak}(r:lV H kvs xs)(cj:∀b ys,H b=some (.tup ys)->H' b=some (.tup ys)):lV H' kvs xs:=
 Paired.J' r λ_ _ z=>⟨z.1,cj _ _ z.2.1,z.2.2⟩
section
variable{P:dn}{w:cH}{H:ak}{h:cg}{a:O}
def UC(ok:eN P w H h)(e:ec H a u):fZ P w H h a u:=e.ok ok
def lZ(ok:eN P w H h)(e:ec H a (.a7 kvs)):kvs.length<=sizeLine/\(a==sysModules)=false/\∃vs,fY kvs vs/\h.DictOf (fG P w) a vs:=
 show fZ P w H h a (.a7 kvs)from UC ok e
def CX(ok:eN P w H h)(e:H a=some (.a7 kvs)):kvs.length<=sizeLine/\(a==sysModules)=false/\∃vs,fY kvs vs/\h.DictOf (fG P w) a vs:=lZ ok (.inl e)
def uc{ks:List bM}(ok:eN P w H h)(e:H a=some (.tup (ks.map dF))):(tupleKind (fG P w)).is h ks a:=by
 obtain⟨_,its,r,o,h1,h2,n,aN⟩:=(show fZ P w H h a (.tup (ks.map dF))from ok a _ e)
 exact⟨o,its.toArray,n,h1,h2,aN,by simpa using Sk r⟩
def r6(ok:eN P w H h)(e:ec H a (.i5 kvs)):kvs.length<=sizeLine/\(a==sysModules)=false/\
  ∃xs,lV H kvs xs/\h.DictOfH (tupleKind (fG P w)) a xs:=by
 obtain⟨z,y,xs,r,o,es,ep,h1,h2,aN,h4,cE⟩:=(show fZ P w H h a (.i5 kvs)from UC ok e)
 refine⟨z,y,xs,r,o,es,ep,h1,h2,aN,h4,λx ah=>?_,cE⟩;have all:∀{l:List (List bM×V)}{m:List (List bM×O×aj)},lV H l m->∀x∈m,(tupleKind (fG P w)).is h x.1 x.2.1:=by
  intro l m q;induction q with
  | nil=>intro x ah;exact nomatch ah
  | @cons p q ps n4 a9 t b3=>
   intro x ah;rcases dR.mp ah with e | ah
   ·subst e;exact uc ok (by rw[<- a9.1];exact a9.2.1)
   ·exact b3 x ah
 exact all r x ah
def adB(ok:eN P w H h)(e:H a=some (.i5 kvs)):kvs.length<=sizeLine/\(a==sysModules)=false/\
  ∃xs,lV H kvs xs/\h.DictOfH (tupleKind (fG P w)) a xs:=r6 ok (.inl e)
end
def nw(H:ak)(a:O)(y:V)(r:Option V):Prop:=
 (∃kvs k,ec H a (.a7 kvs)/\y=dF k/\r=kr kvs k)∨∃kvs k b,ec H a (.i5 kvs)/\y= .ref b/\H b=some (.tup (k.map dF))/\r=kr kvs k
def pv(H:ak)(a:O)(y v:V)(H':ak):Prop:=
 (∃kvs k,H a=some (.a7 kvs)/\y=dF k/\kvs.length < sizeLine/\H'=a1 H a (.a7 (et kvs k v)))∨
 ∃kvs k b,H a=some (.i5 kvs)/\y= .ref b/\H b=some (.tup (k.map dF))/\kvs.length < sizeLine/\H'=a1 H a (.i5 (et kvs k v))
def pv.k{H:ak}{a:O}{kvs:List (bM×V)}{k:bM}{v:V}(e:H a=some (.a7 kvs))(ar:kvs.length < sizeLine):pv H a (dF k) v (a1 H a (.a7 (et kvs k v))):=.inl ⟨kvs,k,e,rfl,ar,rfl⟩
section
variable{X:bp}{aa:List (O×b_)}{σ:St}{H:ak}{s:aM}{a:O}{y v:V}{u r:aj}{o:Option V}{A:d0}{E:aj->aM->Prop}
def Inv.big(I:Inv X aa σ H s):sysModules < s.heap.objs.size:=by
 have h:mainGlobals < s.heap.objs.size:=(I.mod.glob.keeps I.f7).lt;exact Nat.lt_trans (by decide) h
def aca{Q:aj->aM->Prop}(aD:A.units+1 < cLine)(I:Inv X aa σ H s)(g:nw H a y (some v))(br:RelV y u)(h:∀fq s',Inv X aa σ H s'->RelV v fq->Q fq s'):
  wpAny (model X.prog X.w) A (getItem (.ref a) u) Q E s:=by
 rcases g with⟨kvs,k,e,fP,l⟩ | ⟨kvs,k,b,e,fP,cC,l⟩
 ·subst fP;obtain⟨z,hd,vs,rel,bN⟩:=lZ I.a' e;obtain⟨fq,b0,m_⟩:=h0.some_of (v:=v) (o:=valueAt vs k) (by rw[l];exact rel.val k)
  exact wpAny_getItem_of (sy br) bN.mapOf b0 (h fq _ (I.tok _) m_)
 ·subst fP;cases(show u=Value.ref b from br)
  obtain⟨z,hd,xs,rel,bN⟩:=r6 I.a' e;obtain⟨fq,b0,m_⟩:=h0.some_of (v:=v) (o:=(atKey xs k).map (·.2)) (by rw[l];exact rel.val k)
  obtain⟨p,aB,ahp⟩:=jD.mp b0;refine wpAny_getItem_heap (xO aD) (uc I.a' cC) bN aB ?_;rw[ahp];exact h fq _ (I.tok _) m_
def acd{Q:aj->aM->Prop}(aD:A.units+1 < cLine)(I:Inv X aa σ H s)(g:nw H a y o)(br:RelV y u)(h:∀s',Inv X aa σ H s'->Q (.bool o.isSome) s'):
  wpAny (model X.prog X.w) A (compareOp .In u (.ref a)) Q E s:=by
 rcases g with⟨kvs,k,e,fP,l⟩ | ⟨kvs,k,b,e,fP,cC,l⟩
 ·subst fP;obtain⟨z,hd,vs,rel,bN⟩:=lZ I.a' e;refine wpAny_in_of (sy br) hd bN.mapOf ?_;rw[<- (rel.val k).z0, <- l];exact h _ (I.tok _)
 ·subst fP;cases(show u=Value.ref b from br)
  obtain⟨z,hd,xs,rel,bN⟩:=r6 I.a' e;refine wpAny_in_heap (xO aD) (uc I.a' cC) hd bN ?_;have q:=(rel.val k).z0;rw[Bh]at q;rw[<- q, <- l];exact h _ (I.tok _)
def acu{Q:aj->aM->Prop}(aD:A.units+1 < cLine)(I:Inv X aa σ H s)(g:nw H a y o)(br:RelV y u)(h:∀s',Inv X aa σ H s'->Q (.bool (!o.isSome)) s'):
  wpAny (model X.prog X.w) A (compareOp .NotIn u (.ref a)) Q E s:=by
 rcases g with⟨kvs,k,e,fP,l⟩ | ⟨kvs,k,b,e,fP,cC,l⟩
 ·subst fP;obtain⟨z,hd,vs,rel,bN⟩:=lZ I.a' e;refine wpAny_notIn_of (sy br) hd bN.mapOf ?_;rw[<- (rel.val k).z0, <- l];exact h _ (I.tok _)
 ·subst fP;cases(show u=Value.ref b from br)
  obtain⟨z,hd,xs,rel,bN⟩:=r6 I.a' e;refine wpAny_notIn_heap (xO aD) (uc I.a' cC) hd bN ?_;have q:=(rel.val k).z0;rw[Bh]at q;rw[<- q, <- l];exact h _ (I.tok _)
def CW{t':Nat}(I:Inv X aa σ H s)(l9:yq (H a))(aS:i0 a s.heap h')(he:∃q,h'.get? a=some q)(new:fZ X.prog X.w (a1 H a bW) h' a bW):
  Inv X aa σ (a1 H a bW) {s with heap:=h',toks:=t'}:=
 I.write (x:=a) (e:=a) l9 (.inl rfl) (λb q ab z=>(aS.2 b ab).trans z) he new
def zd{h':cg}{kvs:List (bM×V)}(z:kvs.length<=sizeLine)(hd:(a==sysModules)=false)(rel:fY kvs vs)(bN:h'.DictOf (fG P w) a vs):
  fZ P w H' h' a (.a7 kvs):=⟨z,hd,vs,rel,bN⟩
def acx{Q:Unit->aM->Prop}(aD:A.units+1 < cLine)(I:Inv X aa σ H s)(g:pv H a y v H')(br:RelV y u)(cf:RelV v r)(h:∀s',Inv X aa σ H' s'->Q () s'):
  wpAny (model X.prog X.w) A (setItem (.ref a) u r) Q E s:=by
 rcases g with⟨kvs,k,e,fP,l,qE⟩ | ⟨kvs,k,b,e,fP,cC,l,qE⟩
 ·subst fP qE;obtain⟨z,hd,vs,rel,bN⟩:=CX I.a' e;have hz:vs.length<=sizeLine:=by rw[<- rel.length];exact z
  have ar:(et kvs k v).length<=sizeLine:=by have:=JZ kvs k v;omega
  refine wpAny_setItem_pairs (hsz:=hz) (sy br) bN λh' nL aS=>h _ ?_;have he:∃q,h'.get? a=some q:=let⟨q,_,_,a9,_⟩:=nL;⟨q,a9⟩
  exact CW I (by rw[e];exact True.intro) aS he (zd ar hd (rel.put k cf) nL)
 ·subst fP qE;cases(show u=Value.ref b from br)
  obtain⟨z,hd,xs,rel,bN⟩:=adB I.a' e;have hz:xs.length<=sizeLine:=by rw[<- Paired.length rel];exact z
  have ar:(et kvs k v).length<=sizeLine:=by have:=JZ kvs k v;omega
  refine wpAny_setItem_heap (hsz:=hz) (xO aD) (uc I.a' cC) bN λh' nL aS=>h _ ?_;obtain⟨q,es,ep,a9,h2,aN,h4,_,cE⟩:=nL;refine CW I (by rw[e];exact True.intro) aS ⟨q,a9⟩ ⟨ar,hd,_,(rel.put k cC cf).keeps λc ys l1=>?_,q,es,ep,a9,h2,aN,h4,cE⟩
  rw[bj (Tb l1 e (λz=>nomatch z))];exact l1
end
section
variable{X:bp}{aa:List (O×b_)}{σ:St}{H:ak}{s:aM}{a:O}{kvs:List (bM×V)}{A:d0}{E:aj->aM->Prop}
def acm{Q:aj->aM->Prop}(I:Inv X aa σ H s)(e:ec H a (.a7 kvs))(h:∀t s',Inv X aa σ H s'->Q (.int kvs.length t) s'):wpAny (model X.prog X.w) A (call (.builtin "len") [.ref a]) Q E s:=by
 obtain⟨z,hd,vs,rel,bN⟩:=lZ I.a' e;refine call_len_dict hd bN (by rw[<- rel.length];rw[k1]at z;omega) ?_
 rw[<- rel.length];exact h _ _ (I.tok _)
end
def OT(i:ck):Prop:=∀eL iU,subscripted i false eL iU=operate [eL,iU] (getItem eL iU)
def anu{s:aM}{T id:String}
  (ar:typeLookup (.type T) "__getitem__"=pure (some (.builtin id)))(aS:OT slice)
  (h:wpAny (model prog w) A (eval value env) (λo s₁=>wpAny (model prog w) A (eval slice env) (λi s₂=>s₂.TypeIs o T/\wpAny (model prog w) A (getItem o i) Q E s₂) E s₁) E s):
  wpAny (model prog w) A (eval (.Subscript value slice pos) env) Q E s:=by
 refine NJ (j4 h (λo s₁ JC=>j4 JC (λi s₂ JD=>?_) λ_ _ x=>x) λ_ _ x=>x);obtain⟨de,JD⟩:=JD;unfold subscriptTail;refine aQ ?_;rw[getitemInPython_of_ne de.not_modules];refine aQ (Yf de ar ?_);have dq:wpAny (model prog w) A (subscripted slice false o i) (λr w5=>wpAny (model prog w) A (letTemporaryGo value o r >>=λ_=>pure r) Q E w5) E s₂:=by
  rw[aS o i];exact wpAny_operating (j4 JD (λr w5 ahJ=>aQ (wpAny_letTemporaryGo (bC ahJ))) λ_ _ x=>x)
 first
  | exact bC (aQ dq)
  | exact aQ (bC (aQ dq))
  | exact aQ dq
def adi{H:ak}(I:Inv X aa σ H s)(g:nw H a y o):s.TypeIs (.ref a) "dict":=by
 rcases g with⟨kvs,k,e,_,_⟩ | ⟨kvs,k,b,e,_,_,_⟩
 ·obtain⟨_,_,vs,_,bN⟩:=lZ I.a' e;exact bN.typeIs
 ·obtain⟨_,_,xs,_,bN⟩:=r6 I.a' e;exact bN.typeIs
def p_(eS ty:TE):TE:=λσ H Q=>eS σ H λx H1=>ty σ H1 λy H2=>∃a v,x= .ref a/\nw H2 a y (some v)/\Q v H2
def Vi(ty eS:TE):TE:=λσ H Q=>ty σ H λy H1=>eS σ H1 λx H2=>∃a o,x= .ref a/\nw H2 a y o/\Q (.aG o.isSome) H2
def Vj(ty eS:TE):TE:=λσ H Q=>ty σ H λy H1=>eS σ H1 λx H2=>∃a o,x= .ref a/\nw H2 a y o/\Q (.aG (!o.isSome)) H2
def uF(eS ty gU:TE):d8:=λD σ H=>gU σ H λv H1=>eS σ H1 λx H2=>ty σ H2 λy H3=>∃a H4,x= .ref a/\pv H3 a y v H4/\D.nx σ H4
section
variable{X:bp}{o i value:ck}{pos jU:d1}{eS ty gU:TE}
def dh(aD:X.A.units+1 < cLine)(aZ:bz X o eS)(au:bz X i ty)(aS:OT i):bz X (.Subscript o i pos) (p_ eS ty):=by
 intro aa s σ H Q I h;refine anu PySem.F.slot_dict_getitem.lookup aS (bJ (aZ aa s σ H _ I h) λu s1 ⟨x,H1,aW,bt,ao⟩=>bJ (au aa s1 σ H1 _ aW ao) λiU s2 ⟨y,H2,bU,br,a,v,ex,g,bZ⟩=>?_);subst ex;obtain rfl:u=Value.ref a:=bt;exact⟨adi bU g,aca aD bU g br λfq s3 b9 m_=>⟨v,H2,b9,m_,bZ⟩⟩
def q6(aD:X.A.units+1 < cLine)(au:bz X i ty)(aZ:bz X o eS):vr X .In i o (Vi ty eS):=by
 intro aa s σ H Q I h;refine bJ (au aa s σ H _ I h) λiU s1 ⟨y,H1,aW,br,ao⟩=>bJ (aZ aa s1 σ H1 _ aW ao) λu s2 ⟨x,H2,bU,bt,a,eL,ex,g,bZ⟩=>?_;subst ex;obtain rfl:u=Value.ref a:=bt;exact acd aD bU g br λs3 b9=>⟨.aG eL.isSome,H2,b9,rfl,bZ⟩
def Em(aD:X.A.units+1 < cLine)(au:bz X i ty)(aZ:bz X o eS):vr X .NotIn i o (Vj ty eS):=by
 intro aa s σ H Q I h;refine bJ (au aa s σ H _ I h) λiU s1 ⟨y,H1,aW,br,ao⟩=>bJ (aZ aa s1 σ H1 _ aW ao) λu s2 ⟨x,H2,bU,bt,a,eL,ex,g,bZ⟩=>?_;subst ex;obtain rfl:u=Value.ref a:=bt;exact acu aD bU g br λs3 b9=>⟨.aG (!eL.isSome),H2,b9,rfl,bZ⟩
def n3(aD:X.A.units+1 < cLine)(aZ:bz X o eS)(au:bz X i ty)(bm:bz X value gU)(aS:swapsWith value (some (.Subscript o i jU)) pos.line X.env=pure false):
  hZ X (.Assign [.Subscript o i jU] value pos) (uF eS ty gU):=by
 intro aa s σ H D I h;refine wpAny_Assign_Subscript (bJ (bm aa s σ H _ I h) λr s1 ⟨v,H1,aW,cf,ao⟩=>bJ (aZ aa s1 σ H1 _ aW ao) λu s2 ⟨x,H2,bU,bt,bZ⟩=>bJ (au aa s2 σ H2 _ bU bZ) λiU s3 ⟨y,H3,b9,br,a,H4,ex,g,fk⟩=>?_) aS;subst ex;obtain rfl:u=Value.ref a:=bt;exact acx aD b9 g br cf λfI iI=>⟨σ,H4,iI,fk⟩
end
def PN(h:cg)(ab:sysModules < h.objs.size):fZ P w H (h.push {cls:=.type "dict",data:=.dict #[]}) h.objs.size (.a7 []):=
 ⟨j2 _,beq_eq_false_iff_ne.mpr (Ne.symm (d3 ab)),[],.nil,Wo h⟩
def Mv:TE:=λ_ H Q=>∀p,H p=none->Q (.ref p) (a1 H p (.a7 []))
section
variable{X:bp}{pos:d1}
def n2:bz X (.Dict [] [] pos) Mv:=λaa s σ H Q I h=>
 wpAny_Dict_empty ⟨.ref s.heap.objs.size,_,I.laid (a:=s.heap.objs.size) (o:=.a7 []) (t':=s.toks) (λ_ _ q=>cV _ q) (c9 _) (PN s.heap I.big),rfl,h _ (I.a'.fresh (c9 _))⟩
end
def E5:List (TE×TE)->St->ak->(List (V×V)->ak->Prop)->Prop
 | [],_,H,Q=>Q [] H
 | (tk,gU)::r,σ,H,Q=>tk σ H λx H1=>gU σ H1 λy H2=>E5 r σ H2 λps H3=>Q ((x,y)::ps) H3
abbrev OX:List (V×V)->List (aj×aj)->Prop:=Paired λp q=>RelV p.1 q.1/\RelV p.2 q.2
def Cp(X:bp)(pos:d1)(keys:List (Option ck))(Fg:List ck)(mn:List (TE×TE)):Prop:=
 ∀(aa:List (O×b_))(s:aM)(σ:St)(H:ak)(Q:List (V×V)->ak->Prop),Inv X aa σ H s->E5 mn σ H Q->
  wpAny (model X.prog X.w) X.A (evalPairs (pairTrees keys Fg X.env pos)) (λvs s'=>∃ps H',Inv X aa σ H' s'/\OX ps vs/\Q ps H') X.cb s
def sN:Cp X pos [] [] []:=λaa s σ H Q I h=>pairTrees_nil_walk ⟨[],H,I,.nil,h⟩
def sM(aw:bz X k tk)(bm:bz X v gU)(aA:Cp X pos ks vs mn):
  Cp X pos (some k::ks) (v::vs) ((tk,gU)::mn):=λaa s σ H Q I h=>
 pairTrees_cons_walk (bJ (aw aa s σ H _ I h) λu s1 ⟨x,H1,aW,bt,ao⟩=>bJ (bm aa s1 σ H1 _ aW ao) λqd s2 ⟨y,H2,bU,br,bZ⟩=>
  bJ (aA aa s2 σ H2 _ bU bZ) λcJ s3 ⟨ps,H3,b9,rel,fk⟩=>⟨(x,y)::ps,H3,b9,.cons ⟨bt,br⟩ rel,fk⟩)
def nY(kvs more:List (bM×V)):List (bM×V):=more.foldl (λacc cO=>et acc cO.1 cO.2) kvs
def fY.merge:∀{more:List (bM×V)}{iB:List (bM×aj)}{kvs:List (bM×V)}{vs:List (bM×aj)},fY more iB->fY kvs vs->fY (nY kvs more) (merged vs iB):=by
 intro more iB kvs vs r;unfold fY at r;induction r generalizing kvs vs with
 | nil=>intro q;exact q
 | @cons p q ps n4 h t b3=>
  intro K1;have e:fY (et kvs p.1 p.2) (stored vs q.1 q.2):=by
   have:=K1.put p.1 h.2;rw[<- h.1];exact this
  exact b3 e
def JY:∀(more kvs:List (bM×V)),(nY kvs more).length<=kvs.length+more.length
 | [],kvs=>by show kvs.length<=kvs.length+0;omega
 | p::r,kvs=>by
  have h1:=JY r (et kvs p.1 p.2);have h2:=JZ kvs p.1 p.2;show(nY (et kvs p.1 p.2) r).length<=_;rw[hH];omega
def Pn:∀{kvs:List (bM×V)}{cJ:List (aj×aj)},OX (kvs.map λcO=>(dF cO.1,cO.2)) cJ->∃iB,Carries (fG P w) cJ iB/\fY kvs iB
 | [],_,r=>by rw[Ni]at r;cases r;exact⟨[],True.intro,.nil⟩
 | p::kvs,_,r=>by
  rw[fM]at r;cases r with
  | @cons a b as bs h t=>
   obtain⟨iB,c,q⟩:=Pn (P:=P) (w:=w) t;obtain⟨dI,em⟩:=b;exact⟨(p.1,em)::iB,⟨sy h.1,rfl,c⟩,.cons ⟨rfl,h.2⟩ q⟩
def AP(mn:List (TE×TE)):TE:=λσ H Q=>∀p,H p=none->E5 mn σ (a1 H p (.a7 [])) λps H2=>H2 p=some (.a7 [])/\∃kvs:List (bM×V),ps=kvs.map (λcO=>(dF cO.1,cO.2))/\kvs.length<=15/\Q (.ref p) (a1 H2 p (.a7 (nY [] kvs)))
def sJ(h:Cp X pos keys Fg mn)(oQ:keys.all (·.isSome)=true)(ar:keys.length=Fg.length)(bE:keys≠[])
  (aga:keys.length<=15):bz X (.Dict keys Fg pos) (AP mn):=by
 intro aa s σ H Q I q;have ba:=I.a'.fresh (c9 s.heap.objs.size);have aW:=I.laid (a:=s.heap.objs.size) (o:=.a7 []) (h':=s.heap.push {cls:=.type "dict",data:=.dict #[]}) (t':=s.toks) (λ_ _ q=>cV _ q) (c9 _) (PN s.heap I.big);refine wpAny_Dict_walk (knd:=fG X.prog X.w) oQ ar bE aga (bJ (h aa _ σ _ _ aW (q _ ba)) λcJ s2 ⟨ps,H2,bU,rel,e,kvs,ep,lk,bZ⟩=>?_);subst ep;obtain⟨iB,c,hF⟩:=Pn (P:=X.prog) (w:=X.w) rel;obtain⟨z,hd,aqU,K1,bN⟩:=CX bU.a' e;cases K1;refine⟨iB,c,bN,λh' nL aS=>⟨.ref s.heap.objs.size,_,?_,rfl,bZ⟩⟩;have hz:(nY [] kvs).length<=sizeLine:=by
  have h1:=JY kvs [];rw[Bc]at h1;rw[k1];omega
 have he:∃q,h'.get? s.heap.objs.size=some q:=let⟨q,_,_,a9,_⟩:=nL;⟨q,a9⟩
 exact CW bU (by rw[e];exact True.intro) aS he (zd hz hd (hF.merge .nil) nL)
structure OQ(X:bp)(o:ck)(m:Str)(e6:d1)(e:ck)(f8:d1):Prop where
 base:attributeBase o m X.env (eval o X.env)=eval o X.env
 c_:((backTo f8 (starEach [e] X.env)).all (λx=>!x.1) && (backToKw f8 (keywordEach [] X.env)).all (λx=>x.1.isSome)
  && decide (([e]:List ck).length+([]:List rB).length+(if([]:List rB).isEmpty then 0 else 1)< 30))=true
 line:(e6.endLine==f8.line)=true
 trees:backTo f8 (starEach [e] X.env)=[(false,eval e X.env)]
structure ZS(X:bp)(o:ck)(m:Str)(e6:d1)(e f:ck)(f8:d1):Prop where
 base:attributeBase o m X.env (eval o X.env)=eval o X.env
 c_:((backTo f8 (starEach [e,f] X.env)).all (λx=>!x.1) && (backToKw f8 (keywordEach [] X.env)).all (λx=>x.1.isSome)
  && decide (([e,f]:List ck).length+([]:List rB).length+(if([]:List rB).isEmpty then 0 else 1)< 30))=true
 line:(e6.endLine==f8.line)=true
 trees:backTo f8 (starEach [e,f] X.env)=[(false,eval e X.env),(false,eval f X.env)]
def Cf(H:ak)(a:O):Prop:=(∃kvs,ec H a (.a7 kvs))∨∃kvs,ec H a (.i5 kvs)
def DG{H:ak}(I:Inv X aa σ H s)(d:Cf H a):
  s.TypeIs (.ref a) "dict"/\(∀b,Value.ref a= .ref b->∃bW,s.heap.get? b=some bW/\bW.dict=none)/\(a==sysModules)=false:=by
 rcases d with⟨kvs,e⟩ | ⟨kvs,e⟩
 ·obtain⟨_,hd,vs,_,bN⟩:=lZ I.a' e;refine⟨bN.typeIs,λb q=>?_,hd⟩;cases q;obtain⟨bW,_,_,h1,h2,_⟩:=bN;exact⟨bW,h1,h2.2.1⟩
 ·obtain⟨_,hd,xs,_,bN⟩:=r6 I.a' e;refine⟨bN.typeIs,λb q=>?_,hd⟩;cases q;obtain⟨bW,_,_,h1,h2,_⟩:=bN;exact⟨bW,h1,h2.2.1⟩
section
variable{X:bp}{aa:List (O×b_)}{σ:St}{H:ak}{s:aM}{a:O}{y d:V}{u r:aj}{o:Option V}{A:d0}{E:aj->aM->Prop}
def ab_{Q:aj->aM->Prop}(aD:A.units+1 < cLine)(I:Inv X aa σ H s)(g:nw H a y o)(br:RelV y u)(h:∀fq s',Inv X aa σ H s'->RelV (o.getD .bb) fq->Q fq s'):
  wpAny (model X.prog X.w) A (call (.builtin "dict.get") [.ref a,u]) Q E s:=by
 rcases g with⟨kvs,k,e,fP,l⟩ | ⟨kvs,k,b,e,fP,cC,l⟩
 ·subst fP;obtain⟨z,hd,vs,rel,bN⟩:=lZ I.a' e;refine xN xI bN.typeIs FL (Xa _ _) (meets_dict_get (fG X.prog X.w) a (sy br) hd) ⟨_,bN.mapOf,h _ _ (I.tok _) ?_⟩;rw[l];exact(rel.val k).getD rfl
 ·subst fP;cases(show u=Value.ref b from br)
  obtain⟨z,hd,xs,rel,bN⟩:=r6 I.a' e;refine xN xI bN.typeIs FL (Xa _ _) (meetsH_dict_get (tupleKind (fG X.prog X.w)) a b hd) ⟨xO aD,k,xs,uc I.a' cC,bN,h _ _ (I.tok _) ?_⟩;rw[l];exact(rel.val k).getD rfl
def ab'{Q:aj->aM->Prop}(aD:A.units+1 < cLine)(I:Inv X aa σ H s)(g:nw H a y o)(br:RelV y u)(hE:RelV d r)(h:∀fq s',Inv X aa σ H s'->RelV (o.getD d) fq->Q fq s'):
  wpAny (model X.prog X.w) A (call (.builtin "dict.get") [.ref a,u,r]) Q E s:=by
 rcases g with⟨kvs,k,e,fP,l⟩ | ⟨kvs,k,b,e,fP,cC,l⟩
 ·subst fP;obtain⟨z,hd,vs,rel,bN⟩:=lZ I.a' e;refine xN xI bN.typeIs FL (Xb _ _ _) (meets_dict_get_default (fG X.prog X.w) a (sy br) hd r) ⟨_,bN.mapOf,h _ _ (I.tok _) ?_⟩;rw[l];exact(rel.val k).getD hE
 ·subst fP;cases(show u=Value.ref b from br)
  obtain⟨z,hd,xs,rel,bN⟩:=r6 I.a' e;refine xN xI bN.typeIs FL (Xb _ _ _) (meetsH_dict_get_default (tupleKind (fG X.prog X.w)) a b hd r) ⟨xO aD,k,xs,uc I.a' cC,bN,h _ _ (I.tok _) ?_⟩;rw[l];exact(rel.val k).getD hE
end
def Vg(eS ty:TE):TE:=λσ H Q=>eS σ H λx H1=>∃a,x= .ref a/\Cf H1 a/\ty σ H1 λy H2=>∃o,nw H2 a y o/\Q (o.getD .bb) H2
def Vh(eS ty Fb:TE):TE:=λσ H Q=>eS σ H λx H1=>∃a,x= .ref a/\Cf H1 a/\ty σ H1 λy H2=>Fb σ H2 λz H3=>∃o,nw H3 a y o/\Q (o.getD z) H3
section
variable{X:bp}{o e f:ck}{e6 f8:d1}{eS ty Fb:TE}
def T1(aD:X.A.units+1 < cLine)(aZ:bz X o eS)(he:bz X e ty)(m:OQ X o "get" e6 e f8):bz X (.Call (.Attribute o "get" e6) [e] [] f8) (Vg eS ty):=by
 intro aa s σ H Q I h;refine NU m.base m.c_ m.line FN xI Xg (bJ (aZ aa s σ H _ I h) λu s1 ⟨x,H1,aW,bt,a,ex,d,ao⟩=>?_);subst ex;obtain rfl:u=Value.ref a:=bt;obtain⟨fm,dw,_⟩:=DG aW d;refine⟨fm,dw,?_⟩;rw[m.trees];refine A7 rfl (Ft (uW (bJ (he aa s1 σ H1 _ aW ao) λiU s2 ⟨y,H2,bU,br,eL,g,bZ⟩=>xn ?_)));exact ab_ aD bU g br λfq s3 b9 m_=>⟨_,H2,b9,m_,bZ⟩
def alj(aD:X.A.units+1 < cLine)(aZ:bz X o eS)(he:bz X e ty)(aH:bz X f Fb)(m:ZS X o "get" e6 e f f8):bz X (.Call (.Attribute o "get" e6) [e,f] [] f8) (Vh eS ty Fb):=by
 intro aa s σ H Q I h;refine NU m.base m.c_ m.line FN xI Xg (bJ (aZ aa s σ H _ I h) λu s1 ⟨x,H1,aW,bt,a,ex,d,ao⟩=>?_);subst ex;obtain rfl:u=Value.ref a:=bt;obtain⟨fm,dw,_⟩:=DG aW d;refine⟨fm,dw,?_⟩;rw[m.trees];refine A7 rfl (Ft (uW (bJ (he aa s1 σ H1 _ aW ao) λiU s2 ⟨y,H2,bU,br,bZ⟩=>
  uW (bJ (aH aa s2 σ H2 _ bU bZ) λaqc s3 ⟨z,H3,b9,n6,eL,g,fk⟩=>xn ?_))))
 exact ab' aD b9 g br n6 λfq fI iI m_=>⟨_,H3,iI,m_,fk⟩
end
section
variable{X:bp}{aa:List (O×b_)}{σ:St}{H:ak}{s:aM}{a:O}{kvs:List (bM×V)}{A:d0}{E:aj->aM->Prop}
def ab6{Q:aj->aM->Prop}(I:Inv X aa σ H s)(e:ec H a (.a7 kvs))(h:∀p s',H p=none->Inv X aa σ (a1 H p (.a7 kvs)) s'->Q (.ref p) s'):wpAny (model X.prog X.w) A (call (.type "dict") [.ref a]) Q E s:=by
 obtain⟨z,hd,vs,rel,bN⟩:=lZ I.a' e;refine kt_call_dict hd bN (by rw[<- rel.length];exact z) λh' nL aS=>?_
 refine h _ _ (I.a'.fresh (c9 _)) (I.laid (a:=s.heap.objs.size) (o:=.a7 kvs) (t':=s.toks) (λb q a9=>?_) (c9 _) (zd z (beq_eq_false_iff_ne.mpr (Ne.symm (d3 I.big))) rel nL));exact(aS.2 b (d3 (dm a9))).trans (cV _ a9)
end
section
end
end bu
namespace hv
open PySem PyProof.Rows
section
open PySem.SeqAt
open PySem.AutoSeq1 (wpAny_loadPart')
open PySem.MeetsSeq PySem.MeetsSeq2 PySem.MeetsSeq3
end
section
def iY(n d:Nat):Option Int->Nat
 | none=>d
 | some v=>if v < 0 then(v+(n:Int)).toNat else min v.toNat n
def Le(n d:Nat):iY n d none=d:=rfl
def UO(n d k:Nat):iY n d (some (k:Int))=min k n:=by
 show(if(k:Int)< 0 then((k:Int)+(n:Int)).toNat else min (k:Int).toNat n)=min k n
 rw[if_neg (by omega),Int.toNat_natCast]
end
end hv
namespace bu
open PySem PySem.Spec PyProof.Rows
abbrev TO:=St->ak->(Option Int->ak->Prop)->Prop
def Co(X:bp)(e:Option ck)(t:TO):Prop:=
 ∀(aa:List (O×b_))(s:aM)(σ:St)(H:ak)(Q:Option Int->ak->Prop),Inv X aa σ H s->t σ H Q->
  wpAny (model X.prog X.w) X.A (evalPart e X.env) (λu s'=>∃o H',Inv X aa σ H' s'/\IsPart u o/\Q o H') X.cb s
def Vq:TO:=λ_ H Q=>Q none H
def Vv(t:TE):TO:=λσ H Q=>t σ H λx H1=>∃i,x= .int i/\Q (some i) H1
section
variable{X:bp}{e:ck}{te:TE}{lo au:Option ck}{gz kq:TO}{pos cL:d1}
def Au:Co X none Vq:=by
 intro aa s σ H Q I h;rw[XM];exact bC ⟨none,H,I,.none,h⟩
def Av(h:bz X e te):Co X (some e) (Vv te):=by
 intro aa s σ H Q I b0;rw[evalPart_some];refine bJ (h aa s σ H _ I b0) λu s1 ⟨x,H1,aW,b4,ao⟩=>?_;obtain⟨i,rfl,q⟩:=ao;obtain⟨t,rfl⟩:=b4;exact⟨some i,H1,aW,.int i t,q⟩
def G5(X:bp)(r:V->Option Int->Option Int->ak->c3->Prop):Prop:=
 ∀(aa:List (O×b_))(s:aM)(σ:St)(H:ak)(x:V)(v qc gJ:aj)(lo au:Option Int)(fy:O)(Q:c3),Inv X aa σ H s->RelV x v->s.heap.IsSliceOf fy qc gJ .none->IsPart qc lo->IsPart gJ au->r x lo au H Q->
  ∃T id,typeLookup (.type T) "__getitem__"=pure (some (.builtin id))/\s.TypeIs v T/\wpAny (model X.prog X.w) X.A (getItem v (.ref fy)) (gj X aa σ Q) X.cb s
def MB(r:V->Option Int->Option Int->ak->c3->Prop)(te:TE)(gz kq:TO):TE:=λσ H Q=>te σ H λx H1=>gz σ H1 λl H2=>kq σ H2 λu H3=>r x l u H3 Q
def Aq(aA:G5 X r)(he:bz X e te)(ar:Co X lo gz)(aD:Co X au kq):bz X (.Subscript e (.Slice lo au none cL) pos) (MB r te gz kq):=by
 intro aa s σ H Q I h;refine NJ (bJ (he aa s σ H _ I h) λv s1 ⟨x,H1,aW,b4,ao⟩=>?_);refine wpAny_Slice (bJ (ar aa s1 σ H1 _ aW ao) λqc s2 ⟨l,H2,bU,pl,bZ⟩=>bJ (aD aa s2 σ H2 _ bU bZ) λgJ s3 ⟨u,H3,b9,wN,fk⟩=>?_);rw[XM];refine bC ?_;have iI:Inv X aa σ H3 {s3 with heap:=s3.heap.push {cls:=.type "slice",data:=.fields #[qc,gJ,.none]}}:=b9.kept (t':=s3.toks) λb bW q=>cV _ q
 obtain⟨T,id,de,cj,bl⟩:=aA aa {s3 with heap:=s3.heap.push {cls:=.type "slice",data:=.fields #[qc,gJ,.none]}} σ H3 x v qc gJ l u s3.heap.objs.size Q iI b4 (ao1 ..) pl wN fk
 show wpAny (model X.prog X.w) X.A (subscriptTail e (.Slice lo au none cL) v (.ref s3.heap.objs.size)) (gj X aa σ Q) X.cb {s3 with heap:=s3.heap.push {cls:=.type "slice",data:=.fields #[qc,gJ,.none]}}
 exact tail_any (ops:=[.ref s3.heap.objs.size,v]) cj de bl (by with_unfolding_all rfl)
def r4(xs:List V)(lo au:Option Int):List V:=(xs.drop (hv.iY xs.length 0 lo)).take (hv.iY xs.length xs.length au - hv.iY xs.length 0 lo)
def abj(xs:List V)(lo au:Option Int):(r4 xs lo au).length<=xs.length:=by
 unfold r4;rw[WO,Fz];omega
end
def sv(n:Nat)(i:Int):Option Nat:=if 0<=i then(if i < n then some i.toNat else none)else if -(n:Int)<=i then some (i+n).toNat else none
def jM{α:Type}(xs:List α)(i:Int):Option α:=(sv xs.length i).bind λj=>xs[j]?
def So(h:sv n i=some j):seqIndex? i n=some j/\j < n/\-(n:Int)<=i/\i < n:=by
 unfold sv at h;by_cases bE:0<=i
 ·rw[if_pos bE]at h;by_cases h1:i < n
  ·rw[if_pos h1]at h;have e:i.toNat=j:=hW h;exact⟨by rw[NR bE h1,e],by omega,by omega,h1⟩
  ·rw[if_neg h1]at h;cases h
 ·rw[if_neg bE]at h;by_cases h1: -(n:Int)<=i
  ·rw[if_pos h1]at h;have e:(i+n).toNat=j:=hW h;exact⟨by rw[seqIndex_neg (by omega) h1,e],by omega,h1,by omega⟩
  ·rw[if_neg h1]at h;cases h
def Hd{α:Type}{xs:List α}{i:Int}{v:α}(h:jM xs i=some v):∃j,seqIndex? i xs.length=some j/\xs[j]? =some v/\j < xs.length/\-(xs.length:Int)<=i/\i < xs.length:=by
 unfold jM at h;cases e:sv xs.length i with
 | none=>rw[e]at h;cases h
 | some j=>
  rw[e]at h;obtain⟨h1,h2,aN,h4⟩:=So e;exact⟨j,h1,h,h2,aN,h4⟩
def yK{α:Type}{xs:List α}{j:Nat}{v:α}(h:xs[j]? =some v):jM xs (j:Int)=some v:=by
 have a2:j < xs.length:=(hf.mp h).1;have e:sv xs.length (j:Int)=some j:=by
  unfold sv;rw[if_pos (by omega),if_pos (by omega)];simp
 unfold jM;rw[e];exact h
def Z6(b:ck):Prop:=∀o i,subscripted b false o i=operate [o,i] (getItem o i)
def nA(X:bp)(r:iJ):Prop:=
 ∀(value slice:ck)(aa:List (O×b_))(s:aM)(σ:St)(H:ak)(x y:V)(v u:aj)(Q:c3),Inv X aa σ H s->RelV x v->RelV y u->r x y H Q->
  subscripted slice false v u=operate [v,u] (getItem v u)->wpAny (model X.prog X.w) X.A (subscriptTail value slice v u) (gj X aa σ Q) X.cb s
def Z5(X:bp)(id:String)(r:V->List V->ak->c3->Prop):Prop:=
 ∀(aa:List (O×b_))(s:aM)(σ:St)(H:ak)(x:V)(xs:List V)(v:aj)(us:List aj)(Q:c3),Inv X aa σ H s->RelV x v->cz xs us->r x xs H Q->
  wpAny (model X.prog X.w) X.A (call (.builtin id) (v::us)) (gj X aa σ Q) X.cb s
section
variable{X:bp}{a b:ck}{aP tb:TE}{pos:d1}
def hD(aA:nA X r)(af:bz X a aP)(ab:bz X b tb)(aS:Z6 b):bz X (.Subscript a b pos) (nc r aP tb):=by
 intro aa s σ H Q I h;exact NJ (Hm af ab I h λv u s2 x y H2 bU bt br q=>aA a b aa s2 σ H2 x y v u Q bU bt br q (aS _ _))
def n5(K:b5):iJ:=λx y H Q=>∃p xs i v,x= .ref p/\y= .int i/\cS K H p xs/\jM xs i=some v/\Q v H
def EE(K:b5):iJ:=λx y H Q=>∃p xs i v,x= .ref p/\y= .int i/\gL K H p xs/\jM xs i=some v/\Q v H
def Uv:iJ:=λx y H Q=>∃z i c,x= .str z/\y= .int i/\z.length<=sizeLine/\jM z.cps.toList i=some c/\Q (.str ⟨#[c]⟩) H
def iw:nA X (n5 X.K):=by
 intro value slice aa s σ H x y v u Q I bt br h aS;obtain⟨p,xs,i,z,rfl,rfl,a9,he,q⟩:=h;cases bt;obtain⟨t,rfl⟩:=br;obtain⟨its,r,pl,hz⟩:=I.list a9;obtain⟨j,h1,h2,aN,h4,cE⟩:=Hd he;obtain⟨w,C5,m_⟩:=r.get h2;have ar:=r.length;have ba:=ug;have dq:gj X aa σ Q w s:=⟨z,H,I,m_,q⟩;by_cases bE:0<=i
 ·have a2:i.toNat=j:=by
   rw[NR bE cE]at h1;exact hW h1
  exact item_listR pl.isList bE (by omega) (by rw[a2];simpa using C5) dq aS
 ·have a2:(i+(its.toArray.size:Int)).toNat=j:=by
   rw[seqIndex_neg (by omega) h4]at h1
   rw[hV, <- ar];exact hW h1
  exact XZ (x:=w) pl.isList.typeIs XS.lookup
   (wpAny_getItem_list_neg (Q:=λr s'=>r=w/\gj X aa σ Q r s') pl.isList (by omega) (by rw[hV]<;>omega) (by omega) (by rw[a2];simpa using C5) ⟨rfl,dq⟩) aS
def Sp:nA X (EE X.K):=by
 intro value slice aa s σ H x y v u Q I bt br h aS;obtain⟨p,xs,i,z,rfl,rfl,a9,he,q⟩:=h;cases bt;obtain⟨t,rfl⟩:=br;obtain⟨its,r,pl,hz⟩:=I.tuple a9;obtain⟨j,h1,h2,aN,h4,cE⟩:=Hd he;obtain⟨w,C5,m_⟩:=r.get h2;have ar:=r.length;have ba:=ug;have dq:gj X aa σ Q w s:=⟨z,H,I,m_,q⟩;exact XZ (x:=w) pl.typeIs slot_tuple_getitem.lookup
  (getItem_tuple (j:=j) (Q:=λr s'=>r=w/\gj X aa σ Q r s') pl (by omega) (by omega) (by rw[hV, <- ar];exact h1) (by simpa using C5) ⟨rfl,dq⟩) aS
def ah1:nA X Uv:=by
 intro value slice aa s σ H x y v u Q I bt br h aS;obtain⟨z,i,c,rfl,rfl,hz,he,q⟩:=h;obtain⟨t,rfl⟩:=bt;obtain⟨t',rfl⟩:=br;obtain⟨j,h1,h2,aN,h4,cE⟩:=Hd he;have ar:z.cps.toList.length=z.length:=by simp[Str.length]
 rw[ar]at h1 h4 cE;have ba:=ug;exact tail_any (NS s z t) slot_str_getitem.lookup (getItem_str (c:=c) (by
  have ag:decide (i < -(2 ^ 63:Int))=false:=decide_eq_false (by omega)
  have aF:decide (i≥2 ^ 63)=false:=decide_eq_false (by omega)
  rw[ag,aF,V5]) (by rw[h1];simpa using h2) ⟨.str ⟨#[c]⟩,H,I.tok _,⟨_,rfl⟩,q⟩) aS
def aiX(its:List aj)(n j:Nat)(u:aj):ol (·.setIfInBounds j u) {cls:=.type "list",data:=.seq its.toArray n}={cls:=.type "list",data:=.seq (its.set j u).toArray n}:=by
 simp[ol]
def Inv.lst{aa:List (O×b_)}{σ:St}{H:ak}{s:aM}{p:O}{xs:List V}(I:Inv X aa σ H s)(h:H p=some (.lst xs)):
  ∃(its:List aj)(n:Nat),cz xs its/\s.heap.get? p=some {cls:=.type "list",data:=.seq its.toArray n}/\xs.length<=sizeLine:=by
 obtain⟨z,its,n,r,e⟩:=I.a' p _ h;exact⟨its,n,r,e,z⟩
def Inv.aiQ{H:ak}{its its':List aj}{f:b_->b_}(I:Inv X aa σ H s)(h:H p=some (.lst xs))
  (aZ:s.heap.get? p=some {cls:=.type "list",data:=.seq its.toArray n})(aH:f {cls:=.type "list",data:=.seq its.toArray n}={cls:=.type "list",data:=.seq its'.toArray q0})(r:cz ys its')(hz:ys.length<=sizeLine)(t:Nat):
  Inv X aa σ (a1 H p (.lst ys)) {s with heap:=s.heap.update p f,toks:=t}:=by
 have e:(s.heap.update p f).get? p=some {cls:=.type "list",data:=.seq its'.toArray q0}:=by
  rw[mr f aZ (by rw[aH]<;>rfl),aH]
 refine I.write (x:=p) (e:=p) (by rw[h];trivial) (.inl rfl) (λb u ab q=>(lR _ _ (Ne.symm ab)).trans q) ⟨_,e⟩ ?_
 exact⟨hz,its',q0,r,e⟩
def K5:V->V->V->ak->(ak->Prop)->Prop:=λo i v H Q=>∃p xs k j,o= .ref p/\i= .int k/\H p=some (.lst xs)/\sv xs.length k=some j/\Q (a1 H p (.lst (xs.set j v)))
def wY:OV X K5:=by
 intro aa s σ H o i v eL iU u Q I ro amh cf h;obtain⟨p,xs,k,j,rfl,rfl,aB,a2,q⟩:=h;cases ro;obtain⟨t,rfl⟩:=amh;obtain⟨its,n,r,aZ,hz⟩:=I.lst aB;obtain⟨h1,h2,aN,h4⟩:=So a2;have ar:=r.length;have ba:=ug;have dX:Inv X aa σ (a1 H p (.lst (xs.set j v))) {s with heap:=s.heap.update p (ol (·.setIfInBounds j u))}:=
  I.aiQ aB aZ (aiX its n j u) (r.set cf j) (by rw[rC];exact hz) s.toks
 by_cases bE:0<=k
 ·have aw:k.toNat=j:=by
   rw[NR bE h4]at h1;exact hW h1
  exact PySem.W.ki_setAt aZ bE (by omega) (by rw[hV, <- ar];exact h4) (by rw[aw];exact⟨_,dX,q⟩)
 ·have aw:(k+(its.toArray.size:Int)).toNat=j:=by
   rw[seqIndex_neg (by omega) aN]at h1
   rw[hV, <- ar];exact hW h1
  exact PySem.W.ki_setBack aZ (by omega) (by rw[hV, <- ar];exact aN) (by omega) (by rw[aw];exact⟨_,dX,q⟩)
def anj(lo au:Option Int)(n:Nat):(sliceBounds lo au none n).1=((hv.iY n 0 lo:Nat):Int)/\(sliceBounds lo au none n).2.1=((hv.iY n n au:Nat):Int)/\(sliceBounds lo au none n).2.2=1:=by
 refine⟨?_,?_,rfl⟩
 ·cases lo with
  | none=>simp[sliceBounds,hv.iY]
  | some i=>
   simp only[sliceBounds,hv.iY,W7,show(1:Int)> 0 by decide,if_true]
   by_cases h:i < 0
   ·simp only[h,if_true]<;>omega
   ·simp only[h,if_false]<;>omega
 ·cases au with
  | none=>simp[sliceBounds,hv.iY]
  | some i=>
   simp only[sliceBounds,hv.iY,W7,show(1:Int)> 0 by decide,if_true]
   by_cases h:i < 0
   ·simp only[h,if_true]<;>omega
   ·simp only[h,if_false]<;>omega
def ani(its:List aj)(lo au:Option Int):slicePick its.toArray lo au none=((its.drop (hv.iY its.length 0 lo)).take (hv.iY its.length its.length au - hv.iY its.length 0 lo)).toArray:=by
 obtain⟨h1,h2,aN⟩:=anj lo au its.toArray.size;unfold slicePick;rw[h1,h2,aN];simp only[sliceRange_one,pick_run,hV]<;>rfl
def Ux(K:b5):V->Option Int->Option Int->ak->c3->Prop:=λx lo au H Q=>∃a xs,x= .ref a/\cS K H a xs/\∀p,H p=none->Q (.ref p) (a1 H p (.lst (r4 xs lo au)))
def L8:G5 X (Ux X.K):=by
 intro aa s σ H x v qc gJ lo au fy Q I bt aS pl wN h;obtain⟨a,xs,rfl,ah,q⟩:=h;cases bt;obtain⟨its,r,cj,hz⟩:=I.list ah;have eh:=r.length;refine⟨"list",_,XS.lookup,cj.isList.typeIs,?_⟩;refine wpAny_getItem_list_slice cj.isList aS pl wN .none (by simp) ?_ (by rw[hV]<;>omega)
 rw[ani, <- eh];refine⟨.ref s.heap.objs.size,_,I.laid (t':=s.toks) (o:=.lst (r4 xs lo au)) (λb bW q=>cV _ q) (c9 _) ?_,rfl,q _ (I.a'.fresh (c9 _))⟩;exact⟨gX (abj xs lo au) hz,_,0,(r.drop (hv.iY xs.length 0 lo)).take (hv.iY xs.length xs.length au - hv.iY xs.length 0 lo),eT _ rfl⟩
def mP:V->Bool
 | .bb=>true
 | .aG _=>true
 | .int _=>true
 | .str _=>true
 | _=>false
def pI:V->V->Bool
 | .bb,.bb=>true
 | .aG a,.aG b=>a==b
 | .aG a,.int b=>(if a then 1 else 0)==b
 | .int a,.aG b=>a==(if b then 1 else 0)
 | .int a,.int b=>a==b
 | .str a,.str b=>a==b
 | _,_=>false
def ad2(br:RelV y u)(bt:RelV x v)(afp:mP y=true)(mQ:mP x=true):Bk A s u v (pI y x):=by
 cases y with
 | bb=>
  cases br;cases x with
  | bb=>cases bt;exact Xr _
  | aG b=>cases bt;exact apz b
  | int b=>obtain⟨t,rfl⟩:=bt;exact apA b t
  | str b=>obtain⟨t,rfl⟩:=bt;exact apB b t
  | _=>exact absurd (show false=true from mQ) hG
 | aG a=>
  cases br;cases x with
  | bb=>cases bt;exact apu a
  | aG b=>cases bt;exact aps a b
  | int b=>obtain⟨t,rfl⟩:=bt;exact apt a b t
  | str b=>obtain⟨t,rfl⟩:=bt;exact apv a b t
  | _=>exact absurd (show false=true from mQ) hG
 | int a=>
  obtain⟨t',rfl⟩:=br;cases x with
  | bb=>cases bt;exact apy a t'
  | aG b=>cases bt;exact apw a t' b
  | int b=>obtain⟨t,rfl⟩:=bt;exact apx a t' b t
  | str b=>obtain⟨t,rfl⟩:=bt;exact Xq a t' b t
  | _=>exact absurd (show false=true from mQ) hG
 | str a=>
  obtain⟨t',rfl⟩:=br;cases x with
  | bb=>cases bt;exact apE a t'
  | aG b=>cases bt;exact apD a t' b
  | int b=>obtain⟨t,rfl⟩:=bt;exact Xs a t' b t
  | str b=>obtain⟨t,rfl⟩:=bt;exact apF a t' b t
  | _=>exact absurd (show false=true from mQ) hG
 | _=>exact absurd (show false=true from afp) hG
def lg(x:V)(u:aj):Bool:=match u with
 | .none=>pI .bb x
 | .bool b=>pI (.aG b) x
 | .int i _=>pI (.int i) x
 | .str z _=>pI (.str z) x
 | _=>false
def P5(r:RelV y u)(f:mP y=true):lg x u=pI y x:=by
 cases y with
 | bb=>cases r;rfl
 | aG b=>cases r;rfl
 | int i=>obtain⟨t,rfl⟩:=r;rfl
 | str z=>obtain⟨t,rfl⟩:=r;rfl
 | _=>exact absurd (show false=true from f) hG
def yJ:∀{xs:List V}{us:List aj},cz xs us->xs.all mP=true->us.any (lg x)=xs.any λy=>pI y x
 | _,_,.nil,_=>rfl
 | y::xs,u::us,.cons r t,f=>by
  rw[xu,jB]at f;rw[s8,s8,P5 r f.1,yJ t f.2]
def Aa(bt:RelV x v)(mQ:mP x=true):∀{xs:List V}{us:List aj},cz xs us->xs.all mP=true->∀u∈us,Bk A s u v (lg x u)
 | _,_,.nil,_=>λu aD=>by cases aD
 | y::xs,u::us,.cons r t,f=>λfg aD=>by
  rw[xu,jB]at f;rcases dR.mp aD with rfl | aD
  ·rw[P5 r f.1];exact ad2 r bt f.1 mQ
  ·exact Aa bt mQ t f.2 fg aD
def wh(x:V)(xs:List V):Bool:=xs.any λy=>pI y x
def K3(K:b5)(jR:Bool):iJ:=λx y H Q=>∃p xs,y= .ref p/\(cS K H p xs∨gL K H p xs)/\mP x=true/\xs.all mP=true/\Q (.aG (if jR then !wh x xs else wh x xs)) H
def uv:f6 X (compareOp .In) (K3 X.K false):=by
 intro aa s σ H x y v u Q I bt br h;obtain⟨p,xs,rfl,a9,mQ,fs,q⟩:=h;cases br;rcases a9 with a9 | a9
 ·obtain⟨its,r,pl,hz⟩:=I.list a9;refine SeqAt.in_listAt (lg x) pl.isList (λw b0=>Aa bt mQ r fs w (by simpa using b0)) ⟨.aG _,H,I,rfl,?_⟩
  rw[show its.toArray.any (lg x)=its.any (lg x) by simp,yJ r fs]
  exact q
 ·obtain⟨its,r,pl,hz⟩:=I.tuple a9;refine SeqAt.in_tupleAt (lg x) pl (λw b0=>Aa bt mQ r fs w (by simpa using b0)) ⟨.aG _,H,I,rfl,?_⟩
  rw[show its.toArray.any (lg x)=its.any (lg x) by simp,yJ r fs]
  exact q
def wF:f6 X (compareOp .NotIn) (K3 X.K true):=by
 intro aa s σ H x y v u Q I bt br h;obtain⟨p,xs,rfl,a9,mQ,fs,q⟩:=h;cases br;rcases a9 with a9 | a9
 ·obtain⟨its,r,pl,hz⟩:=I.list a9;refine SeqAt.notIn_listAt (lg x) pl.isList (λw b0=>Aa bt mQ r fs w (by simpa using b0)) ⟨.aG _,H,I,rfl,?_⟩
  rw[show its.toArray.any (lg x)=its.any (lg x) by simp,yJ r fs]
  exact q
 ·obtain⟨its,r,pl,hz⟩:=I.tuple a9;refine SeqAt.notIn_tupleAt (lg x) pl (λw b0=>Aa bt mQ r fs w (by simpa using b0)) ⟨.aG _,H,I,rfl,?_⟩
  rw[show its.toArray.any (lg x)=its.any (lg x) by simp,yJ r fs]
  exact q
def pF:ji X (.builtin "len") (λxs H Q=>∃p ys,xs=[.ref p]/\(cS X.K H p ys∨gL X.K H p ys)/\Q (.int ys.length) H):=by
 intro aa s σ H xs us Q I r h;obtain⟨p,ys,rfl,a9,q⟩:=h;obtain⟨u,rfl,bt⟩:=vals1 r;cases bt;have ba:=ug;rcases a9 with a9 | a9
 ·obtain⟨its,dA,pl,hz⟩:=I.list a9;have eh:=dA.length;exact Calls.call_len_list pl.isList (by simp only[hV]<;>omega) ⟨.int ys.length,H,I.tok _,⟨s.toks+1,by rw[hV,eh]⟩,q⟩
 ·obtain⟨its,dA,pl,hz⟩:=I.tuple a9;have eh:=dA.length;exact len_tuple pl (by simp only[hV]<;>omega) ⟨.int ys.length,H,I.tok _,⟨s.toks+1,by rw[hV,eh]⟩,q⟩
def Hq:ji X (.builtin "len") (λxs H Q=>∃z,xs=[.str z]/\z.length<=sizeLine/\Q (.int z.length) H):=by
 intro aa s σ H xs us Q I r h;obtain⟨z,rfl,hz,q⟩:=h;obtain⟨u,rfl,t,rfl⟩:=vals1 r;have ba:=ug;exact len_str (by omega) ⟨.int z.length,H,I.tok _,⟨_,rfl⟩,q⟩
def vJ:ji X (.type "list") (λxs H Q=>∃p ys,xs=[.ref p]/\(cS X.K H p ys∨gL X.K H p ys)/\∀l,H l=none->Q (.ref l) (a1 H l (.lst ys))):=by
 intro aa s σ H xs us Q I r h;obtain⟨p,ys,rfl,a9,q⟩:=h;obtain⟨u,rfl,bt⟩:=vals1 r;cases bt;have dq:∀(its:List aj),cz ys its->ys.length<=sizeLine->∀(h':cg)(c':Nat),(∀b o',s.heap.get? b=some o'->h'.get? b=some o')->
   h'.get? s.heap.objs.size=some {cls:=.type "list",dict:=none,data:=.seq its.toArray c',slots:= #[]}->gj X aa σ Q (.ref s.heap.objs.size) {s with heap:=h'}:=λits dA hz h' c' cD e=>
  ⟨.ref s.heap.objs.size,_,I.laid (t':=s.toks) cD (c9 _) (show fZ X.prog X.w _ h' _ (.lst ys)from⟨hz,its,c',dA,e⟩),rfl,q _ (I.a'.fresh (c9 _))⟩
 rcases a9 with a9 | a9
 ·obtain⟨its,dA,pl,hz⟩:=I.list a9;have eh:=dA.length;obtain⟨o,aZ,aL,n,hd⟩:=pl.isList;exact XH p (.inl rfl) aZ aL hd (λh' c' cD e=>dq its dA hz h' c' cD e) (by simp only[hV]<;>omega)
 ·obtain⟨its,dA,pl,hz⟩:=I.tuple a9;have eh:=dA.length;obtain⟨o,aZ,aL,n,hd⟩:=pl;exact XH p (.inr rfl) aZ aL hd (λh' c' cD e=>dq its dA hz h' c' cD e) (by simp only[hV]<;>omega)
def aa1:ji X (.type "tuple") (λxs H Q=>∃p ys,xs=[.ref p]/\((cS X.K H p ys/\∀l,H l=none->Q (.ref l) (a1 H l (.tup ys)))∨(gL X.K H p ys/\Q (.ref p) H))):=by
 intro aa s σ H xs us Q I r h;obtain⟨p,ys,rfl,h⟩:=h;obtain⟨u,rfl,bt⟩:=vals1 r;cases bt;rcases h with⟨a9,q⟩ | ⟨a9,q⟩
 ·obtain⟨its,dA,pl,hz⟩:=I.list a9;have eh:=dA.length;refine call_tuple_list pl.isList (λh' cD=>?_) (by simp only[hV]<;>omega)
  have aW:Inv X aa σ H {s with heap:=h'}:=I.kept (t':=s.toks) cD
  have bU:Inv X aa σ (a1 H h'.objs.size (.tup ys)) {s with heap:=h'.push {cls:=.type "tuple",data:=.seq its.toArray}}:=
   aW.laid (t':=s.toks) (λb o e=>cV _ e) (c9 _) (show fZ X.prog X.w _ _ _ (.tup ys)from⟨hz,its,dA,IsTup.new _ _⟩)
  exact⟨.ref h'.objs.size,_,bU,rfl,q _ (aW.a'.fresh (c9 _))⟩
 ·obtain⟨its,dA,pl,hz⟩:=I.tuple a9;exact call_tuple_same pl ⟨.ref p,H,I,rfl,q⟩
def VI(K:b5)(T:String)(x:V)(H:ak):Prop:=match x with
 | .str _=>T="str"
 | .int _=>T="int"
 | .ref p=>(T="list"/\∃xs,cS K H p xs)∨(T="tuple"/\∃o,K.lookup p=some o/\o.cls= .type "tuple"/\o.dict=none)∨
   (T="dict"/\((∃kvs,H p=some (.a7 kvs))∨∃kvs,H p=some (.i5 kvs)))∨(T="set"/\∃S n,H p=some (.set S n))
 | _=>False
def an2{H:ak}(I:Inv X aa σ H s)(r:RelV x v)(ty:VI X.K T x H):
  s.TypeIs v T/\∀a,v= .ref a->∃bW,s.heap.get? a=some bW/\bW.dict=none:=by
 cases x with
 | str z=>
  obtain⟨t,rfl⟩:=r;cases(show T="str" from ty)
  exact⟨NS s z t,λ_ e=>nomatch e⟩
 | int i=>
  obtain⟨t,rfl⟩:=r;cases(show T="int" from ty)
  exact⟨typeIs_int s i t,λ_ e=>nomatch e⟩
 | ref p=>
  cases r;rcases ty with⟨rfl,xs,a9⟩ | ⟨rfl,o,aw,aL,hd⟩ | ⟨rfl,aw⟩ | ⟨rfl,S,n,aw⟩
  ·obtain⟨its,_,pl,_⟩:=I.list a9;refine⟨pl.isList.typeIs,λa e=>?_⟩;cases e;obtain⟨o,n,e,c,hd,_⟩:=pl;exact⟨o,e,hd⟩
  ·refine⟨⟨o,I.eo p o aw,aL⟩,λa e=>?_⟩;cases e;exact⟨o,I.eo _ o aw,hd⟩
  ·have z:∃o,s.heap.get? p=some o/\o.ExactDict:=by
    rcases aw with⟨kvs,aw⟩ | ⟨kvs,aw⟩
    ·obtain⟨_,_,_,_,o,_,_,e,ex,_⟩:=I.a' p _ aw;exact⟨o,e,ex⟩
    ·obtain⟨_,_,_,_,o,_,_,e,ex,_⟩:=I.a' p _ aw;exact⟨o,e,ex⟩
   obtain⟨o,e,ex⟩:=z;refine⟨⟨o,e,ex.1⟩,λa aF=>?_⟩;cases aF;exact⟨o,e,ex.2.1⟩
  ·obtain⟨o,_,_,_,e,ex,_⟩:=I.a' p _ aw;refine⟨⟨o,e,ex.1⟩,λa aF=>?_⟩;cases aF;exact⟨o,e,ex.2.1⟩
 | _=>exact ik ty
def Mu(K:b5)(T:String)(r:V->List V->ak->c3->Prop)(to:TE)(t:fi):TE:=λσ H Q=>to σ H λx H1=>VI K T x H1/\t σ H1 λxs H2=>r x xs H2 Q
variable{o e:ck}{es:List ck}{to:TE}{t:fi}{name:Str}{e6 f8:d1}{T id:String}{r:V->List V->ak->c3->Prop}
def En(Ej:PlainAttrs T)(slot:Slot T name id)(Jx:typeOf (.builtin id)=pure (.type "method_descriptor"))(bx:Z5 X id r)(aZ:bz X o to)(af:jJ X (e::es) t)
  (I4:attributeBase o name X.env (eval o X.env)=eval o X.env:=by rfl)
  (agO:((backTo f8 (starEach (e::es) X.env)).all (λx=>!x.1) && (backToKw f8 (keywordEach [] X.env)).all (λx=>x.1.isSome)
   && decide ((e::es).length+([]:List rB).length+(if([]:List rB).isEmpty then 0 else 1)< 30))=true:=by rfl)
  (Jh:(e6.endLine==f8.line)=true:=by rfl)(aS:oz X e es:=by rfl)(Jr:qn X f8 es:=by rfl):
  bz X (.Call (.Attribute o name e6) (e::es) [] f8) (Mu X.K T r to t):=by
 intro aa s σ H Q I h;refine wpAny_Call_method_late I4 agO Jh rfl (bJ (aZ aa s σ H _ I h) λv s1 ⟨x,H1,aW,b4,ty,ao⟩=>?_);obtain⟨h1,h2⟩:=an2 aW b4 ty;refine⟨T,id,Ej,slot,Jx,h1,h2,?_⟩;have h_:=af f8 aa s1 σ H1 _ aW ao;rw[aS]at h_ ⊢;refine A7 (by show(false || (backTo f8 (starEach es X.env)).any (·.1))=false;rw[Jr]<;>rfl) (Ft ?_)
 exact bJ h_ λus s2 ⟨vs,H2,bU,da,bZ⟩=>bx aa s2 σ H2 x vs v us Q bU b4 da bZ
end
def Z4(X:bp)(id:String)(r:V->List V->ak->c3->Prop):Prop:=
 ∀(aa:List (O×b_))(s:aM)(σ:St)(H:ak)(x:V)(xs:List V)(v:aj)(us:List aj)(Q:c3),Inv X aa σ H s->RelV x v->cz xs us->r x xs H Q->
  wpAny (model X.prog X.w) X.A (call (.builtin id) (v::us)) (gj X aa σ Q) X.cb s
def cz.zero:∀{us:List aj},cz [] us->us=[]
 | _,.nil=>rfl
def cz.hd{x:V}{xs:List V}:∀{us:List aj},cz (x::xs) us->∃u r,us=u::r/\RelV x u/\cz xs r
 | _,.cons r q=>⟨_,_,rfl,r,q⟩
def cz.one{x:V}(h:cz [x] us):∃u,us=[u]/\RelV x u:=by
 obtain⟨u,r,rfl,a,b⟩:=h.hd;exact⟨u,congrArg _ b.zero,a⟩
def cz.two{x y:V}(h:cz [x,y] us):∃u v,us=[u,v]/\RelV x u/\RelV y v:=by
 obtain⟨u,r,rfl,a,b⟩:=h.hd;obtain⟨v,rfl,c⟩:=b.one;exact⟨u,v,rfl,a,c⟩
def qU{α:Type _}{n:Nat}:∀{l:List α},l.length=n+1->∃a r,l=a::r/\r.length=n
 | a::r,h=>⟨a,r,rfl,W6 h⟩
def SO{α:Type _}{l:List α}(h:l.length=0):l=[]:=Nb h
def DN{α:Type _}{l:List α}(h:l.length=1):∃a,l=[a]:=by
 obtain⟨a,r,rfl,k⟩:=qU h;exact⟨a,congrArg _ (SO k)⟩
def JX{α:Type _}{l:List α}(h:l.length=2):∃a b,l=[a,b]:=by
 obtain⟨a,r,rfl,k⟩:=qU h;obtain⟨b,rfl⟩:=DN k;exact⟨a,b,rfl⟩
def wt{α:Type _}{l:List α}(h:l.length=3):∃a b c,l=[a,b,c]:=by
 obtain⟨a,r,rfl,k⟩:=qU h;obtain⟨b,c,rfl⟩:=JX k;exact⟨a,b,c,rfl⟩
section
variable{X:bp}{aa:List (O×b_)}{σ:St}{H:ak}{s:aM}{l:O}{xs ys:List V}
def Inv.aiP{its its':List aj}{f:Array aj->Array aj}{t':Nat}(I:Inv X aa σ H s)(si:H l=some (.lst xs))
  (e:s.heap.get? l=some {cls:=.type "list",data:=.seq its.toArray n})(aH:f its.toArray=its'.toArray)(bm:cz ys its')(hz:ys.length<=sizeLine):
  Inv X aa σ (a1 H l (.lst ys)) {s with heap:=s.heap.update l (ol f),toks:=t'}:=by
 have q:=PySem.IsL.update e f;rw[aH]at q;refine I.write (x:=l) (e:=l) (by rw[si];exact trivial) (.inl rfl) (λjN u ab aD=>(lR s.heap (ol f) (Ne.symm ab)).trans aD) ⟨_,q⟩ ?_
 exact⟨hz,its',_,bm,q⟩
def Inv.SN{t':Nat}(I:Inv X aa σ H s)(bm:cz ys its)(hz:ys.length<=sizeLine):
  Inv X aa σ (a1 H s.heap.objs.size (.lst ys)) {s with heap:=s.heap.push {cls:=.type "list",data:=.seq its.toArray},toks:=t'}:=
 I.laid (λ_ _ q=>cV _ q) (c9 _) ⟨hz,its,0,bm,eT _ rfl⟩
def Inv.fresh(I:Inv X aa σ H s):H s.heap.objs.size=none:=I.a'.fresh (c9 _)
def Inv.DQ(I:Inv X aa σ H s)(si:H l=some (.lst xs)):xs.length<=sizeLine/\∃(its:List aj)(n:Nat),cz xs its/\xs.length=its.length/\s.heap.get? l=some {cls:=.type "list",data:=.seq its.toArray n}:=by
 obtain⟨z,its,n,r,e⟩:=I.a' l _ si;exact⟨z,its,n,r,r.length,e⟩
end
section
variable{X:bp}
def K2:V->List V->ak->c3->Prop:=λx vs H Q=>∃l xs y,x= .ref l/\vs=[y]/\H l=some (.lst xs)/\xs.length < sizeLine/\Q .bb (a1 H l (.lst (xs++[y])))
def Ab:Z4 X "list.append" K2:=by
 intro aa s σ H x vs v us Q I bt cf h;obtain⟨l,xs,y,rfl,rfl,si,hz,q⟩:=h;cases bt;obtain⟨u,rfl,dO⟩:=cf.one;obtain⟨z,its,n,r,ar,e⟩:=I.DQ si;refine call_meets F.slot_list_append ⟨_,e,rfl⟩ F.entry_list_append (F.args_list_append_2 _ _) (PySem.list_append l its.toArray n u (by rw[hV];omega)) ⟨e,?_⟩
 refine⟨.bb,_,I.aiP (its':=its++[u]) si e (by simp) (r.append (.cons dO .nil)) ?_,rfl,q⟩
 rw[oc,List.length_singleton];omega
def Us:iJ:=λx y H Q=>∃l b xs kZ,x= .ref l/\y= .ref b/\H l=some (.lst xs)/\H b=some (.lst kZ)/\xs.length+kZ.length<=sizeLine/\∀p,H p=none->Q (.ref p) (a1 H p (.lst (xs++kZ)))
def TJ:f6 X (binaryOp .Add) Us:=by
 intro aa s σ H x y v u Q I bt br h;obtain⟨l,b,xs,kZ,rfl,rfl,si,pN,hz,q⟩:=h;cases bt;cases br;obtain⟨z,its,n,r,ar,e⟩:=I.DQ si;obtain⟨ek,Sl,fH,da,nS,aF⟩:=I.DQ pN;refine PySem.P.add_list e aF ?_ (by rw[hV,hV];omega)
 have aR:its.toArray++Sl.toArray=(its++Sl).toArray:=by simp
 rw[aR];exact⟨.ref _,_,I.SN (t':=s.toks) (r.append da) (by rw[oc];omega),rfl,q _ I.fresh⟩
end
section
end
section
end
end bu
namespace Ol
open PySem PySem.W PySem.Calls PyProof.Rows
def ahS:∀(ns:List Int)(vs:List aj),WellAll P h vs (ns.map WData.int)->A_ vs ns:=by
 intro ns;induction ns with
 | nil=>
  intro vs w;rw[Ni]at w;cases w;exact .nil
 | cons n ns b3=>
  intro vs w;rw[fM]at w;cases w with
  | cons a b=>
   cases a;exact .cons _ _ (b3 _ b)
def ana{l:OpenLaw}(ba:l.most=some n)
  (Dz:l.row.toRowW.claim.pre args=true)(Jz:WellAll P h vals args):
  ∃a vs ns,vals=[Value.ref a]/\args=[WData.list (ns.map WData.int)]/\h.get? a=some {cls:=.type "list",data:=.seq vs.toArray}/\A_ vs ns/\ns.length<=n:=by
 have ahw:WShape.hasAll [] args [.list .int]=true:=(pre_splitW Dz).1;have aL:l.pre.holds [] {args:=args}=true:=(pre_splitW Dz).2;obtain⟨d,r,rfl,h1,h2⟩:=hasAllW_cons ahw;obtain rfl:=hasAllW_nil h2;obtain⟨xs,rfl,aN⟩:=hasW_list h1;obtain⟨ns,rfl⟩:=items_int aN;have eh:ns.length<=n:=by
  unfold OpenLaw.pre at aL;have h4:(WTm.not (.lt (.lit (.int (n:Int))) (.len (.arg 0)))).holds [] {args:=[.list (ns.map .int)]}=true:=by
   have h4:=(holds_andW aL).1;rw[ba]at h4;exact h4
  have cE:=condW_of h4 (w_not (w_lt w_lit (w_len_list (w_arg rfl))));rw[dV]at cE;refine Bf λq=>?_;have q':(n:Int)< ((ns.length:Nat):Int):=by omega
  first
   | (rw[decide_eq_true q']at cE;exact absurd cE (by decide))
   | (simp at cE;omega)
 cases Jz with
 | cons n' qd=>
  cases qd;cases n' with
  | list aZ oQ=>exact⟨_,_,ns,rfl,rfl,aZ,ahS ns _ oQ,eh⟩
def alD(l:OpenLaw)(args:List WData):l.row.toRowW.claim.post args (.bool true) args=true:=
 postW_of (r:=l.row.toRowW) (X:=(true==true))
  (show XF [] (.bool true) .bool=true by first | rfl | decide | simp[XF,WShape.arms,WShape.armsAll])
  (show(WTm.eq .res (.lit (.bool true))).value [] {args:=args,res:=some (.bool true),after:=args}=some (.bool (true==true))from w_eq_bool (w_res rfl) w_lit) rfl
def aaD{l:OpenLaw}{r0:cH->cg->Prop}{d:DefRec}
  (ba:l.most=some n)(zQ:d.params.defaults=[])
  (call:∀(w:cH)(s₀ s₁:aM)(mg kQ:Str->Option aj)(i9:O)(o:b_)(dM cd fj:aj)(a:O)(vs:List aj)(ns:List Int),
   Ground q J3 [] G9 w s₀ mg kQ s₁.heap->r0 w s₁.heap->
   s₁.heap.get? i9=some o->o.data= .func (docDef d.name d.params d.body d.scope dM cd fj)->s₁.heap.CodeRec cd d.name->mg d.name=some (.ref i9)->
   s₁.heap.get? a=some {cls:=.type "list",data:=.seq vs.toArray}->A_ vs ns->ns.length<=n->s₁.gens= #[]->
   codeAny (model l.prog w) callerA (.call (.ref i9) ⟨[.ref a],[]⟩) (λr s'=>r= .ok (.ret (.bool true))/\OldK s₁.heap s'.heap/\s'.os=s₁.os/\qh s'.gens) s₁):
  WalkO q J3 G9 r0 l.row.toRowW d [] (λf vs=>NF f vs):=by
 intro w s₀ s₁ mg kQ b7 Y i9 o dM cd fj oH dF aZ hd kL lu Jl bl args vals as Dz aqj R0 Jz aql;obtain rfl:oH= .none:=Dflts.none lu zQ;obtain rfl:dF= .none:=Dflts.noKw lu;obtain⟨a,vs,ns,rfl,rfl,Jp,Jf,eh⟩:=ana ba Dz Jz;refine enter_call (pm (call w s₀ s₁ mg kQ i9 o dM cd fj a vs ns b7 Y aZ (fd_plain hd) kL Jl Jp Jf eh bl) λr s' a9=>?_);obtain⟨rfl,h2,aN,h4⟩:=a9;exact⟨.inl ⟨.bool true,.bool true,[],rfl,λ_=>rfl,.bool true,alD l _,λ_=>⟨List.Pairwise.nil,λ_ bx=>(nomatch bx)⟩⟩,h2,aN,h4⟩
section
end
end Ol
namespace bu
open PySem PySem.Spec PyProof.Rows
def VP:∀{vs:List aj}{ns:List Int},A_ vs ns->cz (ns.map V.int) vs
 | _,_,.nil=>.nil
 | _,_,.cons n t h=>.cons ⟨t,rfl⟩ (VP h)
def fx(s:cc)(j:Nat):cc:=match s with
 | .ClassDef _ _ _ body _ _ _ _ _ _ _=>body.getD j (.Pass ⟨0,0,0,0⟩)
 | _=>.Pass ⟨0,0,0,0⟩
def hO(s:cc):xk:=match s with
 | .FunctionDef _ a _ _ _ _ _ _ _ _=>a
 | _=>{posonlyargs:=[],args:=[],vararg:=none,kwonlyargs:=[],kw_defaults:=[],kwarg:=none,defaults:=[]}
def fE(s:cc):List cc:=match s with
 | .FunctionDef _ _ b _ _ _ _ _ _ _=>b
 | _=>[]
def bY(s:cc):gh:=match s with
 | .FunctionDef _ _ _ _ _ _ sc _ _ _=>sc
 | _=>{kind:=.function,names:=[],isGenerator:=false,isCoroutine:=false}
abbrev bq:kC:=λ_ _ _ _ _ _=>False
abbrev BB:eP:=λ_ _ _=>False
def er:kE bq X BB:=λ_ _ _ _ _ _ _ h=>h.elim
section
end
def ff(aA:dT k A):A.units+1 < cLine:=FH (Nat.add_le_add_left (by decide:1<=64) _) aA.units
def nb{n:Nat}(h:n<=1000):n < sizeLine:=FH h (by decide)
section
variable{X:bp}
def ae(i:Nat)(e9:X.N[i]? =some x:=by rfl)(bm:G8 X.env.scope x:=by first | exact bF rfl | exact oo (bF rfl) | exact oo (oo rfl))(hd:fC x:=by decide)
  (kL:(x==("__classdict__":Str))=false:=by decide):bz X (.Name x pos) (dP i):=alv e9 bm hd kL
end
def lB{A B:Prop}(h:B):if false=true then A else B:=by
 rw[if_neg hG];exact h
def wi{A B:Prop}(h:A):if true=true then A else B:=by
 rw[if_pos rfl];exact h
def JG{c A B:Prop}[Decidable c](h1:c->A)(h2:¬c->B):if c then A else B:=by
 by_cases h:c
 ·rw[if_pos h];exact h1 h
 ·rw[if_neg h];exact h2 h
def ahX{c A B:Prop}[Decidable c](aL:c)(h:B):if(!decide c)=true then A else B:=by
 rw[decide_eq_true aL];exact lB h
def mG(H H':ak):Prop:=∀b o,H b=some o->H' b=some o
def mG.refl(H:ak):mG H H:=λ_ _ h=>h
def mG.free(e:mG H H')(h:H' l=Option.none):H l=Option.none:=by
 cases q:H l with
 | none=>rfl
 | some o=>
  rw[e l o q]at h;cases h
section
variable{fA:Type}[DecidableEq fA]
end
section
variable{P:dn}{w:cH}{H H':ak}{h h1 h2:cg}{C:O}{fs ex:List O}
def eN.but(x:eN P w H h)(n:H C=none)(dU:i0 C h h2):eN P w H h2:=λb bW e=>by
 refine(x b bW e).p8 (λc v aL q=>(dU.2 c ?_).trans q) (λ_ q=>q) λ_ _ q=>q;rintro rfl;rcases aL with rfl | aL
 ·rw[n]at e;cases e
 ·rw[n]at aL;cases aL
def eV.but(u:eV fs ex H H' h h1)(dU:i0 C h1 h2)(n:h.get? C=none):eV fs ex H H' h h2:=by
 have ne:∀b o,h.get? b=some o->b≠C:=λb o e z=>by subst z;rw[n]at e;cases e
 refine⟨λb o e a c d=>(dU.2 b (ne b o e)).trans (u.keep b o e a c d),λb o e a c d=>?_,u.free,λb o e a=>?_,u.tups,u.l5,u.nd⟩
 ·obtain⟨fy,q⟩:=u.slot b o e a c d;exact⟨fy,(dU.2 b (ne b o e)).trans q⟩
 ·obtain⟨o',q⟩:=u.there b o e a;exact⟨o',(dU.2 b (ne b o e)).trans q⟩
end
def lY(X:bp)(N:List Str)(aX:gh)(cl:List (Str×O))(C:O)(s:aM)(H:ak)(fp:List O)(cv:List (O×b_)):bp where
 prog:=X.prog
 w:=X.w
 K:=X.K
 mg:=X.mg
 base:=X.base
 A:=X.A
 N:=N
 s₀:=s
 H₀:=H
 env:=compEnvC aX cl C X.env
 a3:=X.stack
 stack:=X.stack
 ex:=fp
 fn:=λ_=>false
 calm:=X.calm
 cv:=cv
 cb:=λ_ _=>False
def ov(X:bp)(aX:gh)(cl:List (Str×O)):List Str->List Nat->Prop
 | [],[]=>True
 | x::xs,i::is=>(X.N[i]? =some x/\X.env.scope.names.lookup x=some .cell/\((relabel aX X.env).names.lookup x=some .cell∨(relabel aX X.env).names.lookup x=some .free)/\∃c,cl.lookup x=some c)/\ov X aX cl xs is
 | _,_=>False
def ov.len:∀{xs:List Str}{is:List Nat},ov X aX cl xs is->xs.length=is.length
 | [],[],_=>rfl
 | _::_,_::_,h=>by
  have:=ov.len h.2;simp[this]
 | [],_::_,h=>h.elim
 | _::_,[],h=>h.elim
def ov.get:∀{xs:List Str}{is:List Nat}{j:Nat}{x:Str},ov X aX cl xs is->xs[j]? =some x->
  ∃i,is[j]? =some i/\X.N[i]? =some x/\X.env.scope.names.lookup x=some .cell/\((relabel aX X.env).names.lookup x=some .cell∨(relabel aX X.env).names.lookup x=some .free)/\∃c,cl.lookup x=some c
 | [],[],_,_,_,e=>by simp at e
 | _::_,i::_,0,_,h,e=>by
  simp at e;subst e;exact⟨i,rfl,h.1⟩
 | _::_,_::_,j+1,_,h,e=>by
  obtain⟨i,ag,aF⟩:=ov.get (j:=j) h.2 (by simpa using e)
  exact⟨i,by simpa using ag,aF⟩
 | [],_::_,_,_,h,_=>h.elim
 | _::_,[],_,_,h,_=>h.elim
def g1(own:List (Option V))(cap:List Nat)(σ:St):St:=own++cap.map λi=>(σ[i]?).getD none
structure rM(X:bp)(aX:gh)(cl:List (Str×O))(own:List Str)(caps:List Str)(cap:List Nat):Prop where
 kind:aX.kind= .function
 q3:∀y∈aX.names,y.2≠ .cell
 names:∀y∈aX.names,y.2= .local->aX.names.lookup y.1=some .local
 nJ:closureFor aX X.env=pure cl
 sub:∀x c,cl.lookup x=some c->X.env.cells.lookup x=some c
 has:∀y∈aX.names,y.2= .free->∃c,cl.lookup y.1=some c
 cap:ov X aX cl caps cap
def ame{aX:gh}(l_:∀y∈aX.names,y.2≠ .cell)(h:(relabel aX env).names.lookup x=some .cell∨(relabel aX env).names.lookup x=some .free):(x,xD)∈aX.names:=by
 obtain⟨nX,names,g,c,m⟩:=aX;have go:∀(l:List (Str×xC)),(∀y∈l,y.2≠ .cell)->
   ((l.map λ(n,k)=>if(k==xD && env.scope.kind== .function && env.kindOf n==some .cell)then(n,FG)else(n,k)).lookup x=some .cell∨
    (l.map λ(n,k)=>if(k==xD && env.scope.kind== .function && env.kindOf n==some .cell)then(n,FG)else(n,k)).lookup x=some .free)->(x,xD)∈l:=by
  intro l;induction l with
  | nil=>intro _ h;simp at h
  | cons y r b3=>
   obtain⟨n,k⟩:=y;intro l_ h;have Sg:=b3 λy b2=>l_ y (nq _ b2);rw[fM]at h;by_cases aL:(k==xD && env.scope.kind== .function && env.kindOf n==some .cell)=true
   ·have aw:k= .free:=by
     have:=aL;simp only[jB]at this;simpa using this.1.1
    subst aw;dsimp only at h;rw[if_pos aL]at h;simp only[k0]at h;cases ah:x==n with
    | true=>
     have:x=n:=by simpa using ah
     subst this;exact rD
    | false=>
     rw[ah]at h;exact nq _ (Sg h)
   ·dsimp only at h;rw[if_neg aL]at h;simp only[k0]at h;cases ah:x==n with
    | true=>
     have e:x=n:=by simpa using ah
     subst e;rw[ah]at h;rcases h with h | h
     ·have aw:k= .cell:=by simpa using h
      exact absurd aw (l_ (x,k) rD)
     ·have aw:k= .free:=by simpa using h
      subst aw;exact rD
    | false=>
     rw[ah]at h;exact nq _ (Sg h)
 exact go names l_ h
section
variable{X:bp}{aa:List (O×b_)}{σ:St}{H:ak}{s s':aM}{aX:gh}{cl:List (Str×O)}{own caps:List Str}{cap:List Nat}{fp:List O}
def abb(S:rM X aX cl own caps cap)(I:Inv X aa σ H s)(aH:∀b∈fp,hJ X aa H b/\b < s.heap.objs.size){h':cg}{tk:Nat}
  (ba:h'.Ns s.heap.objs.size λ_=>none)(k:∀b o,s.heap.get? b=some o->h'.get? b=some o):
  Inv (lY X (own++caps) aX cl s.heap.objs.size s H fp (X.cv++aa)) [] (g1 (own.map λ_=>none) cap σ) H {s with heap:=h',toks:=tk}:=by
 have fresh:H s.heap.objs.size=none:=I.a'.fresh (c9 _);refine⟨⟨I.ok.mod,S.kind,I.ok.glob,I.ok.blt,c9 _,λx y c ag aF=>I.ok.inj x y c (S.sub x c ag) (S.sub y c aF),λx ah=>?_,λx c z _=>MY (show false=true from z),I.ok.hd,I.ok.frames,.inl rfl,λb ab=>?_,I.bs,
   gX I.ok.kI I.lO,λb o e ab=>?_,λb ab z=>?_,I.stack,I.w4⟩,
  rfl,I.bare,eV.kept k,⟨_,ba,λi x v ag aF cU=>?_⟩,λx c e=>?_,fresh,λx c e=>I.iR x c (S.sub x c e),λp aB=>?_,I.a'.kept k,?_⟩
 ·exact S.has _ (ame S.q3 ah) rfl
 ·obtain⟨⟨_,_,_,_,h4,_⟩,lt⟩:=aH b ab;exact⟨d3 lt,λx c e=>h4 x c (S.sub x c e)⟩
 ·obtain⟨⟨_,_,_,aN,_,_⟩,_⟩:=aH b ab;rcases aN with z | z
  ·exact I.ok.sE b o e z
  ·exact absurd (i1 (dm e) (gX I.ok.kI z)) (rE _)
 ·obtain⟨⟨_,h1,h2,_,_,_⟩,_⟩:=aH b ab;rcases dR.mp (I.uL b z)with q | q
  ·exact h1 q
  ·exact h2 q
 ·
  have au:own.length<=i:=by
   by_cases au:i < own.length
   ·exfalso;unfold g1 at aF;rw[mw (by simpa using au),ft]at aF
    cases q:own[i]? with
    | none=>rw[q]at aF;cases aF
    | some z=>rw[q]at aF;cases aF
   ·omega
  have vS:caps[i - own.length]? =some x:=by
   have ag:(own++caps)[i]? =some x:=ag;rw[mx au]at ag;exact ag
  obtain⟨j,jq,vT,nN,cC,c,l1⟩:=S.cap.get vS;have tI:σ[j]? =some (some v):=by
   unfold g1 at aF;rw[mx (by simpa using au),dV,ft,jq]at aF
   have aF:(σ[j]?).getD none=some v:=by simpa using aF
   cases q:σ[j]? with
   | none=>rw[q]at aF;cases aF
   | some z=>rw[q]at aF;exact congrArg some aF
  obtain⟨m,_,ar⟩:=I.loc;obtain⟨u,r,l⟩:=ar j x v vT tI (.inr (.inl nN));refine⟨u,r,?_⟩;rcases l with⟨aw,_⟩ | ⟨_,c',zm,o,aZ,hd⟩
  ·have aw:X.env.scope.names.lookup x=some .local:=aw;rw[nN]at aw;cases aw
  ·have:=S.sub x c l1;rw[zm]at this;cases this;exact .inr ⟨cC,c,l1,o,k _ _ aZ,hd⟩
 ·obtain⟨v,o,aZ,hd⟩:=I.cell x c (S.sub x c e);exact⟨v,o,k _ _ aZ,hd⟩
 ·have aB:p∈(X.cv++aa)++[]:=aB;rw[mu]at aB;obtain⟨e,n,ne,eg,d⟩:=I.pin p aB;refine⟨k _ _ e,n,d3 (dm e),λz=>?_,d⟩;rcases dR.mp (I.uL p.1 z)with q | q
  ·exact ne q
  ·exact eg q
 ·show(g1 (own.map λ_=>none) cap σ).length=(own++caps).length;unfold g1;simp[S.cap.len]
def CP{C:O}(I:Inv X aa σ H s)(aH:∀b∈fp,hJ X aa H b)(qO:s.heap.get? C=none)
  (bP:Inv (lY X N aX cl C s H fp cv) lI σ' H' s')(dU:i0 C s'.heap h'):Inv X aa σ H' {s' with heap:=h'}:=by
 have u:eV (jO X.stack) fp H H' s.heap h':=eV.but (show eV (jO X.stack) fp H H' s.heap s'.heap from bP.base) dU qO
 refine I.r2 (s':={s' with heap:=h'}) (ch:=fp) bP.os u (bP.a'.but bP.free dU) bP.bare λb ab=>?_
 obtain⟨_,h1,_,aN,h4,cE⟩:=aH b ab;exact⟨aN,h1,h4,cE⟩
end
def tl(n:Nat)(g:gM):Prop:=∀x σ H Q,g x σ H Q->g x σ H λfX H2=>Q fX H2/\(∀i,n<=i->fX[i]? =σ[i]?)/\fX.length=σ.length
def l6{n i:Nat}(h:i < n):tl n (lr i):=λx σ H Q q=>by
 refine⟨q,λj a2=>?_,by simp⟩
 rw[j0 (by omega)]
def BA(bP:It)(g:gM)(te:TE)(S:St)(D:O)(H1:ak)(Q:c3):Prop:=
 ∃W:Nat->Nat->List V->ak->Prop,(∃m,W 0 m [] (a1 H1 D (.lst [])))/\∀i m ys dW,W i m ys dW->dW D=some (.lst ys)/\
  ((bP.stop i dW/\Q (.ref D) dW)∨(bP.go i dW/\ys.length < sizeLine/\∃N:c3,(∀y H3,N y H3->H3 D=some (.lst ys)/\∃e_,e_ < m/\W (i+1) e_ (ys++[y]) (a1 H3 D (.lst (ys++[y]))))/\
   ∀x H',bP.rx i dW x H'->g x S H' λfX H2=>te fX H2 N))
def E2(own:List Str)(ez:TI)(g:gM)(te:TE)(cap:List Nat):TE:=λσ H Q=>ez σ H λbP H1=>∀D,H1 D=none->BA bP g te (g1 (own.map λ_=>none) cap σ) D H1 Q
section
end
def abf{bP:It}{g:gM}{te:TE}{Q:c3}(n:Nat)(kF:Nat->List V->ak->Prop)(ba:n < sizeLine)(bE:kF 0 [] (a1 H1 D (.lst [])))
  (lu:∀i ys H,i<=n->kF i ys H->H D=some (.lst ys)/\ys.length<=i)(Jb:∀i ys H,i < n->kF i ys H->bP.go i H)(Jv:∀ys H,kF n ys H->bP.stop n H/\Q (.ref D) H)
  (step:∀i ys H x H',i < n->kF i ys H->bP.rx i H x H'->g x S H' λfX H2=>te fX H2 λy H3=>H3 D=some (.lst ys)/\kF (i+1) (ys++[y]) (a1 H3 D (.lst (ys++[y])))):
  BA bP g te S D H1 Q:=by
 refine⟨λi m ys H=>m=n - i/\i<=n/\kF i ys H,⟨n,rfl,j2 _,bE⟩,?_⟩;rintro i m ys H ⟨rfl,au,p⟩;obtain⟨d,l⟩:=lu i ys H au p;refine⟨d,?_⟩;by_cases eD:i < n
 ·exact .inr ⟨Jb i ys H eD p,by omega,_,λy H3 ⟨ao,bZ⟩=>⟨ao,n - (i+1),by omega,rfl,eD,bZ⟩,λx H' y=>step i ys H x H' eD p y⟩
 ·have e:i=n:=by omega
  subst e;exact .inl (Jv ys H p)
def GG(x:Str):It:=⟨λi _=>i < x.cps.size,λi H v H'=>H'=H/\∃c,x.cps[i]? =some c/\v= .str ⟨#[c]⟩,λi _=>x.cps.size<=i⟩
def VH{P:dn}{w:cH}{K:b5}{dH:ck}{it:O}{x:Str}{t:i3}{ty:String}(Jx: ["enumerate","zip","dict_itemiterator","dict_reverseitemiterator","odict_iterator","itertools.zip_longest","itertools.pairwise"].contains ty=false)
  (W:∀A:d0,A.handled=none->Bn P w A it [it] [it] x.cps.size (SignAt x) (λi h=>h.IsStrIter it ty x t i))
  (ahv:∀(A:d0)(i:Nat)(s:aM)(Q:aj->aM->Prop)(E:aj->aM->Prop),s.heap.IsStrIter it ty x t i->Q (.ref it) s->wpAny (model P w) A (pyIter (.ref it)) Q E s):vx P w K dH (GG x) [it] it (λi h=>i<=x.cps.size/\h.IsStrIter it ty x t i) where
 mem:=by simp
 obj:=λi h st b ab=>by
  have e:b=it:=by simpa using ab
  subst e;obtain⟨o,e,c,d⟩:=st.2;exact⟨o,e,λv z=>by rw[d]at z;cases z⟩
 keep:=λi h h' st k=>by
  obtain⟨l,o,e,r⟩:=st;exact⟨l,o,k it (by simp) o e,r⟩
 item:=by
  intro X dj b0 iS aL i aa s σ H E I aH st bl;subst dj b0 iS;obtain⟨iv,f1,fF,dc,hh,hx⟩:=aH it (by simp)
  refine(W X.A (I.ok.hd aL)).item i s _ _ bl st.2 λv h' tk bm iZ kk=>?_;obtain⟨c,u,v',rfl⟩:=bm;have aW:Inv X aa σ H {s with heap:=h',toks:=tk}:=I.turned (λb o ab e=>kk b o (by simpa using ab) e) iv f1 dc hh hx
  obtain⟨o,e,d_,d⟩:=id iZ;exact⟨_,rfl,Dj (s:={s with heap:=h',toks:=tk}) (n:=ty) e d_ d Jx ⟨.str ⟨#[c]⟩,H,aW,⟨u,rfl⟩,⟨rfl,c,v',rfl⟩,⟨bl,iZ⟩,λb ab=>(aH b ab).1⟩⟩
 done:=by
  intro X dj b0 iS aL i aa s σ H E I aH st bl;subst dj b0 iS;obtain⟨iv,f1,fF,dc,hh,hx⟩:=aH it (by simp)
  have e:i=x.cps.size:=Nat.le_antisymm st.1 bl;subst e;exact(W X.A (I.ok.hd aL)).done s _ _ st.2 λh' tk kk=>⟨rfl,I.turned (λb o ab e=>kk b o (by simpa using ab) e) iv f1 dc hh hx⟩
 self:=λA i s Q E st h=>ahv A i s Q E st.2 h
section
variable{X:bp}{dH:ck}{aa:List (O×b_)}{σ:St}{H:ak}{s:aM}{A:d0}{E:aj->aM->Prop}{Q:aj->aM->Prop}
def Sf(gz:TE):TI:=λσ H R=>gz σ H λx H1=>∃y,x= .str y/\R (GG y) H1
def T7{l:ck}{gz:TE}(ar:bz X l gz):mE X dH l (Sf gz):=by
 intro aa s σ H R I h;refine bJ (ar aa s σ H _ I h) λv s1 ⟨x,H1,aW,b4,ao⟩=>?_;obtain⟨y,e,q⟩:=ao;subst e;obtain⟨t,rfl⟩:=b4;have fp:∀b∈[s1.heap.objs.size],hJ X aa H1 b:=λb ab=>by
  have e:b=s1.heap.objs.size:=by simpa using ab
  subst e;exact aW.qJ (c9 _) (aW.a'.fresh (c9 _))
 cases af:y.cps.all (·< 128)
 ·refine wpAny_pyIter_wide af ⟨s1.heap.objs.size,[s1.heap.objs.size],_,_,H1,rfl,aW.kept (t':=s1.toks) λb o e=>cV _ e,
   VH (x:=y) (t:=t) (ty:="str_iterator") (by decide) (λA h_=>Walks.strWide h_ _ y t) (λA i s Q E st h=>wpAny_pyIter_striter_wide st h),⟨j2 _,_,eT _ rfl,rfl,rfl⟩,fp,q⟩
 ·refine wpAny_pyIter_ascii af ⟨s1.heap.objs.size,[s1.heap.objs.size],_,_,H1,rfl,aW.kept (t':=s1.toks) λb o e=>cV _ e,
   VH (x:=y) (t:=t) (ty:="str_ascii_iterator") (by decide) (λA h_=>Walks.strAscii h_ _ y t) (λA i s Q E st h=>wpAny_pyIter_striter_ascii st h),⟨j2 _,_,eT _ rfl,rfl,rfl⟩,fp,q⟩
end
section
variable{X:bp}
def VE{its:Array aj}{bs:List Bool}(r:cz (bs.map V.aG) its.toList):TruthOf prog w A (λi v=>its[i]? =some v) (λi=>bs.getD i false):=by
 intro i v s Q E dj eC;have e:its.toList[i]? =some v:=by simpa using dj
 have au:i < bs.length:=by
  have l:=r.length;have:=(hf.mp e).1;rw[dV]at l;omega
 obtain⟨u,aD,dO⟩:=r.get (i:=i) (x:=.aG bs[i]) (by simp[au])
 rw[e]at aD;cases aD;cases dO;have aF:bs.getD i false=bs[i]:=by simp[Ba,au]
 have eC:Q (bs.getD i false) s:=eC;rw[aF]at eC;exact rL eC
def al8(bs:List Bool):(List.range bs.length).all (λi=>bs.getD i false)=bs.all id:=by
 rw[pe,pg,pg];constructor
 ·intro h b ab;obtain⟨i,au,rfl⟩:=FE.mp ab;have:=h i (oi.mpr au);simpa[Ba,au]using this
 ·intro h i au;have au:=oi.mp au;have:=h bs[i] (Nd au);simpa[Ba,au]using this
def al9(bs:List Bool):(List.range bs.length).any (λi=>bs.getD i false)=bs.any id:=by
 rw[pe,uX,uX];constructor
 ·rintro⟨i,au,h⟩;have au:=oi.mp au;exact⟨bs[i],Nd au,by simpa[Ba,au]using h⟩
 ·rintro⟨b,ab,h⟩;obtain⟨i,au,rfl⟩:=FE.mp ab;exact⟨i,oi.mpr au,by simpa[Ba,au]using h⟩
def vI(aL:X.calm=true):ji X (.builtin "all") (λxs H Q=>∃(p:O)(bs:List Bool),xs=[.ref p]/\H p=some (.lst (bs.map V.aG))/\Q (.aG (bs.all id)) H):=by
 intro aa s σ H xs us Q I r h;obtain⟨p,bs,rfl,aB,q⟩:=h;obtain⟨u,rfl,dO⟩:=vals1 r;cases dO;obtain⟨its,cf,pl,hz⟩:=I.list (cS.of aB);refine call_all_walk (xR pl.isList ?_);have ia:p≠s.heap.objs.size:=d3 (I.a'.lt aB);refine⟨s.heap.objs.size,_,_,_,_,_,_,rfl,Walks.list (show X.A.in1.handled=none from I.ok.hd aL) _ p ia its.toArray,⟨⟨_,eT _ rfl,rfl,rfl⟩,?_⟩,VE (by simpa using cf),λh' tk aw=>?_⟩
 ·exact pl.isList.at λo e=>cV _ e
 ·have e:its.toArray.size=bs.length:=by
   have:=cf.length;rw[dV]at this;rw[hV];exact this.symm
  rw[e,al8];exact⟨.aG (bs.all id),H,I.kept λb o e=>aw b o (by simpa using d3 (dm e)) (cV _ e),rfl,q⟩
def aaX(aL:X.calm=true):ji X (.builtin "any") (λxs H Q=>∃(p:O)(bs:List Bool),xs=[.ref p]/\H p=some (.lst (bs.map V.aG))/\Q (.aG (bs.any id)) H):=by
 intro aa s σ H xs us Q I r h;obtain⟨p,bs,rfl,aB,q⟩:=h;obtain⟨u,rfl,dO⟩:=vals1 r;cases dO;obtain⟨its,cf,pl,hz⟩:=I.list (cS.of aB);refine call_any_walk (xR pl.isList ?_);have ia:p≠s.heap.objs.size:=d3 (I.a'.lt aB);refine⟨s.heap.objs.size,_,_,_,_,_,_,rfl,Walks.list (show X.A.in1.handled=none from I.ok.hd aL) _ p ia its.toArray,⟨⟨_,eT _ rfl,rfl,rfl⟩,?_⟩,VE (by simpa using cf),λh' tk aw=>?_⟩
 ·exact pl.isList.at λo e=>cV _ e
 ·have e:its.toArray.size=bs.length:=by
   have:=cf.length;rw[dV]at this;rw[hV];exact this.symm
  rw[e,al9];exact⟨.aG (bs.any id),H,I.kept λb o e=>aw b o (by simpa using d3 (dm e)) (cV _ e),rfl,q⟩
def Uy:V->Option Int->Option Int->ak->c3->Prop:=λx lo au H Q=>∃z,x= .str z/\z.length<=sizeLine/\Q (.str (nv z lo au)) H
def U0:G5 X Uy:=by
 intro aa s σ H x v qc gJ lo au fy Q I bt aS pl wN h;obtain⟨z,rfl,hz,q⟩:=h;obtain⟨t,rfl⟩:=bt;refine⟨"str",_,F.slot_str_getitem.lookup,NS _ _ _,?_⟩;obtain⟨o,aZ,aL,hd⟩:=aS;have go:∀(l u:Option (Int×i3)),qc=partValue l->gJ=partValue u->lo=l.map (·.1)->au=u.map (·.1)->wpAny (model X.prog X.w) X.A (getItem (.str z t) (.ref fy)) (gj X aa σ Q) X.cb s:=by
  rintro l u rfl rfl rfl rfl;refine wpAny_getItem_str_slice (l:=l) (u:=u) (st:=none) ⟨o,aZ,aL,hd⟩ rfl ?_;refine post_val_or_str ⟨gX (Txt.slice_le z _ _) hz,λt' k=>?_⟩;exact⟨.str _,H,I.tok _,⟨_,rfl⟩,q⟩
 cases pl with
 | none=>
  cases wN with
  | none=>exact go none none rfl rfl rfl rfl
  | int j u=>exact go none (some (j,u)) rfl rfl rfl rfl
 | int i u=>
  cases wN with
  | none=>exact go (some (i,u)) none rfl rfl rfl rfl
  | int j fg=>exact go (some (i,u)) (some (j,fg)) rfl rfl rfl rfl
def AM:∀{ys:List Str}{us:List aj},cz (ys.map V.str) us->j3 us ys
 | [],_,.nil=>.nil
 | y::ys,_,.cons r t=>by
  obtain⟨tk,rfl⟩:=r;exact .cons y tk (AM t)
end
def Pw{aX:gh}(kind:aX.kind= .function)(q3:∀y∈aX.names,y.2≠ .cell)(D4:∀y∈aX.names,y.2≠ .free)
  (names:∀y∈aX.names,y.2= .local->aX.names.lookup y.1=some .local):rM X aX [] own [] []:=
 ⟨kind,q3,names,closureFor_none D4,λ_ _ h=>by simp at h,λy b2 h=>absurd h (D4 y b2),trivial⟩
def oD{X:bp}{aX:gh}{own caps:List Str}{cl:List (Str×O)}(kind:aX.kind= .function)(q3:∀y∈aX.names,y.2≠ .cell)
  (names:∀y∈aX.names,y.2= .local->aX.names.lookup y.1=some .local)(only:∀y∈aX.names,y.2= .free->y.1∈caps)(nJ:closureFor aX X.env=pure cl)(Mq:∀p∈cl,X.env.cells.lookup p.1=some p.2)
  (ok:ov X aX cl caps cap):rM X aX cl own caps cap:=
 ⟨kind,q3,names,nJ,λx c h=>Mq (x,c) (op h),λy b2 h=>by
  obtain⟨j,a2,e⟩:=FE.mp (only y b2 h);obtain⟨_,_,_,_,_,c⟩:=ok.get (j:=j) (x:=y.1) (by rw[jC a2,e])
  exact c,ok⟩
section
variable{X:bp}
def k_:ji X (.builtin "isinstance") (λxs H Q=>∃(x:V)(n:String)(t:aj)(b:Bool),xs=[x,.ty n]/\mH X.K H x t/\Xm X.K t (.type n)=some b/\Q (.aG b) H):=by
 intro aa s σ H xs us Q I r h;obtain⟨x,n,t,b,rfl,ty,e,q⟩:=h;obtain⟨u,v,rfl,bt,br⟩:=r.two;obtain rfl:v= .type n:=br;exact ahW I bt ty e λtk=>⟨.aG b,H,I.tok _,rfl,q⟩
end
structure kD(H:ak)(L:List (O×dB)):Prop where
 lA:∀e∈L,H e.1=some e.2
 a4:(L.map (·.1)).Nodup
structure fe(H0 H:ak)(M:List O)(L:List (O×dB)):Prop where
 fr:∀b o,H0 b=some o->b∉M->H b=some o
 hold:kD H L
 src:∀e∈L,e.1∈M∨H0 e.1=none
 mem:∀a∈M,a∈L.map (·.1)
section
variable{H0 H:ak}{M:List O}{L:List (O×dB)}
def kD.at_(h:kD H L)(i:Nat){a:O}{o:dB}(e:L[i]? =some (a,o)):H a=some o:=h.lA (a,o) (oh e)
def kD.ne(h:kD H L)(i j:Nat){a b:O}{o u:dB}(ag:L[i]? =some (a,o))(aF:L[j]? =some (b,u))(ub:i≠j):a≠b:=by
 intro q;have vS:(L.map (·.1))[i]? =some a:=by rw[ft,ag];rfl
 have tI:(L.map (·.1))[j]? =some b:=by rw[ft,aF];rfl
 obtain⟨h1,x1⟩:=hf.mp vS;obtain⟨h2,x2⟩:=hf.mp tI;exact ub ((WK h.a4).mp (x1.trans (q.trans x2.symm)))
def kD.start(h:kD H L)(qP:∀a∈M,a∈L.map (·.1))(aS:∀e∈L,e.1∈M):fe H H M L:=⟨λ_ _ e _=>e,h,λe he=>.inl (aS e he),qP⟩
def fe.one(h:H p=some o):fe H H [p] [(p,o)]:=
 ⟨λ_ _ e _=>e,⟨λe he=>by
  have:e=(p,o):=by simpa using he
  subst this;exact h,by simp⟩,λe he=>.inl (by
  have:e=(p,o):=by simpa using he
  subst this;simp),λa af=>by simpa using af⟩
def fe.at_(g:fe H0 H M L)(i:Nat){a:O}{o:dB}(e:L[i]? =some (a,o)):H a=some o:=g.hold.at_ i e
def fe.ne(g:fe H0 H M L)(i j:Nat){a b:O}{o u:dB}(ag:L[i]? =some (a,o))(aF:L[j]? =some (b,u))(ub:i≠j):a≠b:=g.hold.ne i j ag aF ub
def fe.free(g:fe H0 H M L)(cj:H t=none):H0 t=none/\t∉L.map (·.1):=by
 have n:t∉L.map (·.1):=λbx=>by
  obtain⟨e,he,q⟩:=fB.mp bx;have:=g.hold.lA e he;rw[q,cj]at this;cases this
 refine⟨?_,n⟩;cases q:H0 t with
 | none=>rfl
 | some o=>
  by_cases bx:t∈M
  ·exact absurd (g.mem t bx) n
  ·have:=g.fr t o q bx;rw[cj]at this;cases this
def fe.new(g:fe H0 H M L)(cj:H t=none):fe H0 (a1 H t o) M ((t,o)::L):=by
 obtain⟨bE,n⟩:=g.free cj;refine⟨λb u e ab=>?_,⟨λe he=>?_,?_⟩,λe he=>?_,λa af=>nq _ (g.mem a af)⟩
 ·rw[bj (eK e bE)];exact g.fr b u e ab
 ·rcases dR.mp he with q | q
  ·subst q;exact cw
  ·have ne:e.1≠t:=λz=>n (by rw[<- z];exact fB.mpr ⟨e,q,rfl⟩)
   rw[bj ne];exact g.hold.lA e q
 ·rw[fM,nr];exact⟨n,g.hold.a4⟩
 ·rcases dR.mp he with q | q
  ·subst q;exact .inr bE
  ·exact g.src e q
def fe.put(g:fe H0 H M L)(i:Nat){a:O}{o o':dB}(e:L[i]? =some (a,o)):fe H0 (a1 H a o') M (L.set i (a,o')):=by
 have au:i < L.length:=(hf.mp e).1;have bx:(L.set i (a,o')).map (·.1)=L.map (·.1):=by
  rw[List.map_set];show(L.map (·.1)).set i a=L.map (·.1);have:(L.map (·.1))[i]? =some a:=by rw[ft,e];rfl
  obtain⟨h1,x1⟩:=hf.mp this;rw[<- x1,Nl]
 have zS:(a,o)∈L:=oh e;refine⟨λb u q ab=>?_,⟨λx ah=>?_,by rw[bx];exact g.hold.a4⟩,λx ah=>?_,λb ab=>by rw[bx];exact g.mem b ab⟩
 ·have ne:b≠a:=λz=>by
   subst z;rcases g.src _ zS with s | s
   ·exact ab s
   ·have s:H0 b=none:=s;rw[s]at q;cases q
  rw[bj ne];exact g.fr b u q ab
 ·obtain⟨j,a2⟩:=WI ah;by_cases ub:j=i
  ·subst ub;rw[j1 au]at a2;have:(a,o')=x:=hW a2;subst this;exact cw
  ·rw[j0 (Ne.symm ub)]at a2;obtain⟨b,u⟩:=x;have ne:b≠a:=g.ne j i a2 e ub;show(a1 H a o') b=some u;rw[bj ne];exact g.at_ j a2
 ·have:x.1∈L.map (·.1):=by rw[<- bx];exact fB.mpr ⟨x,ah,rfl⟩
  obtain⟨y,b2,q⟩:=fB.mp this;rw[<- q];exact g.src y b2
end
section
end
def kD.pick(h:kD H L):∀(is:List Nat){ym:List (O×dB)},is.Nodup->is.map (λi=>L[i]?)=ym.map some->kD H ym
 | [],[],_,_=>⟨λ_ z=>by simp at z,by simp⟩
 | [],_::_,_,e=>by simp at e
 | _::_,[],_,e=>by simp at e
 | i::is,(a,o)::ym,a4,e=>by
  rw[fM,fM]at e;injection e with ag aF
  obtain⟨dD,fH⟩:=nr.mp a4;have b3:=kD.pick h is fH aF;refine⟨λx ah=>?_,?_⟩
  ·rcases dR.mp ah with q | q
   ·subst q;exact h.at_ i ag
   ·exact b3.lA x q
  ·rw[fM,nr];refine⟨λbx=>?_,b3.a4⟩;obtain⟨⟨b,u⟩,ab,q⟩:=fB.mp bx;have q:b=a:=q;have:some (b,u)∈is.map (λi=>L[i]?):=by rw[aF];exact fB.mpr ⟨_,ab,rfl⟩
   obtain⟨j,a2,jq⟩:=fB.mp this;exact h.ne i j ag jq (λz=>dD (by rw[z];exact a2)) q.symm
section
variable{H0 H:ak}{M:List O}{L:List (O×dB)}
def fe.isNew(g:fe H0 H M L)(i:Nat){a:O}{o:dB}(e:L[i]? =some (a,o))(n:a∉M):H0 a=none:=(g.src (a,o) (oh e)).elim (λz=>absurd z n) id
end
end bu
namespace bu
open PySem PySem.Spec PyProof.Rows PySem.W
def qF:List aj->Bool
 | [.type a,.type b,.type c,.type d]=>(a=="ValueError" || a=="LookupError") && b=="Exception" && c=="BaseException" && d=="object"
 | .ref _::r=>qF r
 | _=>false
def P8(K:nk)(C:O):Bool:=(clsIn K C).any λcd=>cd.hasDict && qF cd.mro
def P'(self:aj):∀{l:List aj},qF l=true->refuseLoop self "__setattr__" l=pure ()
 | [.type a,.type b,.type c,.type d],e=>by
  unfold qF at e;simp only[jB,MZ,beq_iff_eq]at e;obtain⟨⟨⟨ag,rfl⟩,rfl⟩,rfl⟩:=e;rcases ag with rfl | rfl
  ·exact PySem.F.store_ValueError.passes self
  ·kernel_rfl
 | .ref c::r,e=>by
  rw[refuseLoop_ref];exact P' self (l:=r) (by simpa[qF]using e)
def P_:∀{l:List aj},qF l=true->l.contains (.type "object")=true/\l.contains (.type "BaseException")=true/\l.isEmpty=false
 | [.type a,.type b,.type c,.type d],e=>by
  unfold qF at e;simp only[jB,MZ,beq_iff_eq]at e;obtain⟨⟨⟨ag,rfl⟩,rfl⟩,rfl⟩:=e;refine⟨?_,?_,rfl⟩<;>simp
 | .ref c::r,e=>by
  have b3:=P_ (l:=r) (by simpa[qF]using e)
  refine⟨?_,?_,rfl⟩
  ·rw[Na,b3.1,M0]
  ·rw[Na,b3.2.1,M0]
structure iF(K:nk)(C:O):Prop where
 cp:P8 K C=true
 hS:findIn K (.ref C) "__setattr__"=some (some (.builtin "object.__setattr__"))
 ga:findIn K (.ref C) "__getattribute__"=some (some (.builtin "BaseException.__getattribute__"))
 Dk:findIn K (.ref C) "__getattr__"=some none
def iF.cd{K:nk}{C:O}(c:iF K C):∃cd,clsIn K C=some cd/\cd.hasDict=true/\qF cd.mro=true:=by
 obtain⟨cd,aL,aZ⟩:=any_some c.cp;rw[jB]at aZ;exact⟨cd,aL,aZ.1,aZ.2⟩
def iF.Sj{K:nk}{C:O}(c:iF K C):mroIn K C (.type "object")=some true/\mroIn K C (.type "BaseException")=some true:=by
 obtain⟨cd,aL,_,aZ⟩:=c.cd;obtain⟨h1,h2,aN⟩:=P_ aZ;refine⟨?_,?_⟩<;>(unfold mroIn;rw[aL,om,if_neg (by rw[aN];decide)])
 ·rw[h1]
 ·rw[h2]
section
variable{prog:dn}{w:cH}{A:d0}{E:aj->aM->Prop}{s:aM}{K:nk}{x C:O}{Eh:b_}{od:Option b_}{name:Str}{v:aj}
def ank(a b:aj):slotArgs "__getattribute__" 1 ⟨[a,b],[]⟩=pure (a,[b]):=by kernel_rfl
def ad3{Q:aj->aM->Prop}(X:K.In s.heap)(I:InstAt s.heap x Eh C od)(c:iF K C)(aH:findObj K C od name=some (.value v))(cu:handedIn v=true)(h:Q v {s with toks:=s.toks+1}):
  wpAny (model prog w) A (getAttr (.ref x) name Ij) Q E s:=by
 obtain⟨Dt,g,d,t,os⟩:=s;have tt:=I.type (M:=model prog w);have ZP:=F4 (M:=model prog w) X c.ga;have bu:=F4 (M:=model prog w) X c.Dk;have ZQ:=looks_find (M:=model prog w) X I aH;have ZR:Looks (model prog w) Dt (isInstance (.ref x) (.type "BaseException")) true:=tt.andThen (looks_mroIn X c.Sj.2);have Oz:=PySem.F.excAttr_ValueError;unfold getAttr getAttrBy;refine aQ (wpAny_mkText (jF (aQ (tt.at (aQ (ZP.at ?_))))));show wpAny _ _ (if(onTheHeap (.ref C) && F0 "BaseException.__getattribute__"==F0 "object.__getattribute__")=true then getAttrEveryday _ _ _ else getAttrByItsOwn _ _ _ _ _ _) _ _ _
 rw[if_neg (by intro z;rw[jB]at z;exact absurd z.2 (by decide+kernel))]
 unfold getAttrByItsOwn;refine aQ (bu.at ?_);refine aQ (F5 (jF ?_));have JA:(Ij && onTheHeap (F0 "BaseException.__getattribute__"))=false:=by cases Ij<;>rfl
 unfold callGetattribute boundAndCalled;rw[JA,if_neg (by decide),Oz.ga.bind]
 refine aQ (bC (qm ?_));show codeAny _ _ (.call (.builtin "BaseException.__getattribute__") ⟨[.ref x,.str name t],[]⟩) _ _;refine F1 Oz.ga.plain PySem.F.entry_bexc_ga (@check_slot (model prog w) _ _ ⟨Dt,g,d,t+1,os⟩ "BaseException.__getattribute__" "BaseException" "__getattribute__" (.ref x) [.str name t] [] _ (by decide+kernel) (by decide+kernel) ZR (PySem.F.args_bexc_ga _ _) ?_)
 unfold Builtin.«object.__getattribute__»;rw[ank (.ref x) (.str name t)];refine aQ (bC ?_);refine aQ (bC (a:=name) ?_);refine aQ (tt.at (aQ (ZQ.at ?_)));refine bC ?_;show wpAny _ _ (handedOut v) _ _ _;rw[handedOut_of cu];exact bC h
def Qa{Q:Unit->aM->Prop}(X:K.In s.heap)(I:InstAt s.heap x Eh C od)(c:iF K C)(ba:findIn K (.ref C) name=some none)
  (h:wpAny (model prog w) A.in1 (aoZ (.ref x) (.ref C) (.str name s.toks) name v false)
   (λdq s'=>match dq with | .done f=>(match (Except.ok f:PySem.Result)with | .ok (.ret _)=>Q () s' | .ok _=>False | .error e=>E e s') | .again c'=>c'.quiet=true/\codeAny (model prog w) A c' (λr s'=>match r with | .ok (.ret _)=>Q () s' | .ok _=>False | .error e=>E e s') s')
   (λe s'=>E e s') {s with toks:=s.toks+1}):
  wpAny (model prog w) A (setAttr (.ref x) name v) Q E s:=by
 have yw:=PySem.F.store_object;obtain⟨cd,aL,_,aZ⟩:=c.cd;have tt:=I.type (M:=model prog w);have bx:Looks (model prog w) s.heap (mroOf (.ref C)) cd.mro:=(NO X aL).andThen .now;have sub:Looks (model prog w) s.heap (isInstance (.ref x) (.type "object")) true:=tt.andThen (looks_mroIn X c.Sj.1);refine set_plain X I c.hS ?_;refine F1 yw.slot.plain yw.entry (@check_slot (model prog w) _ _ {s with toks:=s.toks+1} "object.__setattr__" "object" "__setattr__" (.ref x) [.str name s.toks,v] [] _ yw.kind yw.split sub (yw.args (.ref x) (.str name s.toks) v) ?_)
 rw[osa_eq,refuse_eq];refine aQ (aQ (tt.here (s:={s with toks:=s.toks+1}) (aQ (bx.here (s:={s with toks:=s.toks+1}) ?_))))
 rw[P' _ aZ];refine bC (aQ (tt.here (s:={s with toks:=s.toks+1}) (aQ ((F4 X ba).here (s:={s with toks:=s.toks+1}) (aQ (bC ?_))))))
 exact h
def ad5{vs:Array aj}{d:O}{mA:Str->Option aj}{ns:List Str}{Q:Unit->aM->Prop}(X:K.In s.heap)(ah:s.heap.get? x=some ⟨.ref C,some d,.fields vs, #[]⟩)(c:iF K C)(ba:findIn K (.ref C) name=some none)
  (hd:s.heap.Ns1 d mA)(b0:xK mA ns)(hz:ns.length < 1000)(h:∀h',h'.Ns1 d (λy=>if y=name then some v else mA y)->i0 d s.heap h'->Q () {s with heap:=h',toks:=s.toks+2}):
  wpAny (model prog w) A (setAttr (.ref x) name v) Q E s:=by
 obtain⟨l',es,ep,zT,r⟩:=id hd;have I:InstAt s.heap x ⟨.ref C,some d,.fields vs, #[]⟩ C (some l'):=⟨ah,rfl,rfl,zT⟩;obtain⟨cd,aL,oR,_⟩:=c.cd;refine Qa X I c ba ?_;refine aQ (bC (aQ (aQ (F6 ah (aQ ((NO X aL).here (s:={s with toks:=s.toks+1}) ?_))))))
 rw[oR];refine bC (a:=some d) (aQ (bC (aQ ?_)));refine N2 (s:={s with toks:=s.toks+1}) hd λh' t5 pS=>?_
 obtain⟨aqE,Qb,P4,ahm,zP,zO⟩:=t5.count (ND name v b0);refine aQ (N0 ahm (by rw[zP];exact NP (gX zO (by rw[hH,k1];omega))) ?_)
 exact bC (h _ t5 pS)
def ad4{vs:Array aj}{Q:Unit->aM->Prop}(X:K.In s.heap)(ah:s.heap.get? x=some ⟨.ref C,none,.fields vs, #[]⟩)(c:iF K C)(ba:findIn K (.ref C) name=some none)
  (h:∀h' tk,h'.get? x=some ⟨.ref C,some s.heap.objs.size,.fields vs, #[]⟩->h'.Ns1 s.heap.objs.size (λy=>if y=name then some v else none)->(∀b o,b≠x->s.heap.get? b=some o->h'.get? b=some o)->Q () {s with heap:=h',toks:=tk}):
  wpAny (model prog w) A (setAttr (.ref x) name v) Q E s:=by
 have I:InstAt s.heap x ⟨.ref C,none,.fields vs, #[]⟩ C none:=⟨ah,rfl,rfl,trivial⟩;obtain⟨cd,aL,oR,_⟩:=c.cd;have R':x≠s.heap.objs.size:=d3 (dm ah);refine Qa X I c ba ?_;refine aQ (bC (aQ (aQ (F6 ah (aQ ((NO X aL).here (s:={s with toks:=s.toks+1}) ?_))))))
 rw[oR];have y:(!true || !typeHasDict (Value.ref C))=false:=by simp[typeHasDict]
 show wpAny _ _ (if(!true || !typeHasDict (Value.ref C))=true then _ else _) _ _ _
 rw[y,if_neg (by decide)]
 have R_:(s.heap.push {cls:=.type "dict",data:=.dict #[]}).get? x=some ⟨.ref C,none,.fields vs, #[]⟩:=cV _ ah;refine aQ (NW (s:={s with toks:=s.toks+1}) ?_)
 refine aQ (wpAny_update R_ ?_);refine bC ?_;have af_:((s.heap.push {cls:=.type "dict",data:=.dict #[]}).update x λo=>{o with dict:=some s.heap.objs.size}).get? x=some ⟨.ref C,some s.heap.objs.size,.fields vs, #[]⟩:=mr _ R_ rfl
 have nQ:((s.heap.push {cls:=.type "dict",data:=.dict #[]}).update x λo=>{o with dict:=some s.heap.objs.size}).get? s.heap.objs.size=some {cls:=.type "dict",data:=.dict #[]}:=
  (lR _ _ R').trans (eT _ rfl)
 have a4:((s.heap.push {cls:=.type "dict",data:=.dict #[]}).update x λo=>{o with dict:=some s.heap.objs.size}).Ns s.heap.objs.size (λ_=>none):=⟨_, #[],_,nQ,rfl,λe he=>absurd he (by simp),λ_=>rfl⟩
 show wpAny _ _ (Wa s.heap.objs.size (.str name s.toks) name v) _ _ {s with heap:=(s.heap.push {cls:=.type "dict",data:=.dict #[]}).update x λo=>{o with dict:=some s.heap.objs.size},toks:=s.toks+1}
 unfold Wa aoY;refine aQ (bC (aQ (N2 (Wr a4) λh' wc aS=>?_)));obtain⟨l',Qb,P4,zT,zP,zO⟩:=wc.count (ND name v PySem.Within.nil);refine aQ (N0 zT (by rw[zP];exact NP (gX zO (by rw[hH,k1];simp))) ?_)
 refine bC (h h' _ ((aS.2 x R').trans af_) wc λb o ab e=>?_);exact(aS.2 b (d3 (dm e))).trans ((lR _ _ (Ne.symm ab)).trans (cV _ e))
end
def iG(C:O)(bN:Option O)(a:O):dB:=.ext λh=>∃t0:aj,h.get? a=some ⟨.ref C,bN,.fields #[t0,.none,.none,.none,.bool false,.none], #[]⟩
def jI(C d a:O):dB:=.ext λh=>∃vs:Array aj,h.get? a=some ⟨.ref C,some d,.fields vs, #[]⟩
def jH(d:O)(fs:List (Str×V)):dB:=.ext λh=>∃mA,h.Ns1 d mA/\(∀f,h0 (fs.lookup f) (mA f))/\xK mA (fs.map (·.1))
section
variable{P:dn}{w:cH}{H:ak}{h:cg}{a C d:O}{bN:Option O}{fs:List (Str×V)}
def Ii(t0:aj)(e:h.get? a=some ⟨.ref C,bN,.fields #[t0,.none,.none,.none,.bool false,.none], #[]⟩):fZ P w H h a (iG C bN a):=⟨⟨t0,e⟩,⟨_,e⟩,λ_ _ ⟨t,q⟩ k=>⟨t,k _ q⟩⟩
def P9(e:h.get? a=some ⟨.ref C,some d,.fields vs, #[]⟩):fZ P w H h a (jI C d a):=⟨⟨vs,e⟩,⟨_,e⟩,λ_ _ ⟨t,q⟩ k=>⟨t,k _ q⟩⟩
def P7(n:h.Ns1 d mA)(r:∀f,h0 (fs.lookup f) (mA f))(ez:xK mA (fs.map (·.1))):fZ P w H h d (jH d fs):=by
 obtain⟨o,es,ep,e,q⟩:=id n;exact⟨⟨mA,n,r,ez⟩,⟨o,e⟩,λ_ _ ⟨m,⟨o',g4,l2,bQ,q'⟩,dA⟩ k=>⟨m,⟨o',g4,l2,k _ bQ,q'⟩,dA⟩⟩
end
section
variable{X:bp}{aa:List (O×b_)}{σ:St}{H:ak}{s:aM}{a C d:O}{fs:List (Str×V)}{A:d0}{E:aj->aM->Prop}{f:Str}
def ad7{Q:Unit->aM->Prop}(I:Inv X aa σ H s)(e:H a=some (iG C none a))(c:iF X.K C)(n:fv X.K C f)(br:RelV y u)
  (h:∀d s',H d=none->d≠a->Inv X aa σ (a1 (a1 H d (jH d [(f,y)])) a (iG C (some d) a)) s'->Q () s'):wpAny (model X.prog X.w) A (setAttr (.ref a) f u) Q E s:=by
 obtain⟨⟨t0,af⟩,_,_⟩:=I.a' a _ e;refine ad4 I.eo af c n λh' tk Dp a4 cD=>?_;have fr:=I.a'.fresh (c9 s.heap.objs.size);have S':s.heap.objs.size≠a:=ph (dm af);obtain⟨od,es,ep,mS,q⟩:=id a4;have eg:od.isFreed=false:=(M9.mp mS).2;have en:∀b o,s.heap.get? b=some o->(s.heap.push od).get? b=some o:=λb o z=>cV _ z;have cY:(s.heap.push od).get? s.heap.objs.size=some od:=eT _ eg;have aW:Inv X aa σ (a1 H s.heap.objs.size (jH s.heap.objs.size [(f,y)])) {s with heap:=s.heap.push od,toks:=tk}:=by
  refine I.laid en (c9 _) (P7 (mA:=λz=>if z=f then some u else none) ⟨od,es,ep,cY,q⟩ (λg=>?_) λg bl=>?_)
  ·show h0 (s9 g [(f,y)]) (if g=f then some u else none)
   by_cases q:g=f
   ·subst q;rw[if_pos rfl];simp only[k0,beq_self_eq_true];exact br
   ·rw[if_neg q];have:(g==f)=false:=by simpa using q
    simp only[k0,this,List.lookup_nil];exact trivial
  ·by_cases q:g=f
   ·subst q;simp
   ·exact absurd (if_neg q) bl
 refine h s.heap.objs.size _ fr S' (aW.write (x:=a) (e:=a) (h':=h') (t':=tk) (by rw[bj (Ne.symm S'),e];exact trivial) (.inl rfl) (λb o ab z=>?_) ⟨_,Dp⟩ (Ii t0 Dp))
 by_cases RH:b=s.heap.objs.size
 ·subst RH;have z:(s.heap.push od).get? s.heap.objs.size=some o:=z;rw[cY]at z;cases z;exact mS
 ·have z:(s.heap.push od).get? b=some o:=z;rw[Heap.get?_push_ne _ _ _ RH]at z;exact cD b o ab z
def ad8{Q:Unit->aM->Prop}(I:Inv X aa σ H s)(e:H a=some (iG C (some d) a))(r8:H d=some (jH d fs))(c:iF X.K C)(n:fv X.K C f)(ar:fs.length < 900)(br:RelV y u)
  (h:∀s',Inv X aa σ (a1 H d (jH d (ie f y fs))) s'->Q () s'):wpAny (model X.prog X.w) A (setAttr (.ref a) f u) Q E s:=by
 obtain⟨⟨t0,af⟩,_,_⟩:=I.a' a _ e;obtain⟨⟨mA,a4,r,ez⟩,_,_⟩:=I.a' d _ r8;refine ad5 I.eo af c n a4 ez (by rw[dV];omega) λh' D1 dU=>h _ ?_
 have oR:∃o,h'.get? d=some o:=let⟨o,_,_,z,_⟩:=D1;⟨o,z⟩
 refine I.write (x:=d) (e:=d) (by rw[r8];exact trivial) (.inl rfl) (λb o ab z=>(dU.2 b ab).trans z) oR (P7 D1 (λg=>?_) λg bl=>?_)
 ·show h0 ((ie f y fs).lookup g) (if g=f then some u else mA g)
  rw[J2];by_cases q:g=f
  ·rw[if_pos q,if_pos q];exact br
  ·rw[if_neg q,if_neg q];exact r g
 ·by_cases q:g=f
  ·rw[q];exact(z2 f y fs).1
  ·refine(z2 f y fs).2 g (ez g λz=>bl ?_);show(if g=f then some u else mA g)=none
   rw[if_neg q];exact z
def ad6{b:Bool}{v:V}{Q:aj->aM->Prop}(I:Inv X aa σ H s)(e:H a=some (jI C d a))(r8:H d=some (jH d fs))(c:iF X.K C)(n:fv X.K C f)(l:fs.lookup f=some v)
  (h:∀u s',Inv X aa σ H s'->RelV v u->Q u s'):wpAny (model X.prog X.w) A (getAttr (.ref a) f b) Q E s:=by
 obtain⟨⟨vs,af⟩,_,_⟩:=I.a' a _ e;obtain⟨⟨mA,a4,r,ez⟩,_,_⟩:=I.a' d _ r8;obtain⟨u,aD,dO⟩:=h0.some_of (v:=v) (o:=mA f) (by rw[<- l];exact r f)
 obtain⟨od,mS,ar⟩:=J0 a4;have bP:InstAt s.heap a ⟨.ref C,some d,.fields vs, #[]⟩ C (some od):=⟨af,rfl,rfl,mS⟩;obtain⟨cd,aL,cu,_⟩:=c.cd;have Dt:hasDictIn X.K C=true:=by unfold hasDictIn;rw[aL];exact cu
 exact ad3 I.eo bP c (findObj_own Dt n rfl (by rw[ar,aD])) (RD dO) (h u _ (I.tok _) dO)
end
def UM(K:nk)(aP gU:TE)(f:Str):d8:=λD σ H=>gU σ H λy H1=>aP σ H1 λx H2=>∃a C,x= .ref a/\H2 a=some (iG C none a)/\iF K C/\fv K C f/\
 ∀d,H2 d=none->d≠a->D.nx σ (a1 (a1 H2 d (jH d [(f,y)])) a (iG C (some d) a))
def UN(K:nk)(aP gU:TE)(f:Str):d8:=λD σ H=>gU σ H λy H1=>aP σ H1 λx H2=>∃a C d fs,x= .ref a/\H2 a=some (iG C (some d) a)/\H2 d=some (jH d fs)/\iF K C/\fv K C f/\fs.length < 900/\
 D.nx σ (a1 H2 d (jH d (ie f y fs)))
def anB(K:nk)(aP:TE)(f:Str):TE:=λσ H Q=>aP σ H λx H1=>∃a C d fs v,x= .ref a/\H1 a=some (jI C d a)/\H1 d=some (jH d fs)/\iF K C/\fv K C f/\fs.lookup f=some v/\Q v H1
section
variable{X:bp}{o e value:ck}{f:Str}{pos jU:d1}{aP gU:TE}
def Ud(af:bz X o aP)(bm:bz X value gU)(aS:swapsWith value (some (.Attribute o f jU)) pos.line X.env=pure false):hZ X (.Assign [.Attribute o f jU] value pos) (UM X.K aP gU f):=by
 intro aa s σ H D I h;refine NQ (bJ (bm aa s σ H _ I h) λu s1 ⟨y,H1,aW,br,q⟩=>bJ (af aa s1 σ H1 _ aW q) λeL s2 ⟨x,H2,bU,bt,a,C,ex,aR,c,n,bZ⟩=>?_) aS;subst ex;obtain rfl:eL=Value.ref a:=bt;exact ad7 bU aR c n br λd s3 hd js b9=>⟨σ,_,b9,bZ d hd js⟩
def q9(af:bz X o aP)(bm:bz X value gU)(aS:swapsWith value (some (.Attribute o f jU)) pos.line X.env=pure false):hZ X (.Assign [.Attribute o f jU] value pos) (UN X.K aP gU f):=by
 intro aa s σ H D I h;refine NQ (bJ (bm aa s σ H _ I h) λu s1 ⟨y,H1,aW,br,q⟩=>bJ (af aa s1 σ H1 _ aW q) λeL s2 ⟨x,H2,bU,bt,a,C,d,fs,ex,aR,r8,c,n,l,bZ⟩=>?_) aS;subst ex;obtain rfl:eL=Value.ref a:=bt;exact ad8 bU aR r8 c n l br λs3 b9=>⟨σ,_,b9,bZ⟩
def wI(he:bz X e aP)(ab:attributeBase e f X.env (eval e X.env)=eval e X.env):bz X (.Attribute e f pos) (anB X.K aP f):=by
 intro aa s σ H Q I h;refine O9 ab (bJ (he aa s σ H _ I h) λu s1 ⟨x,H1,aW,bt,a,C,d,fs,v,ex,aR,r8,c,n,l,q⟩=>?_);subst ex;obtain rfl:u=Value.ref a:=bt;exact ad6 aW aR r8 c n l λfg s2 bU dO=>⟨v,H1,bU,dO,q⟩
end
section
variable{X:bp}{cW:kC}{k:Nat}{f C:O}{aE:f4}{ps:List Str}{sp:e4}{e7:List V}{ds:List aj}{E:eP}{x m:Str}{p pos e6:d1}{e:ck}{es:List ck}{t:fi}
def p0(F:aY X.prog X.w X.K X.mg X.base cW k f aE ps sp)(aA:dT k X.A)(bl:fd X x)(bx:X.mg x=some (.ref C))(sj:specialIn X.K (.ref C) "__getattribute__"=some (some (.builtin "type.__getattribute__")))
  (R0:readsIn X.K C (.type "type")=true)(t2:findCls X.K (.ref C) (.type "type") m=some (.val (.ref f)))(aw:jE X.K (.ref f)=true)(ab:Binds X.K aE ps ds)(hd:cz e7 ds)(ah:kE cW X E)
  (af:jJ X (e::es) t)(iT:fC x:=by decide)(he:oz X e es:=by rfl)(ib:qn X pos es:=by rfl)
  (cj:eval (.Call (.Attribute (.Name x p) m e6) (e::es) [] pos) X.env=(do
   let eL <- eval (.Name x p) X.env
   standAt e6.atName
   let(f,first)<- holding [eL] (getMethod eL m pl)
   callWith pos f first (backTo pos (starEach (e::es) X.env)) (backToKw pos (keywordEach [] X.env))):=by rfl):
  bz X (.Call (.Attribute (.Name x p) m e6) (e::es) [] pos) (o7 sp e7 E t):=by
 intro aa s σ H Q I h;refine Bj (pl:=pl) (lF I bl bx ?_ iT) cj;refine method_cls I.eo sj (cls_value I.eo R0 t2 rfl ?_);have aW:=I.tok (s.toks+1);refine FR (first:=[]) (h₀:=X.base) I.ok.mod.mW aw (bJ (af pos aa _ σ H _ aW h) λus s1 ⟨vs,H1,bU,r,q⟩=>⟨bU.eo,?_⟩) he ib
 exact AB F aA ab hd ah bU r q
def T4{T id:String}(aL:ji X (.builtin id) r)(bl:fd X x)(bx:X.mg x=none)(bm:bootBuiltins x=some (.type T))(ahA:typeOf (.type T)=pure (.type "type"))(mT:Manifest.isStub T=false)
  (t2:findCls X.K (.type T) (.type "type") m=some (.val (.builtin id)))(cu:handedIn (.builtin id)=true)(af:jJ X (e::es) t)(ba:x≠"__name__":=by decide)(iT:fC x:=by decide)
  (he:oz X e es:=by rfl)(ib:qn X pos es:=by rfl)
  (cj:eval (.Call (.Attribute (.Name x p) m e6) (e::es) [] pos) X.env=(do
   let eL <- eval (.Name x p) X.env
   standAt e6.atName
   let(f,first)<- holding [eL] (getMethod eL m pl)
   callWith pos f first (backTo pos (starEach (e::es) X.env)) (backToKw pos (keywordEach [] X.env))):=by rfl):
  bz X (.Call (.Attribute (.Name x p) m e6) (e::es) [] pos) (kp r t):=by
 intro aa s σ H Q I h;refine Bj (pl:=pl) (qV I bl bx bm ?_ ba iT) cj;obtain⟨ei,F⟩:=I.fr;refine method_type F I.ok.mod.mW ahA mT t2 cu ?_;have aW:=I.tok (s.toks+1);exact FK (bJ (af pos aa _ σ H _ aW h) λus s1 ⟨vs,H1,bU,b4,ao⟩=>aL aa s1 σ H1 vs us Q bU b4 ao) he ib
def Mw(te:TE):TE:=λσ H Q=>te σ H λx H1=>∃y,x= .str y/\y.length<=sizeLine/\Q (.str y) H1
def wJ(h:bz X e te):bz X (.FormattedValue e (-1) none pos) (Mw te):=by
 intro aa s σ H Q I b0;refine wpAny_FormattedValue_plain (bJ (h aa s σ H _ I b0) λu s1 ⟨x,H1,aW,b4,y,ex,hz,q⟩=>?_);subst ex;obtain⟨tk,rfl⟩:=b4;exact formatField_str (λt' tk=>⟨.str y,H1,aW.tok _,⟨_,rfl⟩,q⟩) hz
inductive yt(X:bp):List ck->List TE->Prop where
 | nil:yt X [] []
 | cons {e:ck} {es:List ck} {t:TE} {ts:List TE}:bz X e t->yt X es ts->yt X (e::es) (t::ts)
def E4:List TE->Str->St->ak->c3->Prop
 | [],acc,_,H,Q=>acc.length<=sizeLine/\Q (.str acc) H
 | t::r,acc,σ,H,Q=>t σ H λx H1=>∃y,x= .str y/\(acc++y).length<=sizeLine/\E4 r (acc++y) σ H1 Q
def Sq:∀{es:List ck}{ts:List TE},yt X es ts->∀(acc:Str)(s:aM)(H:ak),Inv X aa σ H s->E4 ts acc σ H Q->
  Joins (model X.prog X.w) X.A X.cb (evalEach es X.env) acc (λout s₁=>out.length<=sizeLine/\gj X aa σ Q (.str out s₁.toks) {s₁ with toks:=s₁.toks+1}) s
 | _,_,.nil,acc,s,H,I,h=>⟨h.1,.str acc,H,I.tok _,⟨_,rfl⟩,h.2⟩
 | _,_,.cons he aA,acc,s,H,I,h=>by
  refine bJ (he aa s σ H _ I h) λu s1 ⟨x,H1,aW,b4,y,ex,hz,q⟩=>?_;subst ex;obtain⟨tk,rfl⟩:=b4;exact⟨y,tk,rfl,hz,Sq aA (acc++y) s1 H1 aW q⟩
def KC{Fi Fj:ck}{dG:List ck}(h:yt X (Fi::Fj::dG) ts):bz X (.JoinedStr (Fi::Fj::dG) pos) (λσ H Q=>E4 ts Str.empty σ H Q):=by
 intro aa s σ H Q I b0;exact wpAny_JoinedStr (Sq h Str.empty s H I b0)
end
end bu
namespace bu
open PySem PySem.W
section
variable{prog:dn}{w:cH}{A:d0}{h:cg}{g:Array GenState}{d:pf}{t:Nat}{os:OsState}{K:nk}
variable{nm q:Str}{C N:O}{bs d9:List aj}{ly:Bool}{lM:List Str}{sub:List aj}{iN:Bool}{col:Option Bool}{bN:Option O}{eE en ev hj lE:Option aj}{B jb oV:String}{nG:List aj}
def ai4(F:s6 B jb oV nG)(lx:(Value.ref C::d9).contains (.type B)=true){dG:List aj}{Q:Unit->aM->Prop}
  (gH:h.get? C=some (excClassObj nm q C N bs d9 ly lM sub iN col bN eE en ev hj lE jb))(ok:Q () ⟨h,g,d,t,os⟩):wpAny M A (checkBuiltinCall jb ⟨.ref C::dG,[]⟩) Q E ⟨h,g,d,t,os⟩:=by
 have anq:=F.noStar;simp only[checkBuiltinCall,F.newKind,F.newSplit,F.newRow]
 repeat (first | refine rJ gH ?_ | (refine Br gH ?_;rw[lx]) | refine wpAny_staticBase_exc gH ?_ | refine X9 gH ?_ | simp only[bne_self_eq_false,nj,if_false] | wp_step)
 exact ok
def ai5{R:u5->aM->Prop}(F:s6 B jb oV nG)(lx:(Value.ref C::d9).contains (.type B)=true)(jT:(Value.ref C::d9).contains (.type "AttributeError")=false)(sD:(Value.ref C::d9).contains (.type "NameError")=false)
  {dG:List aj}(gH:h.get? C=some (excClassObj nm q C N bs d9 ly lM sub iN col bN eE en ev hj lE jb))(hz:dG.length<=sizeLine)
  (ok:R (.ok (.ret (.ref (h.objs.size+1)))) ⟨(h.push {cls:=.type "tuple",data:=.seq dG.toArray}).push {cls:=.ref C,data:=.fields #[.ref h.objs.size,.none,.none,.none,.bool false,.none]},g,d,t,os⟩):
  codeAny (model prog w) A (.builtin jb ⟨.ref C::dG,[]⟩) R ⟨h,g,d,t,os⟩:=by
 have aqi:=F.ends;refine codeAny_builtinAt F.entry ?_;unfold Builtin.«BaseException.__new__»;refine wpAt_bind ?_;show wpAt _ _ _ (stack >>=_) _ _ _;refine wpAt_bind (wpAt_stack λp below=>Yg ?_)
 wp_walk
 refine Yg ?_;rw[F.owner]
 repeat (first | with_reducible refine wpAny_madeHere_exc F.canon gH ?_ | with_reducible refine rJ gH ?_ | (with_reducible refine Br gH ?_;first | rw[lx] | rw[jT] | rw[sD]) | wp_step)
 show R _ _;rw[ms];exact ok
def ai6(F:s6 B jb oV nG)(lx:(Value.ref C::d9).contains (.type B)=true)(jT:(Value.ref C::d9).contains (.type "AttributeError")=false)(sD:(Value.ref C::d9).contains (.type "NameError")=false)
  {dG:List aj}{h6:O}{Q:PySem.Fin->aM->Prop}(X:K.In h)(gH:h.get? C=some (excClassObj nm q C N bs d9 ly lM sub iN col bN eE en ev hj lE jb))(au:findIn K (.ref C) "__init__"=some (some (.ref h6)))
  (I':h.get? h6=some D7)(t2:D7.cls= .type "function")(hz:dG.length<=sizeLine)
  (ok:wpAny (model prog w) A (call (.ref h6) (.ref (h.objs.size+1)::dG)) (λr s'=>r= .none/\Q (.done (.ret (.ref (h.objs.size+1)))) s') E
   ⟨(h.push {cls:=.type "tuple",data:=.seq dG.toArray}).push {cls:=.ref C,data:=.fields #[.ref h.objs.size,.none,.none,.none,.bool false,.none]},g,d,t,os⟩):
  wpAny (model prog w) A (Builtin.«type.__call__» ⟨.ref C::dG,[]⟩) Q E ⟨h,g,d,t,os⟩:=by
 repeat (first | with_reducible refine rJ gH ?_ | with_reducible refine X9 gH ?_ | wp_step)
 refine codeAny_call_builtin_code (M4 _ F.quiet) (ai4 F lx gH ?_);refine ai5 F lx jT sD gH hz ?_;show wpAny _ _ _ _ _ _;have cD:∀b o,h.get? b=some o->((h.push {cls:=.type "tuple",data:=.seq dG.toArray}).push {cls:=.ref C,data:=.fields #[.ref h.objs.size,.none,.none,.none,.bool false,.none]}).get? b=some o:=λb o e=>cV _ (cV _ e);have ajK:=cD _ _ gH;have ajL:=cD _ _ I';have Z_:K.In ((h.push {cls:=.type "tuple",data:=.seq dG.toArray}).push {cls:=.ref C,data:=.fields #[.ref h.objs.size,.none,.none,.none,.bool false,.none]}):=X.keeps cD;have oe:((h.push {cls:=.type "tuple",data:=.seq dG.toArray}).push {cls:=.ref C,data:=.fields #[.ref h.objs.size,.none,.none,.none,.bool false,.none]}).get? (h.objs.size+1)=some {cls:=.ref C,data:=.fields #[.ref h.objs.size,.none,.none,.none,.bool false,.none]}:=Ws (by rw[ms]) rfl
 have self:(Value.ref C::d9).contains (.ref C)=true:=by simp
 unfold isInstance
 repeat (first | with_reducible refine rJ oe ?_ | (with_reducible refine Br ajK ?_;rw[self]) | wp_step)
 show wpAny _ _ (typeLookup (.ref C) _) _ _ _;refine(F4 Z_ au).at ?_;refine jF (aQ ?_);unfold bindSpecial;refine aQ (F' (T:="function") ⟨_,ajL,t2⟩ ?_);rw[if_pos (by decide)]
 refine bC (aQ (j4 ok (λr s' z=>?_) λ_ _ x=>x));obtain⟨rfl,eC⟩:=z
 wp_walk
 exact eC
def ai3(F:s6 B jb oV nG)(lx:(Value.ref C::d9).contains (.type B)=true)(jT:(Value.ref C::d9).contains (.type "AttributeError")=false)(sD:(Value.ref C::d9).contains (.type "NameError")=false)
  {dG:List aj}{Q:aj->aM->Prop}(X:K.In h)(gH:h.get? C=some (excClassObj nm q C N bs d9 ly lM sub iN col bN eE en ev hj lE jb))(au:findIn K (.ref C) "__init__"=some (some (.ref h6)))
  (I':h.get? h6=some D7)(t2:D7.cls= .type "function")(hz:dG.length<=sizeLine)
  (ok:wpAny (model prog w) (A.under (.builtin "type.__call__" ⟨.ref C::dG,[]⟩)) (call (.ref h6) (.ref (h.objs.size+1)::dG)) (λr s'=>r= .none/\Q (.ref (h.objs.size+1)) s') E
   ⟨(h.push {cls:=.type "tuple",data:=.seq dG.toArray}).push {cls:=.ref C,data:=.fields #[.ref h.objs.size,.none,.none,.none,.bool false,.none]},g,d,t,os⟩):
  wpAny (model prog w) A (call (.ref C) dG) Q E ⟨h,g,d,t,os⟩:=by
 have f1:=tc_lookup;have fF:=tc_bind (.ref C);have de:(⟨h,g,d,t,os⟩:aM).TypeIs (.ref C) "type":=⟨_,gH,rfl⟩;refine qm (F2 ?_);show wpAny _ _ (callAny (.ref C) _) _ _ _
 repeat (any_goals (first | assumption | with_reducible refine rJ gH ?_ | wp_step))
 refine⟨rfl,?_⟩;refine codeAny_call_builtin_at (M4 _ (by decide+kernel)) entry_typeCall (wpAny_check_type_call_sub gH (ai6 F lx jT sD X gH au I' t2 hz ?_))
 exact ok
end
end bu
namespace bu
open PySem PySem.Spec PyProof.Rows PySem.W
structure rP(K:nk)(C f:O):Prop where
 cls:iF K C
 obj:∃(B jb oV:String)(nG:List aj)(nm q:Str)(N:O)(bs d9:List aj)(ly:Bool)(lM:List Str)(sub:List aj)(iN:Bool)(col:Option Bool)(bN:Option O)(eE en ev hj lE:Option aj),
  s6 B jb oV nG/\K.lookup C=some (excClassObj nm q C N bs d9 ly lM sub iN col bN eE en ev hj lE jb)/\(Value.ref C::d9).contains (.type B)=true/\(Value.ref C::d9).contains (.type "AttributeError")=false/\
   (Value.ref C::d9).contains (.type "NameError")=false/\d9.contains (.type "BaseException")=true
 init:findIn K (.ref C) "__init__"=some (some (.ref f))
 fn:∃o,K.lookup f=some o/\o.cls= .type "function"
 cD:jE K (.ref C)=true
def My(C:O)(sp:e4)(e7:List V)(E:eP)(t:fi):TE:=λσ H Q=>t σ H λvs H1=>vs.length<=100/\∀a,H1 a=none->sp (.ref a::(vs++e7)) (a1 H1 a (iG C none a)) (λv H2=>v= .bb/\Q (.ref a) H2) E
section
variable{X:bp}{cW:kC}{k:Nat}{f C:O}{aE:f4}{ps:List Str}{sp:e4}{e7:List V}{ds:List aj}{E:eP}{x:Str}{p pos:d1}{e o:ck}{es:List ck}{t:fi}
def UK{H:ak}{Q:c3}(M:rP X.K C f)(F:aY X.prog X.w X.K X.mg X.base cW k f aE ps sp)(aA:dT (k+1) X.A)(ab:Binds X.K aE ps ds)(hd:cz e7 ds)
  (ah:kE cW X E)(I:Inv X aa σ H s)(r:cz vs us)(ar:vs.length<=100)
  (h:∀a,H a=none->sp (.ref a::(vs++e7)) (a1 H a (iG C none a)) (λv H2=>v= .bb/\Q (.ref a) H2) E):
  wpAny (model X.prog X.w) X.A (call (.ref C) us) (gj X aa σ Q) X.cb s:=by
 obtain⟨B,jb,oV,nG,nm,q,N,bs,d9,ly,lM,sub,iN,col,bN,eE,en,ev,hj,lE,BC,gH,lx,jT,sD,_⟩:=M.obj;obtain⟨D7,aiq,nI⟩:=M.fn;have mW:=I.eo;obtain⟨cu,g,vQ,tk,os⟩:=s;have afb:cu.objs.size<=cu.objs.size+1:=oj _;have a9:=h (cu.objs.size+1) (I.a'.fresh afb);refine ai3 BC lx jT sD mW (mW _ _ gH) M.init (mW _ _ aiq) nI (by rw[<- r.length];exact gX ar (by decide)) ?_
 have aW:Inv X aa σ H ⟨cu.push {cls:=.type "tuple",data:=.seq us.toArray},g,vQ,tk,os⟩:=I.kept (t':=tk) λb o e=>cV _ e;have oe:((cu.push {cls:=.type "tuple",data:=.seq us.toArray}).push {cls:=.ref C,data:=.fields #[.ref cu.objs.size,.none,.none,.none,.bool false,.none]}).get? (cu.objs.size+1)=some {cls:=.ref C,data:=.fields #[.ref cu.objs.size,.none,.none,.none,.bool false,.none]}:=Ws (by rw[ms]) rfl
 have bU:Inv X aa σ (a1 H (cu.objs.size+1) (iG C none (cu.objs.size+1))) ⟨(cu.push {cls:=.type "tuple",data:=.seq us.toArray}).push {cls:=.ref C,data:=.fields #[.ref cu.objs.size,.none,.none,.none,.bool false,.none]},g,vQ,tk,os⟩:=
  aW.laid (t':=tk) (λb o e=>cV _ e) (by rw[ms];exact c9 _) (Ii _ oe)
 have da:cz (V.ref (cu.objs.size+1)::(vs++e7)) (Value.ref (cu.objs.size+1)::(us++ds)):=.cons rfl (r.append hd);have nS:(Value.ref (cu.objs.size+1)::us++ds).length=ps.length:=by
  have e:=da.length;rw[F.len _ _ _ _ a9]at e;exact e.symm
 refine qm (pm (F.run _ X.stack _ _ ⟨Value.ref (cu.objs.size+1)::us,[]⟩ (Value.ref (cu.objs.size+1)::(us++ds)) _ _ E (aA.make C us []) (bU.zo.make C us []) (ab _ (Value.ref (cu.objs.size+1)::us) bU.eo nS) da a9) λr s' oS=>?_);cases r with
 | error e=>exact ah aa σ _ _ e s' bU oS
 | ok fl=>
  cases fl with
  | ret u=>
   obtain⟨v,H',b9,cf,qH,fk⟩:=bU.after oS;subst qH;exact⟨cf,⟨V.ref (cu.objs.size+1),H',b9,rfl,fk⟩⟩
  | next=>exact ik oS
  | brk=>exact ik oS
  | cont=>exact ik oS
def q8(M:rP X.K C f)(F:aY X.prog X.w X.K X.mg X.base cW k f aE ps sp)(aA:dT (k+1) X.A)(bl:fd X x)(bx:X.mg x=some (.ref C))(ab:Binds X.K aE ps ds)(hd:cz e7 ds)(ah:kE cW X E)
  (af:jJ X (e::es) t)(iT:fC x:=by decide)(he:oz X e es:=by rfl)(ib:qn X pos es:=by rfl):
  bz X (.Call (.Name x p) (e::es) [] pos) (My C sp e7 E t):=by
 intro aa s σ H Q I h;refine ql (lF I bl bx ?_ iT);refine FR (h₀:=X.base) I.ok.mod.mW M.cD (bJ (af pos aa s σ H _ I h) λus s1 ⟨vs,H1,aW,r,q⟩=>⟨aW.eo,?_⟩) he ib;exact UK M F aA ab hd ah aW r q.1 q.2
end
end bu
namespace bu
open PySem PySem.W
def tj(h:cg)(e T:O):Prop:=∃oe vs oT ts,h.get? e=some oe/\oe.data= .fields vs/\vs[1]? =some (.ref T)/\h.get? T=some oT/\oT.data= .fields ts/\ts[3]? =some Value.none/\T≠e
def Ready(h:cg)(e:O):Prop:=(∃oe vs,h.get? e=some oe/\oe.data= .fields vs/\vs[1]? =some Value.none)∨∃T,tj h e T
structure vo(fr:List O)(e T:O)(h h':cg):Prop where
 new:h.objs.size<=T
 obj:∀oe,h.get? e=some oe->∃vs,h'.get? e=some {oe with data:=.fields vs}
 ID:tj h' e T
 keep:∀b o,b≠e->b∉fr->h.get? b=some o->h'.get? b=some o
 slot:∀b o,b≠e->h.get? b=some o->∃fy,h'.get? b=some {o with slots:=fy}
def zD{o:b_}(h:o.data= .fields vs)(f:Array aj->Array aj):o.mapFields f={o with data:=.fields (f vs)}:=by
 obtain⟨a,b,c,d⟩:=o;have h:c= .fields vs:=h;subst h;rfl
section
variable{M:Be}{A:d0}{E:aj->aM->Prop}{s:aM}
def Tq{env:fL}{a3:List fL}{L e:O}{Q:Unit->aM->Prop}
  (kM:A.frames=some (env::a3))(ar:s.heap.FunFrames base (env::a3))(aH:env.frame=some L)(he:s.heap.get? e=some oe)(hd:oe.data= .fields vs)(hsz:1 < vs.size)
  (h:∀h' T,vo ((env::a3).filterMap (·.frame)) e T s.heap h'->Q () {s with heap:=h'}):
  wpAny M A (do let a <- frameOf env;let pl <- entryPlaceOf L aqg;let b <- Wj head a .none (rawInt L) .none pl;setField (.ref e) 1 b) (λ_ s'=>wpAny M A (setFlight (.ref e) none) Q E s') E s:=by
 have ajr:e∉(env::a3).filterMap (·.frame):=λbx=>by
  obtain⟨_,o,aZ,eg⟩:=ar.mem bx;rw[he]at aZ;cases aZ;exact eg vs hd
 refine aQ (wpAny_frameOf_fun kM ar aH λh1 s1=>aQ (wpAny_entryPlaceOf λpl ib=>?_));unfold Wj newFields;refine aQ (u7 ?_ (ib.sizeOk5 _ _ _ _ _));have ag:h1.get? e=some oe:=(s1.2.1 e ajr).trans he;generalize agM:([head,.ref L,.none,rawInt L,.none]++(if pl.isEmpty then u0 6 Value.none else pl)).toArray=ts
 have R5:3 < ts.size:=by rw[<- agM];simp only[hV,oc,hH,Bc]<;>omega
 have aF:=cV (h:=h1) {cls:=.type "traceback",dict:=none,data:=.fields ts} ag;have pX:h1.objs.size≠e:=ph (dm ag);refine xS aF hd hsz ?_;rw[show lS (·.setIfInBounds 1 (Value.ref h1.objs.size))=λo:b_=>o.mapFields (·.setIfInBounds 1 (Value.ref h1.objs.size))from rfl]
 have dc:(oe.mapFields (·.setIfInBounds 1 (Value.ref h1.objs.size))).data= .fields (vs.setIfInBounds 1 (.ref h1.objs.size)):=by rw[zD hd]
 have cU:=mr (lS (·.setIfInBounds 1 (Value.ref h1.objs.size))) aF (by rw[zD hd];rfl)
 have rp:=(lR (h1.push {cls:=.type "traceback",dict:=none,data:=.fields ts}) (lS (·.setIfInBounds 1 (Value.ref h1.objs.size))) (Ne.symm pX)).trans (eT h1 rfl);unfold setFlight;refine aQ (Bp cU dc (x:=.ref h1.objs.size) (by simp[hsz]) ?_)
 rw[if_pos (show(Value.ref h1.objs.size !=Value.none)=true from by simp)]
 refine xS rp rfl R5 (h _ h1.objs.size ?_);have jn:=(lR ((h1.push {cls:=.type "traceback",dict:=none,data:=.fields ts}).update e (lS (·.setIfInBounds 1 (Value.ref h1.objs.size)))) (lS (·.setIfInBounds 3 ((none:Option O).elim Value.none λf=>rawInt f))) pX).trans cU;have anA:=mr (lS (·.setIfInBounds 3 ((none:Option O).elim Value.none λf=>rawInt f))) rp rfl;have old:∀b o,b≠e->h1.get? b=some o->(((h1.push {cls:=.type "traceback",dict:=none,data:=.fields ts}).update e (lS (·.setIfInBounds 1 (Value.ref h1.objs.size)))).update h1.objs.size (lS (·.setIfInBounds 3 ((none:Option O).elim Value.none λf=>rawInt f)))).get? b=some o:=λb o ab z=>by
  rw[lR _ _ (ph (dm z)),lR _ _ (Ne.symm ab)];exact cV _ z
 refine⟨by rw[s1.1];exact c9 _,λaqF z=>?_,⟨_,_,_,_,jn,dc,by simp[hsz],anA,rfl,by simp[R5],pX⟩,λb o ab ba z=>?_,λb o ab z=>?_⟩
 ·rw[he]at z;cases z;exact⟨_,by rw[jn,zD hd]⟩
 ·exact old b o ab ((s1.2.1 b ba).trans z)
 ·obtain⟨fy,q⟩:=s1.2.2 b o z;exact⟨fy,old b _ ab q⟩
def Tr{env:fL}{a3:List fL}{Q:Unit->aM->Prop}
  (kM:A.frames=some (env::a3))(ar:s.heap.FunFrames base (env::a3))(aH:env.frame=some L)(hE:Ready s.heap e)
  (h:∀h' T,vo ((env::a3).filterMap (·.frame)) e T s.heap h'->Q () {s with heap:=h'}):
  wpAny M A (noteFrame (.ref e) env) (λ_ s'=>wpAny M A (setFlight (.ref e) none) Q E s') E s:=by
 unfold noteFrame;simp only[aH];rcases hE with⟨oe,vs,he,hd,h1⟩ | ⟨T,oe,vs,oT,ts,he,hd,h1,de,pP,aN,ne⟩
 ·refine aQ (Bp he hd h1 ?_);rw[if_neg (by decide)]
  exact Tq kM ar aH he hd (xl.mp h1).1 h
 ·refine aQ (Bp he hd h1 ?_);rw[if_pos (show(Value.ref T !=Value.none)=true from by simp)]
  refine aQ (Bp de pP aN ?_);rw[if_neg (show ¬((Value.none==rawInt L)=true)from by simp[rawInt])]
  refine aQ (xS de pP (xl.mp aN).1 ?_);have same:oT.mapFields (·.setIfInBounds 3 Value.none)=oT:=by
   rw[zD pP];have:ts.setIfInBounds 3 Value.none=ts:=by
    apply VX;intro i;by_cases au:i=3
    ·subst au;rw[aN];have:3 < ts.size:=(xl.mp aN).1;simp[this]
    ·rw[VY (Ne.symm au)]
   rw[this, <- pP]
  have g:∀b,(s.heap.update T (lS (·.setIfInBounds 3 Value.none))).get? b=s.heap.get? b:=λb=>by
   by_cases ab:b=T
   ·subst ab;rw[mr (lS (·.setIfInBounds 3 Value.none)) de (by rw[same];exact(M9.mp de).2),same,de]
   ·exact lR _ _ (Ne.symm ab)
  refine Tq kM (ar.of_keeps λb o ab _=>⟨o,(g b).trans ab,rfl⟩) aH ((g e).trans he) hd (xl.mp h1).1 λh' T' b7=>h h' T' ?_;refine⟨?_,λo z=>b7.obj o ((g e).trans z),b7.ID,λb o a c z=>b7.keep b o a c ((g b).trans z),λb o a z=>b7.slot b o a ((g b).trans z)⟩;have:=b7.new;rw[Heap.size_after_update]at this;exact this
def aiB{env:fL}{a3:List fL}{Q:Unit->aM->Prop}
  (kM:A.frames=some (env::a3))(ar:s.heap.FunFrames base (env::a3))(aH:env.frame=some L)(hE:Ready s.heap e)
  (h:∀h' T,vo ((env::a3).filterMap (·.frame)) e T s.heap h'->Q () {s with heap:=h'}):wpAny M A (leaving env (.ref e)) Q E s:=by
 unfold leaving;exact aQ (Tr kM ar aH hE h)
end
end bu
namespace bu
open PySem PySem.Spec PyProof.Rows PySem.W
def eb(P:dn)(w:cH):kC:=λa3 H s E e s'=>∃(a C d:O)(H':ak),e= .ref a/\s'.os=s.os/\qh s'.gens/\eV (jO a3) [] H H' s.heap s'.heap/\eN P w H' s'.heap/\
 H' a=some (jI C d a)/\s.heap.get? a=none/\(∃T,tj s'.heap a T)/\E (.ref C) (some d) H'
section
variable{X:bp}{aa:List (O×b_)}{σ:St}{H:ak}{s:aM}{a C d T:O}
def RY{fr:List O}(x:eN P w H h)(aR:H a=some (jI C d a))(kM:∀b∈fr,H b=none)(b7:vo fr a T h h'):eN P w H h':=λb o e=>by
 by_cases ab:b=a
 ·subst ab;rw[aR]at e;cases e;obtain⟨⟨vs,he⟩,_,_⟩:=x b _ aR;obtain⟨ih,t1⟩:=b7.obj _ he;exact P9 t1
 ·refine(x b o e).p8 (λc u aL q=>b7.keep c u ?_ ?_ q) (λ_ q=>q) λ_ _ q=>q
  ·rcases aL with rfl | aL
   ·exact ab
   ·intro z;subst z;rw[aR]at aL;cases aL
  ·intro z;have n:=kM c z;rcases aL with rfl | aL
   ·rw[e]at n;cases n
   ·rw[aL]at n;cases n
def an4{fr a3:List O}(u:eV a3 [] H0 H bE h)(na:bE.get? a=none)(kM:∀b o,bE.get? b=some o->b∈fr->b∈a3)(b7:vo fr a T h h'):eV a3 [] H0 H bE h':=by
 have ne:∀b o,bE.get? b=some o->b≠a:=λb o e z=>by subst z;rw[na]at e;cases e
 refine⟨λb o e n aZ ah=>b7.keep b o (ne b o e) (λz=>aZ (kM b o e z)) (u.keep b o e n aZ ah),λb o e n aZ ah=>?_,u.free,λb o e ah=>?_,u.tups,u.l5,u.nd⟩
 ·obtain⟨fy,q⟩:=u.slot b o e n aZ ah;obtain⟨EU,q'⟩:=b7.slot b _ (ne b o e) q;exact⟨EU,q'⟩
 ·obtain⟨o',q⟩:=u.there b o e ah;obtain⟨EU,q'⟩:=b7.slot b _ (ne b o e) q;exact⟨_,q'⟩
def SH{M:Be}{Y5:aj->aM->Prop}{E:eP}(I:Inv X aa σ H s)(mT:X.stack=X.env::X.a3)(aH:X.env.frame=some X.env.locals)(I_:X.ex=[])(aR:H a=some (jI C d a))(na:X.s₀.heap.get? a=none)
  (hE:Ready s.heap a)(zJ:E (.ref C) (some d) H):wpAny M X.A (leaving X.env (.ref a)) (λ_ s''=>eb X.prog X.w X.a3 X.H₀ X.s₀ E (.ref a) s'') Y5 s:=by
 have ar:=I.stack;have kM:=I.ok.frames;rw[mT]at ar kM;refine aiB kM ar aH hE λh' T b7=>?_;have wb:∀b∈(X.env::X.a3).filterMap (·.frame),H b=none:=λb ab=>I.w4 b (by rw[mT];exact ab)
 refine⟨a,C,d,H,rfl,I.os,I.bare,?_,RY I.a' aR wb b7,aR,na,⟨T,b7.ID⟩,zJ⟩;have u:eV (jO X.a3) [] X.H₀ H X.s₀.heap s.heap:=by
  have:=I.base;rw[I_]at this;exact this
 refine an4 u na (λb o e ab=>?_) b7;obtain⟨env,he,q⟩:=FD.mp ab;rcases dR.mp he with rfl | he
 ·rw[aH]at q;have q:X.env.locals=b:=hW q;exact absurd (dm e) (by rw[<- q];exact xF.mpr I.ok.above)
 ·exact FD.mpr ⟨env,he,q⟩
end
def n1{P:dn}{w:cH}{K:nk}{mg:Str->Option aj}{base:cg}{N:List Str}{qual:Str}{aX:gh}{f:O}{cd:aj}{A:d0}{a3:List fL}{s:aM}{H:ak}{E:eP}:
  kE (eb P w) (jk (eb P w) P w K mg base N qual aX f cd A a3 s H E) E:=by
 intro aa σ H1 s1 e s2 I h;obtain⟨a,C,d,H',rfl,os,bare,un,a',aR,na,fl,zJ⟩:=h;have bU:Inv (jk (eb P w) P w K mg base N qual aX f cd A a3 s H E) aa σ H' s2:=I.r2 (ch:=[]) os un a' bare λb ab=>by simp at ab
 refine SH bU rfl rfl rfl aR ?_ (.inr fl) zJ;cases q:s.heap.get? a with
 | none=>exact q
 | some o=>
  obtain⟨o',q'⟩:=I.base.there a o q (by show a∉[];simp)
  rw[na]at q';cases q'
def MA(H0:ak)(K:nk)(te:TE)(E:eP):d8:=λ_ σ H=>te σ H λx H1=>∃a C d f,x= .ref a/\H1 a=some (iG C (some d) a)/\rP K C f/\H0 a=none/\E (.ref C) (some d) (a1 H1 a (jI C d a))
def ahT{H:ak}(I:Inv X aa σ H s)(aR:H a=some (iG C (some d) a)):Inv X aa σ (a1 H a (jI C d a)) s:=by
 obtain⟨⟨t0,he⟩,_,_⟩:=I.a' a _ aR;exact I.write (x:=a) (e:=a) (h':=s.heap) (t':=s.toks) (by rw[aR];exact trivial) (.inl rfl) (λb u _ q=>q) ⟨_,he⟩ (P9 he)
section
variable{X:bp}{e:ck}{pos:d1}{te:TE}{E:eP}
def alE(he:bz X e te)(aL:X.calm=true)(I_:X.ex=[])(ah:∀(aa:List (O×b_))(σ:St)(H:ak)(s:aM)(a C d:O),Inv X aa σ H s->H a=some (jI C d a)->X.s₀.heap.get? a=none->Ready s.heap a->E (.ref C) (some d) H->X.cb (.ref a) s):
  hZ X (.Raise (some e) none pos) (MA X.H₀ X.K te E):=by
 intro aa s σ H D I h;rw[arm_exec_Raise];refine aQ (rK ?_);have CQ:∀(x:nu aj),wpAny (model X.prog X.w) X.A x (gj X aa σ λx H1=>∃a C d f,x= .ref a/\H1 a=some (iG C (some d) a)/\rP X.K C f/\X.H₀ a=none/\E (.ref C) (some d) (a1 H1 a (jI C d a))) X.cb s->
   wpAny (model X.prog X.w) X.A (raiseStmt X.env (some x) none) (iK X aa D) X.cb s:=by
  intro x b0;unfold raiseStmt;refine aQ (bJ b0 λv s1 ⟨y,H1,aW,br,a,C,d,f,fP,aR,M,na,q⟩=>?_);subst fP;obtain rfl:v=Value.ref a:=br;obtain⟨B,jb,oV,nG,nm,wQ,N,bs,d9,ly,lM,sub,iN,col,bN,eE,en,ev,hj,lE,BC,JS,lx,jT,sD,base⟩:=M.obj;obtain⟨⟨t0,oe⟩,_,_⟩:=aW.a' a _ aR;have gH:=aW.eo _ _ JS;have agC:(Value.ref C::d9).contains (.type "BaseException")=true:=by rw[Na,base,M0]
  have dq:X.cb (.ref a) s1:=by
   refine ah aa σ _ s1 a C d (ahT aW aR) cw ?_ (.inl ⟨_,_,oe,rfl,rfl⟩) q;cases z:X.s₀.heap.get? a with
   | none=>rfl
   | some o=>
    have:=aW.base.free a o z na (by rw[I_];simp)
    rw[aR]at this;cases this
  have cu:=aW.ok.hd aL;obtain⟨aB,g,vQ,tk,os⟩:=s1
  repeat (first | with_reducible refine rJ oe ?_ | with_reducible refine rJ gH ?_ | (with_reducible refine Br gH ?_;rw[agC]) | wp_step)
  exact wpAny_raiseNew_none cu dq
 refine CQ _ ?_
 first
  | exact aQ (bJ (he aa s σ H _ I h) λv s1 q=>aQ (rK (bC q)))
  | exact he aa s σ H _ I h
end
def find_erase{α:Type}(p:α->Bool):∀(l:List α)(i:Nat),(∀x,l[i]? =some x->p x=false)->(l.eraseIdx i).find? p=l.find? p
 | [],i,_=>by simp
 | x::l,0,h=>by
  have:=h x rfl;simp[WE,this]
 | x::l,i+1,h=>by
  have b3:=find_erase p l i λy b2=>h y (by simpa using b2)
  simp only[Wz,WE];rw[b3]
def ajB{s:aM}{name:Str}{Q:Bool->aM->Prop}(ba:s.heap.Ns a m)
  (eC:∀h' e_,h'.Ns a e_->(∀x,x≠name->e_ x=m x)->i0 a s.heap h'->Q (m name).isSome {s with heap:=h'}):wpAny M A (nsDel a name) Q E s:=by
 obtain⟨o,es,ep,go,nQ,ks,fs⟩:=id ba;have ajx:es.any (·.refKey)=false:=by
  rw[Array.any_eq_false'];intro x ah;obtain⟨n,t,z⟩:=ks x ah;simp[Wi,z]
 have isIn:(m name).isSome=es.any (·.key.isStr name):=by
  rw[<- fs name];simp only[nsFind,findBy,Bh];rw[pe];simp only[Array.find?_isSome,Array.any_eq_true];constructor
  ·rintro⟨x,ah,aB⟩;obtain⟨i,au,rfl⟩:=Array.mem_iff_getElem.mp ah;exact⟨i,au,aB⟩
  ·rintro⟨i,au,aB⟩;exact⟨_,VZ au,aB⟩
 have has:nsHas name o=pure (es.any (·.key.isStr name)):=by
  rw[nsHas_eq];unfold nsHasByArray;rw[nQ];show(if(es.any λx=>x.key.isStr name)=true then _ else _)=_
  generalize (es.any λx=>x.key.isStr name)=b;cases b<;>simp[ajx]
 unfold nsDel;refine aQ (F6 go ?_);rw[has];refine aQ (bC ?_);rw[<- isIn];cases q:(m name).isSome
 ·have z:=eC s.heap m ba (λ_ _=>rfl) (.refl ..);rw[q]at z;exact bC z
 ·refine aQ (wpAny_updatePart go (bC ?_));have key:∃e_,(s.heap.update a (Obj.dropName name)).Ns a e_/\∀x,x≠name->e_ x=m x:=by
   obtain⟨cl,d,dt,fy⟩:=o;have nQ:dt= .dict es ep:=nQ;subst nQ;cases au:es.findIdx? (·.key.isStr name)with
   | some i=>
    refine⟨_,⟨_,_,ep+1,mr _ go (by simp only[FJ,FI,au]<;>rfl),(by simp only[FJ,FI,au]<;>rfl),ks.erase i,λ_=>rfl⟩,λx ah=>?_⟩
    rw[<- fs x];unfold nsFind findBy
    congr 1
    rw[<- MX, <- MX];have e:(es.eraseIdxIfInBounds i).toList=es.toList.eraseIdx i:=by
     unfold Array.eraseIdxIfInBounds;split
     ·rw[Array.toList_eraseIdx]
     ·rename_i z;rw[List.eraseIdx_of_length_le (by simpa using z)]
    rw[e];refine find_erase _ _ _ λy b2=>?_;obtain⟨eD,aB,_⟩:=Array.findIdx?_eq_some_iff_getElem.mp au;have fP:y=es[i]:=by
     rw[xm,Fs eD]at b2;exact(hW b2).symm
    subst fP;obtain⟨n,t,z⟩:=ks es[i] (VZ eD);rw[z]at aB ⊢;have aB:(n==name)=true:=aB;have ag:n=name:=by simpa using aB
    show(n==x)=false;rw[ag];simpa using Ne.symm ah
   | none=>exact⟨_,⟨_,_,ep,mr _ go (by simp only[FJ,FI,au]<;>rfl),(by simp only[FJ,FI,au]<;>rfl),ks,λ_=>rfl⟩,λx _=>fs x⟩
  obtain⟨e_,h1,h2⟩:=key;have z:=eC _ e_ h1 h2 (rA ..);rw[q]at z;exact z
section
variable{X:bp}{aa:List (O×b_)}{σ:St}{H:ak}{s:aM}
def acJ{i:Nat}{Q:Unit->aM->Prop}(I:Inv X aa σ H s)(e9:X.N.Nodup)(au:X.N[i]? =some x)(ah:X.env.scope.names.lookup x=some .local)(bm:σ[i]? =some (some v))
  (h:∀s',Inv X aa (σ.set i none) H s'->Q () s'):wpAny M A (unbindName X.env x) Q E s:=by
 obtain⟨m,ba,ar⟩:=id I.loc;have I5:(X.env.scope.kind== .class || (X.env.scope.kind== .module && X.env.locals !=X.env.globals))=false:=by rw[I.ok.kind];rfl
 obtain⟨u,dO,lk⟩:=ar i x v au bm (.inl ah);have ai8:m x=some u:=by
  rcases lk with⟨_,e⟩ | ⟨k,_⟩
  ·exact e
  ·have k:X.env.scope.names.lookup x=some .cell∨X.env.scope.names.lookup x=some .free:=k;rw[ah]at k;rcases k with k | k<;>cases k
 unfold unbindName deleteName;refine aQ (wpAny_point (aQ ?_));have aw:X.env.kindOf x=some .local:=ah;simp only[aw,I5,nj,if_false];refine aQ (m:=nsDel X.env.locals x) (ajB ba λh' e_ wc t4 dU=>?_);rw[ai8];refine bC (wpAny_point (h _ ?_));obtain⟨Tu,_,_,pR,_⟩:=id ba;refine⟨I.ok,I.os,I.bare,⟨λb o e n ab ah=>?_,λb o e n ab ah=>?_,I.base.free,λb o e ah=>?_,I.base.tups,I.base.l5,I.base.nd⟩,⟨e_,wc,λj y xd ag aF cU=>?_⟩,λy c e=>?_,I.free,I.iR,λp aB=>?_,I.a'.but I.free dU,by simpa using I.len⟩
 ·exact(dU.2 b (d3 (i1 (dm e) I.ok.above))).trans (I.base.keep b o e n ab ah)
 ·obtain⟨fy,q⟩:=I.base.slot b o e n ab ah;exact⟨fy,(dU.2 b (d3 (i1 (dm e) I.ok.above))).trans q⟩
 ·obtain⟨o',q⟩:=I.base.there b o e ah;exact⟨o',(dU.2 b (d3 (i1 (dm e) I.ok.above))).trans q⟩
 ·have a2:j≠i:=λz=>by
   subst z;have eD:j < σ.length:=by rw[I.len];exact(hf.mp au).1
   rw[j1 eD]at aF;cases aF
  rw[j0 (Ne.symm a2)]at aF;obtain⟨fg,dA,q⟩:=ar j y xd ag aF cU;refine⟨fg,dA,?_⟩;rcases q with⟨k,e⟩ | ⟨k,c,e,z⟩
  ·refine .inl ⟨k,?_⟩;have ne:y≠x:=λe=>a2 (Kj e9 ag (e▸au));rw[t4 y ne];exact e
  ·exact .inr ⟨k,c,e,z.sameBut dU (I.qD y c e)⟩
 ·obtain⟨fq,z⟩:=I.cell y c e;exact⟨fq,z.sameBut dU (I.qD y c e)⟩
 ·obtain⟨e,n,ne,eg,d⟩:=I.pin p aB;exact⟨(dU.2 p.1 ne).trans e,n,ne,eg,d⟩
end
abbrev bp.mk'(X:bp)(v:aj)(cb:aj->aM->Prop):bp:={X with A:=X.A.mark (some v),calm:=false,cb:=cb}
section
variable{X:bp}{aa lI:List (O×b_)}{σ:St}{H:ak}{s:aM}{v:aj}{cb:aj->aM->Prop}
def Inv.mk'(I:Inv X aa σ H s)(v:aj)(cb:aj->aM->Prop):Inv (X.mk' v cb) aa σ H s:=
 ⟨⟨I.ok.mod,I.ok.kind,I.ok.glob,I.ok.blt,I.ok.above,I.ok.inj,I.ok.has,I.ok.tG,λz=>MY (show false=true from z),I.ok.frames,I.ok.w3,I.ok.C6,I.ok.bs,I.ok.kI,I.ok.sE,I.ok.vX,I.ok.lq,I.ok.pL⟩,I.os,I.bare,I.base,I.loc,I.cell,I.free,I.iR,I.pin,I.a',I.len⟩
def Inv.an8(I:Inv (X.mk' v cb) aa σ H s)(aL:X.Ok):Inv X aa σ H s:=⟨aL,I.os,I.bare,I.base,I.loc,I.cell,I.free,I.iR,I.pin,I.a',I.len⟩
def Inv.cv(I:Inv X aa σ H s)(cb:aj->aM->Prop):Inv {X with cv:=X.cv++aa,cb:=cb} [] σ H s:=
 ⟨⟨I.ok.mod,I.ok.kind,I.ok.glob,I.ok.blt,I.ok.above,I.ok.inj,I.ok.has,I.ok.tG,I.ok.hd,I.ok.frames,I.ok.w3,I.ok.C6,I.ok.bs,I.ok.kI,I.ok.sE,I.ok.vX,I.ok.lq,I.ok.pL⟩,I.os,I.bare,I.base,I.loc,I.cell,I.free,I.iR,λp aB=>I.pin p (by simpa using aB),I.a',I.len⟩
def Inv.qb(I:Inv {X with cv:=X.cv++aa,cb:=cb} lI σ H s)(aL:X.Ok):Inv X aa σ H s:=
 ⟨aL,I.os,I.bare,I.base,I.loc,I.cell,I.free,I.iR,λp aB=>I.pin p (xy _ aB),I.a',I.len⟩
def iK.qb(h:iK {X with cv:=X.cv++aa,cb:=cb} lI D f s)(aL:X.Ok):iK X aa D f s:=by
 cases f with
 | next=>obtain⟨σ',H',I,q⟩:=h;exact⟨σ',H',I.qb aL,q⟩
 | brk=>obtain⟨σ',H',I,q⟩:=h;exact⟨σ',H',I.qb aL,q⟩
 | cont=>obtain⟨σ',H',I,q⟩:=h;exact⟨σ',H',I.qb aL,q⟩
 | ret u=>obtain⟨v,σ',H',I,r,q⟩:=h;exact⟨v,σ',H',I.qb aL,r,q⟩
end
def oy(X:bp)(a:O)(aS:List xp)(kq:O->O->d8):Prop:=
 ∀(aa:List (O×b_))(s:aM)(σ:St)(H:ak)(D:Ends)(C d:O),Inv X aa σ H s->H a=some (jI C d a)->(∃T,tj s.heap a T)->kq C d D σ H->wpAny (model X.prog X.w) X.A (handleBy (.ref a) X.env aS) (iK X aa D) X.cb s
section
variable{X:bp}{a F:O}{x:Str}{p pos:d1}{name:Option Str}{body:List cc}{dG:List xp}{hb:O->O->d8}
def C3{H:ak}(I:Inv X aa σ H s)(aR:H a=some (jI C d a)):Looks (model X.prog X.w) s.heap (typeOf (.ref a)) (.ref C):=by
 obtain⟨⟨vs,he⟩,_,_⟩:=I.a' a _ aR;exact(Looks.ld he).andThen .now
def alx(bl:fd X x)(bx:X.mg x=some (.ref F))(aA:oy X a dG hb)(iT:fC x:=by decide):
  oy X a (.ExceptHandler (some (.Name x p)) name body pos::dG) (λC d D σ H=>exmOne X.K (.ref C) (.ref F)=some false/\hb C d D σ H):=by
 intro aa s σ H D C d I aR fl ⟨ah,q⟩;refine Bq (Bo ?_) (by intro z;cases z)
 refine lF (X:=X.mk' (.ref a) X.cb) (I.mk' _ _) bl bx ?_ iT;refine(exm_one I.eo (C3 I aR) ah).here ?_;exact aA aa s σ H D C d I aR fl q
end
def Cq(X:bp)(a:O)(name:Option Str)(body:List cc)(pos:d1)(rr:O->O->d8):Prop:=
 ∀(aa:List (O×b_))(s:aM)(σ:St)(H:ak)(D:Ends)(C d:O),Inv X aa σ H s->H a=some (jI C d a)->(∃T,tj s.heap a T)->rr C d D σ H->
  codeAny (model X.prog X.w) (X.A.mark (some (.ref a))) (.handlers (.ref a) [.ExceptHandler none name body pos] X.env) (λr s₂=>match r with
   | .ok f=>(match name with
    | none=>iK X aa D f s₂
    | some n=>wpAny (model X.prog X.w) X.A (do bindName X.env n .none;unbindBehindTheSuite X.env n pos) (λ_ w5=>iK X aa D f w5) X.cb s₂)
   | .error x=>cameBackBy (model X.prog X.w) X.A X.env X.cb x s₂) s
section
variable{X:bp}{a mB mC tg th:O}{x x1 x2 x3 x4 n:Str}{bc cL iV m5 pt pos:d1}{kt:Nat}{name:Option Str}{body:List cc}{dG:List xp}{hb rr:O->O->d8}
def VF{s:aM}{H:ak}{Q:Bool->aM->Prop}(I:Inv X aa σ H s)(aR:H a=some (jI C d a))(ah:exmAny X.K (.ref C) [.ref mB,.ref mC,.ref tg,.ref th]=some b)
  (cY:fd X x1)(g8:X.mg x1=some (.ref mB))(dC:fd X x2)(hB:X.mg x2=some (.ref mC))(eX:fd X x3)(ui:X.mg x3=some (.ref tg))(gR:fd X x4)(uj:X.mg x4=some (.ref th))
  (h:∀h',(∀c u,s.heap.get? c=some u->h'.get? c=some u)->Q b {s with heap:=h'})
  (hN:fC x1:=by decide)(oG:fC x2:=by decide)(y8:fC x3:=by decide)(y9:fC x4:=by decide):
  wpAny (model X.prog X.w) (X.A.mark (some (.ref a))) (eval (.Tuple [.Name x1 bc,.Name x2 cL,.Name x3 iV,.Name x4 m5] kt pt) X.env) (λc s₁=>wpAny (model X.prog X.w) (X.A.mark (some (.ref a))) (excMatches (.ref a) c) Q cb s₁) cb s:=by
 have dX:Inv (X.mk' (.ref a) cb) aa σ H s:=I.mk' _ _;refine wpAny_Tuple (xQ (lF (X:=X.mk' (.ref a) cb) dX cY g8 (xQ (lF (X:=X.mk' (.ref a) cb) dX dC hB (xQ (lF (X:=X.mk' (.ref a) cb) dX eX ui (xQ (lF (X:=X.mk' (.ref a) cb) dX gR uj (X8 ⟨by size_fits,?_⟩) y9)) y8)) oG)) hN))
 have cD:∀q o,s.heap.get? q=some o->(s.heap.push {cls:=.type "tuple",data:=.seq [Value.ref mB,Value.ref mC,Value.ref tg,Value.ref th].toArray}).get? q=some o:=λ_ _ z=>cV _ z;exact(exm_tup4 (I.eo.keeps cD) ((C3 I aR).keeps cD) (eT s.heap rfl) ah).here (h _ cD)
def IC{h h':cg}(f:tj h a T)(k:∀c u,h.get? c=some u->h'.get? c=some u):tj h' a T:=by
 obtain⟨oe,vs,oT,ts,he,hd,h1,de,pP,aN,ne⟩:=f;exact⟨oe,vs,oT,ts,k _ _ he,hd,h1,k _ _ de,pP,aN,ne⟩
def T6(cY:fd X x1)(g8:X.mg x1=some (.ref mB))(dC:fd X x2)(hB:X.mg x2=some (.ref mC))(eX:fd X x3)(ui:X.mg x3=some (.ref tg))(gR:fd X x4)(uj:X.mg x4=some (.ref th))(aA:oy X a dG hb)
  (hN:fC x1:=by decide)(oG:fC x2:=by decide)(y8:fC x3:=by decide)(y9:fC x4:=by decide):
  oy X a (.ExceptHandler (some (.Tuple [.Name x1 bc,.Name x2 cL,.Name x3 iV,.Name x4 m5] kt pt)) name body pos::dG) (λC d D σ H=>exmAny X.K (.ref C) [.ref mB,.ref mC,.ref tg,.ref th]=some false/\hb C d D σ H):=by
 intro aa s σ H D C d I aR fl ⟨ah,q⟩;refine Bq (Bo (VF I aR ah cY g8 dC hB eX ui gR uj (λh' k=>?_) hN oG y8 y9)) (by intro z;cases z)
 obtain⟨T,fl⟩:=fl;exact aA aa _ σ H D C d (I.kept (t':=s.toks) k) aR ⟨T,IC fl k⟩ q
def alA(cY:fd X x1)(g8:X.mg x1=some (.ref mB))(dC:fd X x2)(hB:X.mg x2=some (.ref mC))(eX:fd X x3)(ui:X.mg x3=some (.ref tg))(gR:fd X x4)(uj:X.mg x4=some (.ref th))(aD:Cq X a name body pos rr)
  (hN:fC x1:=by decide)(oG:fC x2:=by decide)(y8:fC x3:=by decide)(y9:fC x4:=by decide):
  oy X a (.ExceptHandler (some (.Tuple [.Name x1 bc,.Name x2 cL,.Name x3 iV,.Name x4 m5] kt pt)) name body pos::dG) (λC d D σ H=>exmAny X.K (.ref C) [.ref mB,.ref mC,.ref tg,.ref th]=some true/\rr C d D σ H):=by
 intro aa s σ H D C d I aR fl ⟨ah,q⟩;refine Bq (Bo (VF I aR ah cY g8 dC hB eX ui gR uj (λh' k=>?_) hN oG y8 y9)) (by intro z;cases z)
 obtain⟨T,fl⟩:=fl;exact aD aa _ σ H D C d (I.kept (t':=s.toks) k) aR ⟨T,IC fl k⟩ q
def KQ{i:Nat}{Ho:cc}(e9:X.N.Nodup)(au:X.N[i]? =some n)(ah:X.env.scope.names.lookup n=some .local)(ab:hw (X.mk' (.ref a) λ_ _=>False) (Ho::body) tb):
  Cq X a (some n) (Ho::body) pos (λ_ _ D σ H=>tb ⟨λσ' H'=>D.nx (σ'.set i none) H',D.ey,λσ' H'=>D.f7 (σ'.set i none) H',λσ' H'=>D.ct (σ'.set i none) H'⟩ (σ.set i (some (.ref a))) H):=by
 intro aa s σ H D C d I aR fl q;obtain⟨T,oe,vs,oT,ts,he,hd,h1,de,pP,aN,ne⟩:=fl;refine F2 ?_;show wpAny _ _ (do return Fin.done (<- (handleWith (.ref a) X.env [.ExceptHandler none (some n) (Ho::body) pos]).onRaise (λx=>do noteFrame x X.env;theTreesLotGoes x))) _ _ s
 refine aQ (wpAny_noted ?_);unfold handleWith;have g:∀b,(s.heap.update T (lS (·.setIfInBounds 3 Value.none))).get? b=s.heap.get? b:=λb=>by
  have same:oT.mapFields (·.setIfInBounds 3 Value.none)=oT:=by
   rw[zD pP];have:ts.setIfInBounds 3 Value.none=ts:=by
    apply VX;intro i;by_cases au:i=3
    ·subst au;rw[aN];have:3 < ts.size:=(xl.mp aN).1;simp[this]
    ·rw[VY (Ne.symm au)]
   rw[this, <- pP]
  by_cases ab:b=T
  ·subst ab;rw[mr (lS (·.setIfInBounds 3 Value.none)) de (by rw[same];exact(M9.mp de).2),same,de]
  ·exact lR _ _ (Ne.symm ab)
 refine aQ (rK (aQ (wpAny_setFlight_none he hd h1 de pP (xl.mp aN).1 ?_)));have aW:=I.kept (t':=s.toks) (h':=s.heap.update T (lS (·.setIfInBounds 3 Value.none))) λb u e=>(g b).trans e;refine aQ (X2 (EZ aW e9 au (.inl ah) (v:=.ref a) rfl (λs2 bU=>?_) (.inr ah)));refine aQ (F5 (j4 (ab aa s2 _ H _ (bU.mk' (.ref a) λ_ _=>False) q) (λf s3 aN=>bC (bC ?_)) λ_ _ z=>z.elim));have dq:∀{σ' H'},Inv (X.mk' (.ref a) λ_ _=>False) aa σ' H' s3->∀{Q:Unit->aM->Prop},(∀fI,Inv X aa (σ'.set i none) H' fI->Q () fI)->wpAny (model X.prog X.w) X.A (do bindName X.env n .none;unbindBehindTheSuite X.env n pos) Q X.cb s3:=by
  intro σ' H' b9 Q a9;have b9:=b9.an8 I.ok;refine aQ (X2 (EZ b9 e9 au (.inl ah) (v:=.bb) rfl (λfI iI=>?_) (.inr ah)));unfold unbindBehindTheSuite;have eD:i < σ'.length:=by rw[b9.len];exact(hf.mp au).1
  refine Ya (acJ iI e9 au ah (v:=.bb) (j1 eD) λha tp=>?_);rw[List.set_set]at tp;exact a9 _ tp
 cases f with
 | next=>obtain⟨σ',H',b9,q⟩:=aN;exact dq b9 λfI iI=>⟨_,_,iI,q⟩
 | brk=>obtain⟨σ',H',b9,q⟩:=aN;exact dq b9 λfI iI=>⟨_,_,iI,q⟩
 | cont=>obtain⟨σ',H',b9,q⟩:=aN;exact dq b9 λfI iI=>⟨_,_,iI,q⟩
 | ret u=>obtain⟨v,σ',H',b9,r,q⟩:=aN;exact dq b9 λfI iI=>⟨v,_,_,iI,r,q⟩
end
def anF(n:Nat)(tb:eP->d8)(kq:O->O->O->d8):d8:=λD σ H=>
 tb (λYY za H'=>∃C d,YY= .ref C/\za=some d/\∀a σ',σ'.length=n->H' a=some (jI C d a)->kq a C d D σ' H') D σ H
def an6{H:ak}(aR:H a=some (jI C d a))(b7:vo fr a T h h'):eV fr [] H H h h':=by
 have ne:∀b,H b=none->b≠a:=λb e z=>by subst z;rw[aR]at e;cases e
 refine⟨λb o e n aZ ah=>b7.keep b o (ne b n) aZ e,λb o e n aZ ah=>b7.slot b o (ne b n) e,λb o e n ah=>n,λb o e ah=>?_,λ_ _ q=>q,λ_ _ _ q=>q,λ_ ps q=>⟨#[],by rw[VW];exact q⟩⟩
 by_cases z:b=a
 ·subst z;obtain⟨vs,q⟩:=b7.obj o e;exact⟨_,q⟩
 ·obtain⟨fy,q⟩:=b7.slot b o z e;exact⟨_,q⟩
def alF{X:bp}{h₀:xp}{aS:List xp}{body:List cc}{n:Nat}{tb:eP->d8}{kq:O->O->O->d8}(mT:X.stack=X.env::X.a3)(aH:X.env.frame=some X.env.locals)(ba:X.N.length=n)
  (ab:∀(cv:List (O×b_))(cb:aj->aM->Prop)(E:eP),kE (eb X.prog X.w) {X with cv:=cv,cb:=cb} E->hw {X with cv:=cv,cb:=cb} body (tb E))
  (cu:∀a,oy X a (h₀::aS) (kq a)):hZ X (.Try body (h₀::aS) [] [] pos) (anF n tb kq):=by
 intro aa s σ H D I h;refine wpAny_Try_except (j4 (ab (X.cv++aa) (λe s₁=>wpAny (model X.prog X.w) X.A (noteFrame e X.env) (λ_ s₂=>wpAny (model X.prog X.w) X.A (setFlight e none) (λ_ w5=>wpAny (model X.prog X.w) X.A (handleBy e X.env (h₀::aS)) (iK X aa D) X.cb w5) X.cb s₂) X.cb s₁) _ ?_ [] s σ H D (I.cv _) h) (λf s1 q=>?_) λe s1 q=>q)
 ·intro aqH ni H1 s1 e s2 aW agH;obtain⟨a,C,d,H',rfl,os,bare,un,a',aR,na,fl,dp,d',ag,aF,k⟩:=agH;cases ag;cases aF;have bU:=aW.r2 (ch:=[]) os un a' bare λb ab=>by simp at ab
  have b9:Inv X aa ni H' s2:=bU.qb I.ok;have ar:=b9.stack;have kM:=b9.ok.frames;have wb:∀b∈jO X.stack,H' b=none:=b9.w4;rw[mT]at ar kM;refine Tr kM ar aH (.inr fl) λh' T b7=>?_;have u:=an6 aR b7;rw[<- mT]at b7 u;refine cu a aa _ ni H' D C d (b9.r2 (ch:=[]) (s':={s2 with heap:=h'}) rfl u (RY b9.a' aR wb b7) b9.bare λb ab=>by simp at ab) aR ⟨T,b7.ID⟩ (k a ni (b9.len.trans ba) aR)
 ·cases f with
  | next=>exact bC (iK.qb q I.ok)
  | brk=>exact iK.qb q I.ok
  | cont=>exact iK.qb q I.ok
  | ret u=>exact iK.qb q I.ok
def anD(C:O)(m:Str)(sp:e4)(nP:List V->List V->List V)(E:eP)(aP:TE)(t tk:fi):TE:=λσ H Q=>aP σ H λx H1=>∃a dx fs,x= .ref a/\H1 a=some (.ins C dx fs)/\fs.lookup m=none/\
 t σ H1 λvs H2=>tk σ H2 λkZ H3=>sp (nP (.ref a::vs) kZ) H3 Q E
section
variable{X:bp}{cW:kC}{k:Nat}{f C:O}{aE:f4}{ps ks:List Str}{sp:e4}{E:eP}{m:Str}{pos e6:d1}{e o:ck}{es:List ck}{mX:List rB}{aP:TE}{t tk:fi}{g:List aj->List aj->List aj}{nP:List V->List V->List V}
def alo(he:bz X o aP)(c:jG X.K C)(bx:eO X.K C m f)(F:aY X.prog X.w X.K X.mg X.base cW k f aE ps sp)(aA:dT k X.A)(ab:yl X.K aE ps ks g nP)(ah:kE cW X E)
  (af:jJ X (e::es) t)(ag_:yu X mX tk)(oQ:(backToKw pos (keywordEach mX X.env)).all (·.1.isSome)=true:=by rfl)(ag9:(backToKw pos (keywordEach mX X.env)).filterMap (·.1)=ks:=by rfl)
  (mT:oz X e es:=by rfl)
  (ib:((backTo pos (starEach (e::es) X.env)).any (·.1) || (backToKw pos (keywordEach mX X.env)).any (·.1.isNone))=false:=by rfl)
  (cj:eval (.Call (.Attribute o m e6) (e::es) mX pos) X.env=(do
   let eL <- eval o X.env
   standAt e6.atName
   let(f,first)<- holding [eL] (getMethod eL m pl)
   callWith pos f first (backTo pos (starEach (e::es) X.env)) (backToKw pos (keywordEach mX X.env))):=by rfl):
  bz X (.Call (.Attribute o m e6) (e::es) mX pos) (anD C m sp nP E aP t tk):=by
 intro aa s σ H Q I h;refine Bj (pl:=pl) (bJ (he aa s σ H _ I h) λu s1 ⟨x,H1,aW,bt,a,dx,fs,ex,aR,l,q⟩=>?_) cj;subst ex;obtain rfl:u=Value.ref a:=bt;refine IP aW aR c bx l ?_;refine PySem.W.callWith_KW (first:=[.ref a]) (h₀:=X.base) I.ok.mod.mW bx.cD oQ (bJ (af pos aa s1 σ H1 _ aW q) λus s2 ⟨vs,H2,bU,r,bZ⟩=>?_) ib mT
 refine bJ (ag_ pos aa s2 σ H2 _ bU bZ) λcJ s3 ⟨kZ,H3,b9,n6,fk⟩=>⟨b9.eo,?_⟩;rw[ag9];exact amr (us:=.ref a::us) (vs:=.ref a::vs) F aA ab ah b9 (.cons rfl r) n6 fk
end
end bu
namespace bu
open PySem PySem.Spec PyProof.Rows
section
end
end bu
namespace bu
open PySem PyProof.Rows
def aid(h:sz (.inr x) v=true):∃t,v= .str x t:=by
 rcases oW h with⟨i,t,e,_⟩ | ⟨y,t,e,aF⟩
 ·exact nomatch e
 ·injection e with ag
  exact⟨t,by rw[aF,ag]⟩
def VQ:∀{us:List aj}{ys:List Str},j3 us ys->cz (ys.map V.str) us
 | _,_,.nil=>.nil
 | _,_,.cons y t h=>.cons ⟨t,rfl⟩ (VQ h)
def Mo:∀{us:List aj}{ys:List Str},us.length=ys.length->(∀(j:Nat) u,us[j]? =some u->∃y t,ys[j]? =some y/\u= .str y t)->j3 us ys
 | [],[],_,_=>.nil
 | [],_::_,e,_=>by simp at e
 | _::_,[],e,_=>by simp at e
 | u::us,y::ys,e,h=>by
  obtain⟨y',t,ag,aF⟩:=h 0 u rfl;have ag:y=y':=by simpa using ag
  subst ag;subst aF;exact .cons y t (Mo (by simpa using e) λj u aD=>by simpa using h (j+1) u (by simpa using aD))
section
variable{prog:dn}{w:cH}{A:d0}{E:aj->aM->Prop}{s:aM}
def U3{ss:List Str}{Q:aj->aM->Prop}(i_:ss.length < 64)
  (I6:∀R:List aj->aM->Prop,(∀(h1:cg)(tk:Nat)(vs:List aj),j3 vs ss->(∀b o,s.heap.get? b=some o->h1.get? b=some o)->R vs {s with heap:=h1,toks:=tk})->wpAny (model prog w) A.in1 (collect (.ref r)) R E s)
  (h:∀(h1 h':cg)(tk:Nat)(l:O)(ih:List aj)(e:Nat)(ss':List Str),(∀b o,s.heap.get? b=some o->h1.get? b=some o)->(∀b o,h1.get? b=some o->h'.get? b=some o)->h1.objs.size<=l->h'.get? l=some (seqObj "list" ih.toArray e)->j3 ih ss'->ss'.Perm ss->sortedS ss'=true->
   Q (.ref l) {s with heap:=h',toks:=tk}):wpAny (model prog w) A (call (.builtin "sorted") [.ref r]) Q E s:=by
 refine Wd kind_sorted plain_sorted entry_sorted (args_sorted1 _) ?_;unfold Builtin.«sorted»;refine aQ (m:=checkCount "sorted" 1 1 _) (bC ?_);refine aQ (I6 _ λh1 tk vs dE k=>?_);have ar:vs.length < 64:=by
  have:vs.length=ss.length:=by rw[<- dE.strs,dV]
  omega
 refine aQ (N1 ?_);have pR:(h1.push (seqObj "list" vs.toArray 0)).get? h1.objs.size=some (seqObj "list" vs.toArray 0):=eT _ rfl;show wpAny _ _ _ _ _ {s with heap:=h1.push (seqObj "list" vs.toArray 0),toks:=tk}
 refine aQ (jF (tc XT ⟨_,pR,rfl⟩ XK (XQ XY pR dE.keysOf (λFi Fj dG e=>keyKind_strs (by rw[<- e];exact dE)) ar λiZ aB aS=>⟨_,rfl,?_⟩) (XG _)))
 obtain⟨ss',eH,ek,o_⟩:=XX dE aB aS;obtain⟨e,he⟩:=XU (out:=(arrOf iZ).map (·.2)) pR;refine bC ⟨_,rfl,?_⟩;refine h h1 _ tk _ _ e ss' k (λb o ao=>?_) (c9 _) he eH ek o_;rw[XW (d3 (dm ao)) (by rw[size_push'];exact rF (dm ao))]
 exact cV _ ao
end
section
variable{X:bp}
def Inv.DR{H:ak}{h1 h':cg}{tk:Nat}{l:O}{vs:List aj}(I:Inv X aa σ H s)(en:∀b o,s.heap.get? b=some o->h1.get? b=some o)(ev:∀b o,h1.get? b=some o->h'.get? b=some o)(ar:h1.objs.size<=l)
  (he:h'.get? l=some (seqObj "list" vs.toArray e))(dE:j3 vs ss)(hz:ss.length<=sizeLine):H l=none/\Inv X aa σ (a1 H l (.lst (ss.map V.str))) {s with heap:=h',toks:=tk}:=by
 have aW:Inv X aa σ H {s with heap:=h1,toks:=tk}:=I.kept en
 refine⟨aW.a'.fresh ar,aW.laid (t':=tk) ev ar ⟨by simpa using hz,vs,e,VQ dE,he⟩⟩
def y1:ji X (.builtin "sorted") (λxs H Q=>∃(p:O)(ss:List Str),xs=[.ref p]/\H p=some (.lst (ss.map V.str))/\ss.length < 64/\
  ∀l ss',H l=none->ss'.Perm ss->sortedS ss'=true->Q (.ref l) (a1 H l (.lst (ss'.map V.str)))):=by
 intro aa s σ H xs us Q I r h;obtain⟨p,ss,rfl,aB,i_,q⟩:=h;obtain⟨u,rfl,dO⟩:=r.one;cases dO;obtain⟨its,cf,pl,_⟩:=I.list (cS.of aB);have eh:its.length=ss.length:=by rw[<- cf.length];simp
 refine sorted_strs pl.isList (AM cf) (by omega) λout ss' dK dy fD=>?_
 obtain⟨e,he⟩:=sortedAll_at s.heap its out;have ar:s.heap.objs.size<=s.heap.objs.size+1:=oj _;obtain⟨nl,dX⟩:=I.DR (tk:=s.toks) (h1:=s.heap) (λ_ _ z=>z) (λb o z=>sortedAll_old z) ar he dK (by rw[dy.length_eq,k1];omega)
 exact⟨.ref _,_,dX,rfl,q _ ss' nl dy fD⟩
end
end bu
namespace bu
open PySem PySem.Spec PyProof.Rows
def OO(K:b5)(a:O):It:=
 ⟨λi H=>∃xs x,cS K H a xs/\xs[i]? =some x,λi H v H'=>∃(p:O)(x:V),v= .ref p/\H p=none/\H'=a1 H p (.tup [.int (i:Int),x])/\∀xs,cS K H a xs->xs[i]? =some x,λi H=>∃xs,cS K H a xs/\xs.length<=i⟩
def anZ{P:dn}{w:cH}{K:b5}{es:List ck}{x1:Nat}{ME:d1}(a it e:O)(ia:e≠it):vx P w K (.Tuple es x1 ME) (OO K a) [e,it] e (λi h=>(∃old,IsEnum h e it (i:Int) old)/\h.IsListIter it a i) where
 mem:=by simp
 obj:=λi h st b ab=>by
  obtain⟨⟨old,he⟩,sl⟩:=st;rcases dR.mp ab with rfl | ab
  ·exact⟨_,he,λv z=>by
    have z':M6 _=Wh v:=z;cases z'⟩
  ·have ab:b=it:=by simpa using ab
   subst ab;obtain⟨o,e,c,d⟩:=sl;exact⟨o,e,λv z=>by rw[d]at z;cases z⟩
 keep:=λi h h' st k=>⟨let⟨old,he⟩:=st.1;⟨old,k e (by simp) _ he⟩,st.2.at λo q=>k it (by simp) o q⟩
 item:=by
  intro X dj b0 iS aL i aa s σ H E I aH st bl;subst dj b0 iS;obtain⟨xs,x,a9,ah⟩:=bl;obtain⟨⟨old,he⟩,sl⟩:=st;obtain⟨its,cf,p,hz⟩:=I.list a9;obtain⟨u,aD,dO⟩:=cf.get ah;refine wpAny_pyNext_enum_item he sl p.isList (x:=u) (by simpa using aD) ia λh' sk ag1 cj hsz aw=>⟨_,rfl,?_⟩
  refine wpAny_letOwnedTupleGo_enum sk λh2 agL pS=>?_
  replace pS:i0 e h' h2:=pS
  have PX:s.heap.objs.size≠e:=ph (dm he);have ahy:=(pS.2 _ PX).trans cj;have Dv:∀b o,b∉[e,it]->s.heap.get? b=some o->h2.get? b=some o:=λb o ab q=>by
   have dD:b≠e:=λz=>ab (by simp[z])
   have fH:b≠it:=λz=>ab (by simp[z])
   exact(pS.2 b dD).trans (aw b o dD fH q)
  have ba:H s.heap.objs.size=none:=I.a'.fresh (c9 _);have ag2:h2.IsListIter it a (i+1):=ag1.at λo q=>(pS.2 it (Ne.symm ia)).trans q;have ne:∀{b:O}{o:b_},s.heap.get? b=some o->b≠s.heap.objs.size:=λq=>d3 (dm q);have uP:∀b o,H b=some o->b∉[e,it]:=λb o q z=>by
   rw[(aH b z).1]at q;cases q
  have R3:∀b ys,H b=some (.tup ys)->a1 H s.heap.objs.size (.tup [.int (i:Int),x]) b=some (.tup ys):=λb ys q=>by
   rw[bj (λz=>by rw[z,ba]at q;cases q)];exact q
  have a':eN X.prog X.w (a1 H s.heap.objs.size (.tup [.int (i:Int),x])) h2:=by
   intro b o q;by_cases ab:b=s.heap.objs.size
   ·subst ab;rw[cw]at q;cases q;exact⟨by show 2<=sizeLine;decide,[.int i s.toks,u],.cons ⟨_,rfl⟩ (.cons dO .nil),⟨_,ahy,rfl,_,rfl⟩⟩
   ·rw[bj ab]at q;refine(I.a' b o q).p8 (λc v aL z=>Dv c v ?_ z) (λc z=>(bj (λy=>by rw[y,ba]at z;cases z)).trans z) R3
    rcases aL with rfl | aL
    ·exact uP _ _ q
    ·exact uP _ _ aL
  have bU:Inv X aa σ (a1 H s.heap.objs.size (.tup [.int (i:Int),x])) {s with heap:=h2,toks:=s.toks+1}:=by
   refine I.r2 (ch:=[e,it]) (s':={s with heap:=h2,toks:=s.toks+1}) rfl ⟨λb o q n ab ah=>Dv b o ah q,λb o q n ab ah=>⟨o.slots,Dv b o ah q⟩,λb o q n ah=>(bj (ne q)).trans n,λb o q ah=>⟨o,Dv b o ah q⟩,R3,λb o fg q=>?_,λb ps q=>⟨#[],?_⟩⟩ a' I.bare λb ab=>?_
   ·exact(bj (λy=>by rw[y,ba]at q;cases q)).trans q
   ·rw[VW];exact(bj (λy=>by rw[y,ba]at q;cases q)).trans q
   ·obtain⟨iv,f1,fF,dc,hh,hx⟩:=aH b ab;exact⟨dc,f1,hh,hx⟩
  refine⟨.ref s.heap.objs.size,_,bU,rfl,⟨_,x,rfl,ba,rfl,λys b2=>by rw[I.SM b2 a9];exact ah⟩,⟨⟨_,by simpa using agL⟩,ag2⟩,λb ab=>?_⟩
  have agz:=(aH b ab).1;rw[bj ?_]
  ·exact agz
  ·rcases dR.mp ab with z | z
   ·rw[z];exact Ne.symm PX
   ·have z:b=it:=by simpa using z
    obtain⟨o,q,_⟩:=sl;rw[z];exact ne q
 done:=by
  intro X dj b0 iS aL i aa s σ H E I aH st bl;subst dj b0 iS;obtain⟨xs,a9,ah⟩:=bl;obtain⟨⟨old,he⟩,sl⟩:=st;obtain⟨its,cf,p,hz⟩:=I.list a9;obtain⟨iv,f1,fF,dc,hh,hx⟩:=aH it (by simp)
  have ar:=cf.length;exact wpAny_pyNext_enum_end (I.ok.hd aL) he sl p.isList (by simp;omega) λh' cC=>⟨rfl,I.turned (t':=s.toks) (λb o ab e=>cC b o ab e) iv f1 dc hh hx⟩
 self:=λ_ _ _ _ _ st h=>let⟨_,he⟩:=st.1;Yc he h
section
variable{X:bp}{es:List ck}{x1:Nat}{ME:d1}
def Sb(K:b5)(aP:fi):TI:=λσ H R=>aP σ H λvs H1=>∃a,vs=[.ref a]/\(∃xs,cS K H1 a xs)/\R (OO K a) H1
def alB{e:ck}{aP:fi}{p pos:d1}(bl:fd X "enumerate")(bx:X.mg "enumerate"=none)(af:jJ X [e] aP)(aS:starEach [e] X.env=[(false,eval e X.env)]:=by rfl):mE X (.Tuple es x1 ME) (.Call (.Name "enumerate" p) [e] [] pos) (Sb X.K aP):=by
 intro aa s σ H R I h;refine Call_ (qV I bl bx boot_enumerate (Np (bJ (af pos aa s σ H _ I h) λus s1 ⟨vs,H1,aW,b4,ao⟩=>?_) aS rfl));obtain⟨a,rfl,⟨xs,a9⟩,q⟩:=ao;obtain⟨u,rfl,dO⟩:=b4.one;cases dO;obtain⟨its,cf,pl,hz⟩:=aW.list a9;refine call_enumerate_list pl.isList λh' he sl hsz aw=>Yc he ?_;have bU:Inv X aa σ H1 {s1 with heap:=h'}:=aW.kept (t':=s1.toks) aw
 have ne:s1.heap.objs.size+1≠s1.heap.objs.size:=Nat.succ_ne_self _;refine⟨s1.heap.objs.size+1,[s1.heap.objs.size+1,s1.heap.objs.size],_,_,H1,rfl,bU,anZ a s1.heap.objs.size (s1.heap.objs.size+1) ne,⟨⟨_,he⟩,sl⟩,λb ab=>?_,q⟩;have ab:s1.heap.objs.size<=b:=by
  rcases dR.mp ab with z | z
  ·rw[z];exact oj _
  ·have z:b=s1.heap.objs.size:=by simpa using z
   rw[z];exact c9 _
 exact aW.qJ ab (aW.a'.fresh ab)
end
section
variable{X:bp}{aa:List (O×b_)}{σ:St}{H:ak}{s:aM}{d:O}{o:b_}{kvs:List (bM×V)}
def Inv.swap(I:Inv X aa σ H s)(aD:H d=some u)(cj:∀xs,u≠ .tup xs)(aZ:∀a,u≠ .own a)(ab:∀ps,u≠ .lP ps)(aH:∀o' fg,X.H₀ d≠some (.eQ o' fg))(new:fZ X.prog X.w (a1 H d v) s.heap d v):Inv X aa σ (a1 H d v) s:=by
 have ne:∀{b:O},H b=none->b≠d:=λn z=>by rw[z,aD]at n;cases n
 refine⟨I.ok,I.os,I.bare,⟨I.base.keep,I.base.slot,λb bW e n ah=>?_,I.base.there,λb xs e=>?_,λb bW fg e=>?_,λb ps e=>?_⟩,I.loc,I.cell,?_,λx c e=>?_,λp aB=>?_,λb bW e=>?_,I.len⟩
 ·exact(bj (ne (I.base.free b bW e n ah))).trans (I.base.free b bW e n ah)
 ·have q:=I.base.tups b xs e;rw[bj (λz=>by rw[z,aD]at q;exact cj xs (hW q))];exact q
 ·rw[bj (λz=>by rw[z]at e;exact aH _ _ e)];exact I.base.l5 b bW fg e
 ·obtain⟨more,q⟩:=I.base.nd b ps e;refine⟨more,?_⟩;rw[bj (λz=>by rw[z,aD]at q;exact ab _ (hW q))];exact q
 ·exact(bj (ne I.free)).trans I.free
 ·exact(bj (ne (I.iR x c e))).trans (I.iR x c e)
 ·obtain⟨e,n,r⟩:=I.pin p aB;exact⟨e,(bj (ne n)).trans n,r⟩
 ·by_cases h:b=d
  ·subst h;rw[cw]at e;cases e;exact new
  ·rw[bj h]at e;refine(I.a' b bW e).p8 (λ_ _ _ q=>q) (λc q=>?_) λc xs q=>?_
   ·rw[bj (λz=>by rw[z,aD]at q;exact aZ _ (hW q))];exact q
   ·rw[bj (λz=>by rw[z,aD]at q;exact cj _ (hW q))];exact q
def Inv.To(I:Inv X aa σ H s)(hd:H d=some u)(aD:∀o' fg,u≠ .eQ o' fg):∀o' fg,X.H₀ d≠some (.eQ o' fg):=λo' fg e=>by
 have:=I.base.l5 d o' fg e;rw[hd]at this;exact aD o' fg (hW this)
def Inv.freeze(I:Inv X aa σ H s)(hd:H d=some (.a7 kvs))(aZ:s.heap.get? d=some o):Inv X aa σ (a1 H d (.eQ o (.a7 kvs))) s:=
 I.swap hd (λ_ z=>nomatch z) (λ_ z=>nomatch z) (λ_ z=>nomatch z) (I.To hd λ_ _ z=>nomatch z) ⟨aZ,by
  obtain⟨z,y,vs,r,q⟩:=I.a' d _ hd;exact⟨z,y,vs,r,q⟩⟩
def Inv.AS(I:Inv X aa σ H s)(hd:H d=some (.eQ o (.a7 kvs)))(aH:∀o' fg,X.H₀ d≠some (.eQ o' fg)):Inv X aa σ (a1 H d (.a7 kvs)) s:=
 I.swap hd (λ_ z=>nomatch z) (λ_ z=>nomatch z) (λ_ z=>nomatch z) aH (by
  obtain⟨_,z,y,vs,r,q⟩:=I.a' d _ hd;exact⟨z,y,vs,r,q⟩)
def Cg(d:O)(o:b_)(kvs:List (bM×V)):It:=
 ⟨λi H=>H d=some (.eQ o (.a7 kvs))/\i < kvs.length,λi H x H'=>H'=H/\∃k v,kvs[i]? =some (k,v)/\x=dF k,λi H=>H d=some (.eQ o (.a7 kvs))/\kvs.length<=i⟩
def ah8(h:sz k u=true):RelV (dF k) u:=by
 rcases oW h with⟨i,t,rfl,rfl⟩ | ⟨x,t,rfl,rfl⟩
 ·exact⟨t,rfl⟩
 ·exact⟨t,rfl⟩
def Rc(ok:eN P w H h)(hd:H d=some (.eQ o (.a7 kvs)))(aZ:o.data= .dict es ep):∃vs,fY kvs vs/\h.DictAt (fG P w) d vs ep/\(d==sysModules)=false:=by
 obtain⟨e,z,y,vs,r,o',g4,l2,bQ,c,bN,dG⟩:=ok d _ hd;rw[e]at bQ;cases bQ;rw[aZ]at bN;cases bN;exact⟨vs,r,⟨o,es,e,c,aZ,dG⟩,y⟩
def VG{P:dn}{w:cH}{K:b5}{dH:ck}{es:Array DictEntry}{ep:Nat}(it:O)(aZ:o.data= .dict es ep):vx P w K dH (Cg d o kvs) [it] it (λi h=>h.IsKeyIter it d i kvs.length ep) where
 mem:=by simp
 obj:=λi h st b ab=>by
  have e:b=it:=by simpa using ab
  subst e;obtain⟨o,e,c,d⟩:=st;exact⟨o,e,λv z=>by rw[d]at z;cases z⟩
 keep:=λi h h' st k=>let⟨Kr,e,r⟩:=st;⟨Kr,k it (by simp) Kr e,r⟩
 item:=by
  intro X dj b0 iS aL i aa s σ H E I aH st bl;subst dj b0 iS;obtain⟨hd,au⟩:=bl;obtain⟨vs,rel,bN,_⟩:=Rc I.a' hd aZ;obtain⟨iv,f1,fF,dc,hh,hx⟩:=aH it (by simp)
  have ar:kvs.length=vs.length:=rel.length;have RP:i < vs.length:=by rw[<- ar];exact au
  rw[ar]at st;have nN:kvs[i].1=vs[i].1:=by
   have:=congrArg (·[i]?) rel.keys;simpa[ft,au,RP]using this
  refine wpAny_pyNext_dict_item st bN (k:=vs[i].1) (v:=vs[i].2) (by simp[RP]) λkey h' aw iZ dU=>?_
  have aW:Inv X aa σ H {s with heap:=h'}:=I.turned (t':=s.toks) (λb o ab e=>(dU.2 b ab).trans e) iv f1 dc hh hx
  obtain⟨Kr,e,c,dt⟩:=id iZ;refine⟨key,rfl,Dj (s:={s with heap:=h'}) e c dt (by decide) ⟨dF kvs[i].1,H,aW,ah8 (by rw[nN];exact aw),⟨rfl,kvs[i].1,kvs[i].2,by simp[au],rfl⟩,by rw[ar];exact iZ,λb ab=>(aH b ab).1⟩⟩
 done:=by
  intro X dj b0 iS aL i aa s σ H E I aH st bl;subst dj b0 iS;obtain⟨hd,au⟩:=bl;obtain⟨vs,rel,bN,_⟩:=Rc I.a' hd aZ;obtain⟨iv,f1,fF,dc,hh,hx⟩:=aH it (by simp)
  have ar:kvs.length=vs.length:=rel.length;rw[ar]at st;exact wpAny_pyNext_dict_end (I.ok.hd aL) st bN (by simp;omega) λh' cC=>⟨rfl,I.turned (t':=s.toks) (λb o ab e=>cC b o ab e) iv f1 dc hh hx⟩
 self:=λ_ _ _ _ _ st h=>wpAny_pyIter_keyiter st h
end
end bu
namespace bu
open PySem
def adZ:entryFor table "set.__iter__"=some Builtin.«frozenset.__iter__»:=XI (id':="frozenset.__iter__") (by kernel_rfl) rfl (by decide+kernel) (by kernel_rfl)
def rm:Slot "set_iterator" "__next__" "set_iterator.__next__":=
 .of (owner:="set_iterator") (n:="__next__") (by rw[NT,NL];kernel_rfl) (by decide+kernel) (by decide+kernel) (by decide+kernel) (by first | exact .inl (by decide+kernel) | exact .inr (by decide+kernel)) (by rw[NN];kernel_rfl)
def wZ:Slot "set_iterator" "__iter__" "set_iterator.__iter__":=
 .of (owner:="set_iterator") (n:="__iter__") (by rw[NT,NL];kernel_rfl) (by decide+kernel) (by decide+kernel) (by decide+kernel) (by first | exact .inl (by decide+kernel) | exact .inr (by decide+kernel)) (by rw[NN];kernel_rfl)
def P1:entryFor table "set_iterator.__next__"=some Builtin.«set_iterator.__next__»:=XJ (by kernel_rfl)
def O5(a:aj):argsOk "set_iterator.__next__" ⟨[a],[]⟩:=by unfold argsOk;kernel_rfl
def Hb(a:aj):argsOk "set_iterator.__iter__" ⟨[a],[]⟩:=by unfold argsOk;kernel_rfl
def aiE:typeLookup (.type "set") "__len__"=pure (some (.builtin "set.__len__")):=by rw[NT,NL];kernel_rfl
def Ea(j:Nat)(led:Bool):mz:={mask:=7,place:= #[j],dummies:= #[],finger:=0,led:=led,moves:=0,plain:=false}
def akY(cu:Int)(x:Str)(t:i3)(j:Nat)(led:Bool):b_:={cls:=.type "set",dict:=none,data:=.set #[(cu,.str x t)] 1 (Ea j led)}
section
end
def aaR(j:Nat):Bl #[j] 0=0:=by simp[Bl,NG]
def aaS(j:Nat):Bl #[j] (j+1)=1:=by simp[Bl,NG]
section
end
end bu
namespace bu
open PySem PySem.W
def Ic:entryFor table "set_iterator.__iter__"=some Builtin.«dict_keyiterator.__iter__»:=XI (id':="dict_keyiterator.__iter__") (by kernel_rfl) rfl (by decide+kernel) (by kernel_rfl)
section
variable{prog:dn}{w:cH}{A:d0}{E:aj->aM->Prop}{s:aM}{a:O}{j:Nat}
def ag0{Q:Bool->aM->Prop}(de:s.TypeIs (.ref a) "set")(h:Q false s):wpAny (model prog w) A (V_ (.ref a)) Q E s:=by
 unfold V_;refine aQ (Yf de aiE ?_);generalize RO:("set.__len__":String)=ahN
 wp_delta
 rw[show splitId ahN=some ("set","__len__")from by subst RO;decide+kernel]
 subst RO;refine aQ (X6 (T:="set") (b:=true) de (by rw[NN];kernel_rfl) ?_)
 refine NY (λv_=>absurd v_ (by decide)) λ_=>NY (λ_=>?_) (λv_=>absurd (by decide+kernel) v_)
 exact aQ (F' de (bC h))
def aix(led:Bool)(e:Int)(v:aj):layNew (.fresh 0 0 led) #[] e v=(#[(e,v)],{Ea (NH e % 8) led with plain:=true},false,false):=by
 have h:(xM 0 0 led).freeSlot e=some (NH e % 8,false):=by
  unfold SetTable.freeSlot SetTable.probe;show(match Xy (xM 0 0 led) (λ_=>e+1) e 220 ((xM 0 0 led).probeStart e)with | some (.empty j PU)=>some (PU.getD j,PU.isSome) | _=>none)=_
  unfold Xy;have:(xM 0 0 led).slot ((xM 0 0 led).probeStart e).j= .empty:=by
   simp[SetTable.slot,xM,SetTable.has,Bl,NG]
  rw[this];rfl
 unfold layNew;rw[h];rfl
end
end bu
namespace bu
open PySem PyProof.Rows
abbrev oY(led:Bool):b_:={cls:=.type "set",dict:=none,data:=.set #[] 0 (.fresh 0 0 led)}
section
variable{prog:dn}{w:cH}{A:d0}{E:aj->aM->Prop}{s:aM}{a:O}{x:Str}{t:i3}{led:Bool}
def anf{Q:Bool->aM->Prop}(aZ:s.heap.get? a=some (oY led))
  (h:∀h',h'.get? a=some (akY (hashStr w x) x t (NH (hashStr w x) % 8) led)->i0 a s.heap h'->Q true {s with heap:=h',toks:=s.toks+1}):wpAny (model prog w) A (setAdd a (.str x t)) Q E s:=by
 unfold setAdd;refine jF (aQ (N3 ?_));unfold setAddHashed setAddHashedIn;refine jF (aQ (u9 (s:={s with toks:=s.toks+1}) aZ rfl (by rfl) ?_))
 dsimp only;rw[if_pos (show byScan (.str x t) #[]=true from by simp[byScan,Value.scannable,scanBound])]
 refine aQ ?_;unfold setAddByScan;have sc:setScan a (.str x t) (hashStr w x) true #[]=pure .absent:=by simp[setScan,setScanStrs]
 refine aQ (Bv (aQ (F7 sc ?_)));dsimp only;rw[aix];dsimp only;refine aQ (bC ?_);rw[if_pos rfl];refine aQ (m:=hashByValue 8 (.str x t)) (bC ?_);rw[if_neg hG];refine aQ (N5 (s:={s with toks:=s.toks+1}) aZ rfl ?_ (by show 1<=sizeLine;decide))
 rw[if_neg (show ¬((!false && (XB _))=true)from by simp[XB,SetTable.fill,Ea])]
 refine bC (bC (h _ ?_ (rA ..)));exact mr (xG _ _) aZ rfl
end
section
end
section
variable{prog:dn}{w:cH}{A:d0}{E:aj->aM->Prop}{s:aM}
def ajp(v:aj){Q₁:aj->aM->Prop}(h:Q₁ (.ref s.heap.objs.size) {s with heap:=s.heap.push (oY (!w.params.followText "set-order"))}):
  codeAny (model prog w) A (.call (.builtin "set.__new__") ⟨[.type "set",v],[]⟩) (wants Q₁ E) s:=by
 refine F2 (show wpAny _ A.in1 (do checkBuiltinCall "set.__new__" ⟨[.type "set",v],[]⟩;again (.builtin "set.__new__" ⟨[.type "set",v],[]⟩)) _ _ s from ?_)
 refine aQ (F7 (F.newCall_set_1 v) (bC ⟨pn Wk _,pk F.entry_set_new ?_⟩));rw[qi Wk _];unfold Builtin.«set.__new__» aoV;have ss:=sub_set_self;obtain⟨aB,g,d,tk,os⟩:=s;dsimp only
 wp_walk
 refine xP (bC ?_);dsimp only;simp only[newObj];exact aQ (NW (bC (bC h)))
end
section
end
structure bT(K:b5)(x qual:Str)(st:cc)(f:O)(aE:f4):Prop where
 ex:∃(jd:aj)(od:Option O)(oH dF fj dM:aj)(an:Option O)(bA ct:aj)(kT:Array (Option aj)),
  aE=ht x qual (hO st) (fE st) (bY st) oH dF fj dM an bA ct/\K.lookup f=some ⟨jd,od,.func aE,kT⟩/\qk K bA qual=true
 cD:jE K (.ref f)=true
section
variable{P:dn}{w:cH}{K:b5}{mg:Str->Option aj}{base:cg}{x qual:Str}{st:cc}{f:O}{aE:f4}{N ps:List Str}{k:Nat}{sp:e4}
def bT.ok(F:bT K x qual st f aE)(S:cX N ps (bY st))(len:∀vs H Q E,sp vs H Q E->vs.length=ps.length)
  (zM:∀(bA:aj)(A:d0)(a3:List fL)(s:aM)(H:ak)(vs:List V)(Q:c3)(E:eP),dT k (A.deeper (envOfC qual (bY st) s.heap.objs.size f bA))->sp vs H Q E->
   ∃t,hw (jk bq P w K mg base N qual (bY st) f bA A a3 s H E).nZ (fE st) t/\t {nx:=λ_ H'=>Q .bb H',ey:=Q} (start N vs) H):aY P w K mg base bq (k+1) f aE ps sp:=by
 obtain⟨jd,od,oH,dF,fj,dM,an,bA,ct,kT,rfl,lk,kL⟩:=F.ex;refine IE lk kL S len λA a3 s H vs Q E aA kO=>?_;obtain⟨t,h,q⟩:=zM bA A a3 s H vs Q E aA kO;exact⟨t,h.nZ,q⟩
def bT.TB(F:bT K x qual st f aE)(S:cX N ps (bY st))(len:∀vs H Q E,sp vs H Q E->vs.length=ps.length)
  (zM:∀(bA:aj)(A:d0)(a3:List fL)(s:aM)(H:ak)(vs:List V)(Q:c3)(E:eP),dT k (A.deeper (envOfC qual (bY st) s.heap.objs.size f bA))->sp vs H Q E->
   ∃t,hw (jk (eb P w) P w K mg base N qual (bY st) f bA A a3 s H E) (fE st) t/\t {nx:=λ_ H'=>Q .bb H',ey:=Q} (start N vs) H):aY P w K mg base (eb P w) (k+1) f aE ps sp:=by
 obtain⟨jd,od,oH,dF,fj,dM,an,bA,ct,kT,rfl,lk,kL⟩:=F.ex;refine IE lk kL S len λA a3 s H vs Q E aA kO=>?_;obtain⟨t,h,q⟩:=zM bA A a3 s H vs Q E aA kO;exact⟨t,h,q⟩
def o3(he:bz (jk (eb P w) P w K mg base N qual aX f cd A a3 s H E) e te):
  hZ (jk (eb P w) P w K mg base N qual aX f cd A a3 s H E) (.Raise (some e) none pos) (MA H K te E):=by
 refine alE he rfl rfl λaa σ H1 s1 a C d I aR na hE zJ=>?_;exact SH I rfl rfl rfl aR na hE zJ
end
end bu
namespace bu
open PySem PySem.Spec PyProof.Rows PySem.W
def Gq(K:nk)(B jb:String)(C:O):Prop:=∃(nm q:Str)(N:O)(bs d9:List aj)(ly:Bool)(lM:List Str)(sub:List aj)(iN:Bool)(col:Option Bool)(bN:Option O)(eE en ev hj lE:Option aj),
 K.lookup C=some (excClassObj nm q C N bs d9 ly lM sub iN col bN eE en ev hj lE jb)/\(Value.ref C::d9).contains (.type B)=true
section
variable{A:d0}{h:cg}{g:Array GenState}{d:pf}{t:Nat}{os:OsState}{nm q:Str}{C N:O}{bs d9:List aj}{ly:Bool}{lM:List Str}{sub:List aj}{iN:Bool}{col:Option Bool}{bN:Option O}{eE en ev hj lE:Option aj}{B jb oV:String}{nG:List aj}
def ahQ(F:s6 B jb oV nG)(lx:(Value.ref C::d9).contains (.type B)=true){x:O}{more:List aj}{Q:Unit->aM->Prop}
  (gH:h.get? C=some (excClassObj nm q C N bs d9 ly lM sub iN col bN eE en ev hj lE jb))(ah:h.get? x=some Eh)(aL:Eh.cls= .ref C)(ok:Q () ⟨h,g,d,t,os⟩):wpAny M A (checkBuiltinCall oV ⟨.ref x::more,[]⟩) Q E ⟨h,g,d,t,os⟩:=by
 have anq:=F.noStar;simp only[checkBuiltinCall,F.initKind,F.initSplit,F.initRow]
 repeat (first | (with_reducible refine rJ ah ?_;rw[aL]) | with_reducible refine rJ gH ?_ | (with_reducible refine Br gH ?_;rw[lx]) | wp_step)
 refine Ya ?_;have ajw:∀(u v:String)(n:Nat),Bind.check ⟨.positional,"*",B,.self,[⟨"args",.varPos,false⟩]⟩ u v n (List.map (λy=>y.fst) ({pos:=Value.ref x::more}:Args).kw)=pure ():=λu v n=>check_star_args _ _ _ _ _ _;rw[ajw];exact bC ok
end
section
variable{X:bp}
def Pm(B:String)(F:s6 B jc JE d9):
  ji X (.builtin JE) (λxs H Q=>∃(a C:O)(bN:Option O)(y:Str),xs=[.ref a,.str y]/\H a=some (iG C bN a)/\Gq X.K B jc C/\Q .bb H):=by
 intro aa s σ H xs us Q I r h;obtain⟨a,C,bN,y,rfl,aR,⟨nm,q,N,bs,apZ,ly,lM,sub,iN,col,PB,eE,en,ev,hj,lE,JS,lx⟩,me⟩:=h;obtain⟨u,v,rfl,bt,br⟩:=r.two;obtain rfl:u= .ref a:=bt;obtain⟨tk,rfl⟩:=(show ∃tk,v=Value.str y tk from br)
 obtain⟨⟨t0,af⟩,_,_⟩:=I.a' a _ aR;have gH:=I.eo _ _ JS;have dq:∀s',Inv X aa σ H s'->gj X aa σ Q .none s':=λs' dX=>⟨.bb,H,dX,rfl,me⟩;obtain⟨aB,g,vQ,E9,os⟩:=s;refine qm (F1 F.init.plain F.initEntry (ahQ F lx gH af rfl ?_));unfold Builtin.«BaseException.__init__»;show wpAny _ _ (newTuple [.str y tk]>>=λv=>V7 (.ref a) 0 v >>=λ_=>ret .none) _ _ _;refine aQ (X' ?_);have af:aB.get? a=some _:=af;have Dq:=cV (seqObj "tuple" #[.str y tk] 0) af;unfold V7;refine aQ (aQ (Bp Dq rfl (x:=t0) rfl ?_));refine aQ (xS Dq rfl (by show 0 < 6;decide) ?_)
 have RC:((aB.push (seqObj "tuple" #[.str y tk] 0)).update a (lS (·.setIfInBounds 0 (.ref aB.objs.size)))).get? a=some ⟨.ref C,bN,.fields #[.ref aB.objs.size,.none,.none,.none,.bool false,.none], #[]⟩:=
  mr _ Dq rfl
 have aW:Inv X aa σ H ⟨aB.push (seqObj "tuple" #[.str y tk] 0),g,vQ,E9,os⟩:=I.kept (t':=E9) λb o e=>cV _ e;have bU:Inv X aa σ (a1 H a (iG C bN a)) ⟨(aB.push (seqObj "tuple" #[.str y tk] 0)).update a (lS (·.setIfInBounds 0 (.ref aB.objs.size))),g,vQ,E9,os⟩:=
  aW.write (x:=a) (e:=a) (t':=E9) (by rw[aR];exact trivial) (.inl rfl) (λb o ab z=>(lR _ _ (Ne.symm ab)).trans z) ⟨_,RC⟩ (Ii _ RC)
 have qE:a1 H a (iG C bN a)=H:=by
  funext b;by_cases ab:b=a
  ·subst ab;rw[cw,aR]
  ·rw[bj ab]
 rw[qE]at bU;cases t0 with
 | ref z=>exact Bs (bC (dq _ bU))
 | _=>exact bC (bC (dq _ bU))
end
end bu
namespace bu
open PySem PyProof.Rows PySem.Spec
section
variable{X:bp}
def K4(f:Bool->Bool):iJ:=λx y H Q=>∃(p q:O)(a b c d:Str),x= .ref p/\y= .ref q/\H p=some (.tup [.str a,.str b])/\H q=some (.tup [.str c,.str d])/\Q (.aG (f (decide (a=c/\b=d)))) H
def Ek{H:ak}(I:Inv X aa σ H s)(h:H p=some (.tup [.str a,.str b])):∃t t',s.heap.IsTuple p #[.str a t,.str b t']:=by
 obtain⟨_,its,r,p⟩:=I.a' p _ h;obtain⟨u,v,rfl,⟨t,rfl⟩,t',rfl⟩:=r.two;exact⟨t,t',p⟩
def An(a b c d:Str):Nat->Bool
 | 0=>a==c
 | _=>b==d
def TV(a b c d:Str):((List.range (min 2 2)).all (An a b c d) && (2==2))=decide (a=c/\b=d):=by
 have:List.range (min 2 2)=[0,1]:=rfl;rw[this,pe];simp[An]
def TX(a b c d:Str)(t t' u fg:i3):∀(j:Nat)(h1:j < (#[Value.str a t,Value.str b t']:Array aj).size)(h2:j < (#[Value.str c u,Value.str d fg]:Array aj).size),
  Bk A s (#[Value.str a t,Value.str b t']:Array aj)[j] (#[Value.str c u,Value.str d fg]:Array aj)[j] (An a b c d j):=by
 intro j h1 h2;match j,h1,h2 with
 | 0,_,_=>exact(MeetsSeq.EqGives.at (F3 a c t u) A s)
 | 1,_,_=>exact(MeetsSeq.EqGives.at (F3 b d t' fg) A s)
def ak4(aD:X.A.units < cLine):f6 X (compareOp .NotEq) (K4 not):=by
 intro aa s σ H x y v u Q I bt br h;obtain⟨p,q,a,b,c,d,rfl,rfl,h1,h2,k⟩:=h;cases bt;cases br;obtain⟨t,t',ju⟩:=Ek I h1;obtain⟨w,fq,i2⟩:=Ek I h2;refine Xt ju i2 aD (TX a b c d t t' w fq) _ _ _ _ ?_;have e:=TV a b c d;refine⟨.aG _,H,I,?_,k⟩;show Value.bool _=Value.bool _;rw[<- e];rfl
end
end bu
namespace bu
open PySem PySem.Spec PyProof.Rows
def vd(bP:It)(g:gM)(f2:TT)(te:TE)(S:St)(D:O)(H1:ak)(Q:c3):Prop:=
 ∃W:Nat->Nat->List V->ak->Prop,(∃m,W 0 m [] (a1 H1 D (.lst [])))/\∀i m ys dW,W i m ys dW->dW D=some (.lst ys)/\
  ((bP.stop i dW/\Q (.ref D) dW)∨(bP.go i dW/\ys.length < sizeLine/\∃(N:c3)(yr:ak->Prop),(∀y H3,N y H3->H3 D=some (.lst ys)/\∃e_,e_ < m/\W (i+1) e_ (ys++[y]) (a1 H3 D (.lst (ys++[y]))))/\
   (∀H3,yr H3->∃e_,e_ < m/\W (i+1) e_ ys H3)/\
   ∀x H',bP.rx i dW x H'->g x S H' λfX H2=>f2 fX H2 λb H3=>if b=true then te fX H3 N else yr H3))
def AO(own:List Str)(ez:TI)(g:gM)(f2:TT)(te:TE)(cap:List Nat):TE:=λσ H Q=>ez σ H λbP H1=>∀D,H1 D=none->vd bP g f2 te (g1 (own.map λ_=>none) cap σ) D H1 Q
def aba{bP:It}{g:gM}{f2:TT}{te:TE}{Q:c3}(n:Nat)(kF:Nat->List V->ak->Prop)(ba:n < sizeLine)(bE:kF 0 [] (a1 H1 D (.lst [])))
  (lu:∀i ys H,i<=n->kF i ys H->H D=some (.lst ys)/\ys.length<=i)(Jb:∀i ys H,i < n->kF i ys H->bP.go i H)(Jv:∀ys H,kF n ys H->bP.stop n H/\Q (.ref D) H)
  (step:∀i ys H x H',i < n->kF i ys H->bP.rx i H x H'->g x S H' λfX H2=>f2 fX H2 λb H3=>if b=true then te fX H3 λy H4=>H4 D=some (.lst ys)/\kF (i+1) (ys++[y]) (a1 H4 D (.lst (ys++[y])))else kF (i+1) ys H3):
  vd bP g f2 te S D H1 Q:=by
 refine⟨λi m ys H=>m=n - i/\i<=n/\kF i ys H,⟨n,rfl,j2 _,bE⟩,?_⟩;rintro i m ys H ⟨rfl,au,p⟩;obtain⟨d,l⟩:=lu i ys H au p;refine⟨d,?_⟩;by_cases eD:i < n
 ·exact .inr ⟨Jb i ys H eD p,by omega,_,_,λy H3 ⟨ao,bZ⟩=>⟨ao,n - (i+1),by omega,rfl,eD,bZ⟩,λH3 q=>⟨n - (i+1),by omega,rfl,eD,q⟩,λx H' y=>step i ys H x H' eD p y⟩
 ·have e:i=n:=by omega
  subst e;exact .inl (Jv ys H p)
end bu
namespace bu
open PySem PyProof.Rows
abbrev j6:=Int×aj
def i'(es:Array j6)(ep:Nat)(t:mz):b_:={cls:=.type "set",dict:=none,data:=.set es ep t}
structure gC(w:cH)(es:Array j6)(t:mz)(ss:List Str):Prop where
 texts:∀e∈es.toList,∃x u,e=(hashStr w x,Value.str x u)
 vals:j3 (es.toList.map (·.2)) ss
 room:t.fits es.size=true
 drawn:t.plain=false
 led:t.led= !w.params.followText "set-order"
 c_:es.size < 4096
def Mp{vs us:List aj}(p:us.Perm vs):∀{ss:List Str},j3 vs ss->∃ss',j3 us ss'/\ss'.Perm ss:=by
 induction p with
 | nil=>intro ss h;exact⟨ss,h,.refl _⟩
 | cons x _ b3=>
  intro ss h;cases h with
  | cons y t h=>
   obtain⟨z,a,b⟩:=b3 h;exact⟨y::z,.cons y t a,b.cons y⟩
 | swap x y l=>
  intro ss h;cases h with
  | cons a t h=>
   cases h with
   | cons b u h=>exact⟨b::a::_,.cons b u (.cons a t h),.swap _ _ _⟩
 | trans _ _ ahO zX=>
  intro ss h;obtain⟨z,a,b⟩:=zX h;obtain⟨z',iu,jN⟩:=ahO a;exact⟨z',iu,jN.trans b⟩
section
variable{α:Type}
def ahR(xs:Array α)(p:Nat)(x:α):(NI xs p x).toList.Perm (x::xs.toList):=by
 have e:(NI xs p x).toList=xs.toList.take p++x::xs.toList.drop p:=by
  obtain⟨l⟩:=xs;simp[NI];exact xB (by simp)
 rw[e];refine List.perm_middle.trans ?_;rw[List.take_append_drop]
end
def Mj(t:mz)(n:Nat):(t.standIn n).fits n=true:=by
 unfold SetTable.standIn Xu SetTable.fill;simp;omega
def ak8(t:mz)(n:Nat):(t.orStandIn n).fits n=true:=by
 unfold Bm;split
 ·assumption
 ·exact Mj t n
def aiy(t:mz)(es:Array j6)(k:Int)(v:aj)(aB:t.plain=false):(layNew t es k v).1.toList.Perm ((k,v)::es.toList)/\
  (layNew t es k v).2.1.fits (layNew t es k v).1.size=true/\(layNew t es k v).2.1.plain=false/\(layNew t es k v).2.1.led=t.led:=by
 unfold layNew;cases t.freeSlot k with
 | none=>
  refine⟨?_,?_,rfl,rfl⟩
  ·show(es.push (k,v)).toList.Perm _;rw[V1];exact List.perm_append_comm
  ·show(t.standIn (es.size+1)).fits (es.push (k,v)).size=true;rw[Array.size_push];exact Mj _ _
 | some q=>
  obtain⟨j,d⟩:=q;refine⟨ahR _ _ _,ak8 _ _,?_,?_⟩
  ·show(Bm _ _).plain=false;unfold Bm;split
   ·exact aB
   ·rfl
  ·show(Bm _ _).led=t.led;unfold Bm;split<;>rfl
def Uz(l:List α):(List.range l.length).filterMap (l[·]?)=l:=by
 induction l with
 | nil=>rfl
 | cons a l b3=>
  rw[hH,Nk,A',List.filterMap_map];simp only[gg]
  congr 1
def amf(t:mz)(es:Array j6)(n:Nat)(aB:t.plain=false):(relayAll t es n).1.toList.Perm es.toList/\
  (relayAll t es n).2.1.fits (relayAll t es n).1.size=true/\(relayAll t es n).2.1.plain=false/\(relayAll t es n).2.1.led=t.led:=by
 have no:es.toList.Perm es.toList/\(t.standIn es.size).fits es.size=true/\(t.standIn es.size).plain=false/\(t.standIn es.size).led=t.led:=⟨.refl _,Mj _ _,rfl,rfl⟩;unfold relayAll;cases q:t.relaid (es.map (·.1)) n with
 | none=>exact no
 | some r=>
  obtain⟨t',order⟩:=r;dsimp only;split
  ·rename_i h;rw[jB]at h;refine⟨?_,h.2,?_,?_⟩
   ·have p:order.toList.Perm (List.range es.size):=List.isPerm_iff.mp h.1;have e:(order.filterMap (es[·]?)).toList=order.toList.filterMap (es.toList[·]?):=by
     obtain⟨l⟩:=order;obtain⟨m⟩:=es;simp
    show(order.filterMap (es[·]?)).toList.Perm es.toList;rw[e];refine(p.filterMap _).trans ?_;have:=Uz es.toList;rw[jA]at this;rw[this]
   ·unfold Xz Xw at q;cases z:Xx (XA n - 1) (es.map (·.1))with
    | none=>rw[z]at q;cases q
    | some ala=>rw[z]at q;cases q;exact aB
   ·unfold Xz Xw at q;cases z:Xx (XA n - 1) (es.map (·.1))with
    | none=>rw[z]at q;cases q
    | some ala=>rw[z]at q;cases q;rfl
  ·exact no
section
variable{prog:dn}{w:cH}{A:d0}{E:aj->aM->Prop}{s:aM}{a:O}{x:Str}{t:i3}{es:Array j6}{ep:Nat}{tb:mz}{ss:List Str}
def gC.elems(T:gC w es tb ss):ElemsOf (fG prog w) es.toList:=λe he=>by
 obtain⟨y,u,rfl⟩:=T.texts e he;exact⟨⟨.inr y,JO y u,rfl⟩,rfl⟩
def gC.find(T:gC w es tb ss):(es.toList.findIdx? λe=>(fG prog w).is (.inr x) e.2).isSome=decide (x∈ss):=by
 have key:∀(l:List j6)(ys:List Str),j3 (l.map (·.2)) ys->(l.findIdx? λe=>(fG prog w).is (.inr x) e.2).isSome=decide (x∈ys):=by
  intro l;induction l with
  | nil=>intro ys h;cases h;rfl
  | cons e l b3=>
   intro ys h;obtain⟨k,v⟩:=e;have h:j3 (v::l.map (·.2)) ys:=h;cases h with
   | cons y u h'=>
    rw[List.findIdx?_cons];have ag:(fG prog w).is (.inr x) (Value.str y u)=decide (x=y):=(KeyKind.is_eq_decide (S7 prog w y u) (hu x)).trans (Su x y);rw[ag];by_cases q:x=y
    ·simp[q]
    ·simp only[q,decide_false,nj,if_false,Bh,b3 _ h',dR,false_or]
 exact key _ _ T.vals
def gC.more{g4:Array j6}{jg:mz}(T:gC w es tb ss)(p:g4.toList.Perm ((hashStr w x,Value.str x t)::es.toList))(f:jg.fits g4.size=true)(d:jg.plain=false)(l:jg.led=tb.led)(hz:es.size+1 < 4096):
  ∃ss',gC w g4 jg ss'/\ss'.Perm (x::ss):=by
 have cL:(g4.toList.map (·.2)).Perm (Value.str x t::es.toList.map (·.2)):=p.map (·.2);obtain⟨ss',h1,h2⟩:=Mp cL (.cons x t T.vals);refine⟨ss',⟨λe he=>?_,h1,f,d,l.trans T.led,?_⟩,h2⟩
 ·rcases dR.mp (p.mem_iff.mp he)with q | q
  ·exact⟨x,t,q⟩
  ·exact T.texts e q
 ·have:=p.length_eq;rw[jA,hH,jA]at this;omega
def gC.again{g4:Array j6}{jg:mz}(T:gC w es tb ss)(p:g4.toList.Perm es.toList)(f:jg.fits g4.size=true)(d:jg.plain=false)(l:jg.led=tb.led):
  ∃ss',gC w g4 jg ss'/\ss'.Perm ss:=by
 obtain⟨ss',h1,h2⟩:=Mp (p.map (·.2)) T.vals;refine⟨ss',⟨λe he=>T.texts e (p.mem_iff.mp he),h1,f,d,l.trans T.led,?_⟩,h2⟩;have:=p.length_eq;rw[jA,jA]at this;have:=T.c_;omega
def ane{Q:Bool->aM->Prop}(aZ:s.heap.get? a=some (i' es ep tb))(T:gC w es tb ss)(hz:es.size+1 < 4096)
  (h:∀b h' g4 l2 jg ss',h'.get? a=some (i' g4 l2 jg)->gC w g4 jg ss'->ss'.Perm (if x∈ss then ss else x::ss)->i0 a s.heap h'->Q b {s with heap:=h',toks:=s.toks+1}):wpAny (model prog w) A (setAdd a (.str x t)) Q E s:=by
 unfold setAdd;refine jF (aQ (N3 ?_));unfold setAddHashed setAddHashedIn;refine jF (aQ (u9 (s:={s with toks:=s.toks+1}) aZ rfl T.room ?_))
 dsimp only;rw[if_pos (byScan_of (knd:=fG prog w) (x:=.str x t) rfl T.c_ T.elems)];refine aQ ?_;unfold setAddByScan;refine aQ (Bv (aQ (wpAny_setScan_of (knd:=fG prog w) (k:=.inr x) (s:={s with toks:=s.toks+1}) (JO x t) aZ rfl T.room T.elems ?_)))
 have aE:=T.find (prog:=prog) (x:=x);cases q:es.toList.findIdx? (λe=>(fG prog w).is (.inr x) e.2)with
 | some j=>
  rw[q]at aE;have ah:x∈ss:=of_decide_eq_true aE.symm;exact bC (bC (h _ _ es ep tb ss aZ T (by rw[if_pos ah]) (Fu _ _)))
 | none=>
  rw[q]at aE;have ah:¬x∈ss:=of_decide_eq_false aE.symm;dsimp only;obtain⟨ic,mY,uf,z4⟩:=aiy tb es (hashStr w x) (.str x t) T.drawn;have JR:=ic.length_eq;generalize layNew tb es (hashStr w x) (.str x t)=lay at ic mY uf z4 JR ⊢;obtain⟨qG,rq,aoj,af8⟩:=lay;dsimp only at ic mY uf z4 JR ⊢;rw[jA,hH,jA]at JR;have z:sizeLine=16777216:=k1;obtain⟨sV,vw,bc⟩:=T.more ic mY uf z4 hz;have Rx:∀(b:Bool){β:Type}{k:Unit->nu β}{R:β->aM->Prop}{s':aM},wpAny (model prog w) A (k ()) R E s'->wpAny (model prog w) A ((match b with | true=>rule "set.scan.the-table-gave-way" | false=>pure ())>>=k) R E s':=λb{β k R s'} aw=>by
   cases b
   ·exact aQ (bC aw)
   ·exact aQ (Bv aw)
  refine Rx af8 ?_;rw[if_neg (show ¬(rq.plain=true)from by rw[uf];exact hG)]
  refine aQ (bC ?_);rw[if_pos rfl];refine aQ (N5 (s:={s with toks:=s.toks+1}) aZ rfl ?_ (by omega))
  have nT:(s.heap.update a (xG qG rq)).get? a=some (i' qG (ep+1) rq):=mr (xG _ _) aZ rfl;have jf:i0 a s.heap (s.heap.update a (xG qG rq)):=rA ..;have Q3:sV.Perm (if x∈ss then ss else x::ss):=by rw[if_neg ah];exact bc
  by_cases Rh:(!aoj && rq.tooFull)=true
  ·rw[if_pos Rh];obtain⟨b4,da,kY,rd⟩:=amf rq qG (Xv qG.size) uf;have rf:=b4.length_eq;generalize relayAll rq qG (Xv qG.size)=rel at b4 da kY rd rf ⊢;obtain⟨zq,sZ,af9⟩:=rel;dsimp only at b4 da kY rd rf ⊢;rw[jA,jA]at rf;obtain⟨AK,rX,cL⟩:=vw.again b4 da kY rd;refine Rx af9 ?_;refine aQ (N5 (s:={s with heap:=s.heap.update a (xG qG rq),toks:=s.toks+1}) nT rfl ?_ (by omega))
   refine bC (bC (h _ _ zq _ sZ AK (mr (xG _ _) nT rfl) rX (cL.trans Q3) (jf.trans (rA ..))))
  ·rw[if_neg Rh];exact bC (bC (h _ _ qG _ rq sV nT vw Q3 jf))
end
def akZ(x:Str)(t:i3)(j:Nat):gC w #[(hashStr w x,Value.str x t)] (Ea j (!w.params.followText "set-order")) [x]:=
 ⟨λe he=>⟨x,t,by simpa using he⟩,.cons x t .nil,rfl,rfl,rfl,by show 1 < 4096;decide⟩
section
variable{prog:dn}{w:cH}{A:d0}{S I l:O}
def aeS{R:u5->aM->Prop}(ba:A.handled=none)(bm:j3 vs xs)(hz:vs.length < 4000)(dD:S≠I)(fH:S≠l)(jQ:l≠I):
  ∀(k i:Nat)(s:aM)(es:Array j6)(ep:Nat)(tb:mz)(ss:List Str),vs.length - i=k->i<=vs.length->s.heap.get? S=some (i' es ep tb)->gC w es tb ss->es.size<=i->ss.Nodup->(∀y,y∈ss↔y∈xs.take i)->
   s.heap.IsListIter I l i->s.heap.IsList l vs.toArray->
   (∀h' tk g4 l2 jg ss',h'.get? S=some (i' g4 l2 jg)->gC w g4 jg ss'->ss'.Nodup->(∀y,y∈ss'↔y∈xs)->(∀b o,b≠S->b≠I->s.heap.get? b=some o->h'.get? b=some o)->R (.ok (.ret .none)) {s with heap:=h',toks:=tk})->
   codeAny (model prog w) A (.builtin "set.update.loop" ⟨[.ref S,.ref I],[]⟩) R s:=by
 intro k;induction k with
 | zero=>
  intro i s es ep tb ss aw au dE T hsz a4 mem nR ar h;have e:i=vs.length:=by omega
  refine pk M7 ?_;rw[qi A8 _];show wpAny _ A.in1 (pyNext (.ref I)>>=_) _ _ _;refine aQ (F9 (show A.in1.handled=none from ba) nR ar (by simp[e]) λaN cC=>bC ?_)
  refine h aN s.toks es ep tb ss (cC S _ dD dE) T a4 (λy=>?_) λb o dI em e=>cC b o em e;rw[mem y,e,bm.length,WY]
 | succ k b3=>
  intro i s es ep tb ss aw au dE T hsz a4 mem nR ar h;have lt:i < vs.length:=by omega
  have z6:i < xs.length:=by rw[<- bm.length];exact lt
  obtain⟨t,cj⟩:=bm.get i xs[i] (jC z6);refine pk M7 ?_;rw[qi A8 _];show wpAny _ A.in1 (pyNext (.ref I)>>=_) _ _ s;refine aQ (Bu nR ar (x:=.str xs[i] t) (by simpa using cj) λh1 IT jf=>?_)
  have IX:h1.get? S=some (i' es ep tb):=(jf.2 S dD).trans dE;have sn:h1.IsList l vs.toArray:=ar.at λo e=>(jf.2 l jQ).trans e;refine aQ (jF (ane (s:={s with heap:=h1}) IX T (by omega) λb h2 g4 l2 jg ss' zK T' p lL=>?_))
  have lL:i0 S h1 h2:=lL;have IU:h2.IsListIter I l (i+1):=IT.at λo e=>(lL.2 I (Ne.symm dD)).trans e;have nS:h2.IsList l vs.toArray:=sn.at λo e=>(lL.2 l (Ne.symm fH)).trans e;have D1:ss'.Nodup:=by
   refine p.nodup_iff.mpr ?_;split
   ·exact a4
   ·exact nr.mpr ⟨by assumption,a4⟩
  have aiZ:∀y,y∈ss'↔y∈xs.take (i+1):=λy=>by
   rw[p.mem_iff,W0 z6,nn,gK, <- mem y];split
   ·rename_i ah;exact⟨.inl,λz=>z.elim id λz=>by rw[z];exact ah⟩
   ·rw[dR];exact Or.comm
  have anz:g4.size<=i+1:=by
   have ag:=T'.vals.length;have aF:=T.vals.length;have cU:=p.length_eq;rw[dV,jA]at ag aF;split at cU
   ·omega
   ·rw[hH]at cU;omega
  refine bC ⟨pn A8 _,b3 (i+1) {s with heap:=h2,toks:=s.toks+1} g4 l2 jg ss' (by omega) (by omega) zK T' anz D1 aiZ IU nS λh' tk zq Ig sZ AK cY dC eX gR eY=>?_⟩
  exact h h' tk zq Ig sZ AK cY dC eX gR λb o dI em e=>eY b o dI em ((lL.2 b dI).trans ((jf.2 b em).trans e))
def aeR{s:aM}{R:u5->aM->Prop}(ba:A.handled=none)(bm:j3 vs xs)(hz:vs.length < 4000)(bE:0 < vs.length)(dD:S≠I)(fH:S≠l)(jQ:l≠I)
  (dE:s.heap.get? S=some (oY (!w.params.followText "set-order")))(nR:s.heap.IsListIter I l 0)(ar:s.heap.IsList l vs.toArray)
  (h:∀h' tk g4 l2 jg ss',h'.get? S=some (i' g4 l2 jg)->gC w g4 jg ss'->ss'.Nodup->(∀y,y∈ss'↔y∈xs)->(∀b o,b≠S->b≠I->s.heap.get? b=some o->h'.get? b=some o)->R (.ok (.ret .none)) {s with heap:=h',toks:=tk}):
  codeAny (model prog w) A (.builtin "set.update.loop" ⟨[.ref S,.ref I],[]⟩) R s:=by
 have z6:0 < xs.length:=by rw[<- bm.length];exact bE
 obtain⟨t,cj⟩:=bm.get 0 xs[0] (jC z6);refine pk M7 ?_;rw[qi A8 _];show wpAny _ A.in1 (pyNext (.ref I)>>=_) _ _ s;refine aQ (Bu nR ar (x:=.str xs[0] t) (by simpa using cj) λh1 IT jf=>?_)
 have IX:h1.get? S=some (oY (!w.params.followText "set-order")):=(jf.2 S dD).trans dE;have sn:h1.IsList l vs.toArray:=ar.at λo e=>(jf.2 l jQ).trans e;refine aQ (jF (anf (s:={s with heap:=h1}) IX λh2 zK lL=>?_))
 have lL:i0 S h1 h2:=lL;have IU:h2.IsListIter I l (0+1):=IT.at λo e=>(lL.2 I (Ne.symm dD)).trans e;have nS:h2.IsList l vs.toArray:=sn.at λo e=>(lL.2 l (Ne.symm fH)).trans e;refine bC ⟨pn A8 _,aeS ba bm hz dD fH jQ _ (0+1) {s with heap:=h2,toks:=s.toks+1} _ _ _ [xs[0]] rfl bE zK (akZ _ _ _) (c9 1) (by simp) (λy=>?_) IU nS λh' tk zq Ig sZ AK cY dC eX gR eY=>?_⟩
 ·rw[W0 z6];simp
 ·exact h h' tk zq Ig sZ AK cY dC eX gR λb o dI em e=>eY b o dI em ((lL.2 b dI).trans ((jf.2 b em).trans e))
end
section
variable{prog:dn}{w:cH}{A:d0}{E:aj->aM->Prop}{s:aM}{l:O}
def aa0{Q:aj->aM->Prop}(ba:A.handled=none)(bm:j3 vs xs)(hz:vs.length < 4000)(bE:0 < vs.length)(ar:s.heap.IsList l vs.toArray)
  (h:∀(h':cg)(tk:Nat),(∃es ep tb ss,h'.get? s.heap.objs.size=some (i' es ep tb)/\gC w es tb ss/\ss.Nodup/\∀y,y∈ss↔y∈xs)->(∀b o,s.heap.get? b=some o->h'.get? b=some o)->Q (.ref s.heap.objs.size) {s with heap:=h',toks:=tk}):
  wpAny (model prog w) A (call (.type "set") [.ref l]) Q E s:=by
 obtain⟨c,gz,ahf⟩:=s7.mro;have aqm:=s7.made;have aqn:=s7.sub;refine qm (F2 (show wpAny _ _ (callAny (.type "set") _) _ _ _ from ?_))
 refine bC ⟨M4 _ (by decide+kernel),pk F.entry_type_call ?_⟩
 rw[Around.under_plain (weight_type_call_type "set" [.ref l] []) rfl];have hM:=s7.notType;have d_:=s7.canCreate;have nH:=F.typeCall_set_1 (.ref l)
 repeat (any_goals (first | assumption | wp_step))
 refine pm (ajp (.ref l) (E:=E) (Q₁:=λobj s₁=>obj= .ref s.heap.objs.size/\s₁={s with heap:=s.heap.push (oY (!w.params.followText "set-order"))}) ⟨rfl,rfl⟩) λr s₁ aA=>?_
 rcases r with e | fl
 ·exact aA
 cases fl with
 | next=>exact aA.elim
 | brk=>exact aA.elim
 | cont=>exact aA.elim
 | ret obj=>
  obtain⟨rfl,rfl⟩:=aA;have dE:(s.heap.push (oY (!w.params.followText "set-order"))).get? s.heap.objs.size=some (oY (!w.params.followText "set-order")):=eT _ rfl;have de:Shared.TypeIs {s with heap:=s.heap.push (oY (!w.params.followText "set-order"))} (.ref s.heap.objs.size) "set":=⟨_,dE,rfl⟩
  have ju:=s7.init.lookup;have i2:=s7.init.bind (.ref s.heap.objs.size)
  repeat (any_goals (first | assumption | wp_step))
  refine pm (F1 (R:=wants (λr s₂=>r= .none/\∃h' tk,s₂={s with heap:=h',toks:=tk}/\(∃es ep tb ss,h'.get? s.heap.objs.size=some (i' es ep tb)/\gC w es tb ss/\ss.Nodup/\∀y,y∈ss↔y∈xs)/\
   (∀b o,s.heap.get? b=some o->h'.get? b=some o)) E) s7.init.plain F.entry_set_init (check_set_init_1 de ?_)) λamv s₂ zU=>?_
  ·obtain⟨⟨ajN,ajW,ajV,ak_⟩,Dy,sj,nl,I8⟩:=id ar;have sj:ajN= .type "list":=sj;have I8:ajV= .seq vs.toArray nl:=I8;subst sj I8;have aho:(s.heap.push (oY (!w.params.followText "set-order"))).get? l=some {cls:=.type "list",dict:=ajW,data:=.seq vs.toArray nl,slots:=ak_}:=cV _ Dy;have en:=F.sub_list_set;have ev:=F.sub_list_frozenset;have hj:(Value.type "list"==Value.type "dict")=false:=by decide
   have sn:(s.heap.push (oY (!w.params.followText "set-order"))).IsList l vs.toArray:=⟨_,aho,rfl,nl,rfl⟩;unfold Builtin.«set.__init__» noKeywords aoX;generalize IW:pyIter=mE
   wp_walk
   subst IW;refine xR sn (aQ (Yd ?_));have lt:l < s.heap.objs.size:=dm Dy;have lO:(s.heap.push (oY (!w.params.followText "set-order"))).objs.size=s.heap.objs.size+1:=ms ..;refine aeR (l:=l) (by simp[ba]) bm hz bE (by rw[lO];exact d3 (Bg _)) (ph lt) (by rw[lO];exact d3 (rF lt)) (cV _ dE) ⟨_,eT _ rfl,rfl,rfl⟩ (sn.push _) λh' tk es ep tb ss ag aF cU jn k=>?_
   refine bC (bC ⟨rfl,h',tk,rfl,⟨es,ep,tb,ss,ag,aF,cU,jn⟩,λb o z=>k b o (d3 (dm z)) ?_ (cV _ (cV _ z))⟩);rw[lO];exact d3 (rF (dm z))
  ·rcases amv with e | ae4
   ·exact zU
   cases ae4 with
   | next=>exact zU.elim
   | brk=>exact zU.elim
   | cont=>exact zU.elim
   | ret r=>
    obtain⟨rfl,h',tk,rfl,qQ,Du⟩:=zU
    repeat (any_goals (first | assumption | wp_step))
    exact h _ _ qQ Du
end
section
variable{M:Be}{A:d0}{E:aj->aM->Prop}{α:Type}
def aol{s:aM}{n:Nat}{Q:Nat->aM->Prop}(ba:n≠0)(h:∀i d,i < n->Q i {s with drawn:=d}):wpAny M A (choose src n) Q E s:=
 λaqW p aqu=>⟨ba,h _ _ (W5 _ (Nat.pos_of_ne_zero ba))⟩
def Ih:∀{xs:List α}{i:Nat}{x:α},xs[i]? =some x->(x::xs.eraseIdx i).Perm xs
 | [],_,_,e=>by simp at e
 | a::xs,0,x,e=>by
  have e:a=x:=by simpa using e
  subst e;exact .refl _
 | a::xs,i+1,x,e=>by
  rw[Wz];exact(Wt a x _).trans ((Ih (by simpa using e)).cons a)
def VS:∀(n:Nat){xs:List α}{s:aM}{Q:List α->aM->Prop},xs.length=n->(∀ys d,ys.Perm xs->Q ys {s with drawn:=d})->wpAny M A (drawOrder n xs) Q E s
 | 0,xs,s,Q,e,h=>by
  have:xs=[]:=Nf.mp e;subst this;exact bC (h [] s.drawn (.refl _))
 | n+1,[],s,Q,e,h=>by simp at e
 | n+1,a::xs,s,Q,e,h=>by
  show wpAny M A (choose .order (a::xs).length >>=_) Q E s;refine aQ (aol (by simp) λi d au=>?_)
  obtain⟨x,ah⟩:∃x,(a::xs)[i]? =some x:=⟨_,jC au⟩;rw[ah];refine aQ (VS n (by rw[WM au,e];rfl) λys d' p=>bC (h _ d' ((p.cons x).trans (Ih ah))))
def T8(f:Nat->Nat):∀(n k:Nat)(left:List α)(out:Array α),left.length=n->(XR f n k left out).toList.Perm (out.toList++left)
 | 0,k,left,out,e=>by
  have:left=[]:=Nf.mp e;subst this;rw[mu];exact .refl _
 | n+1,k,left,out,e=>by
  have au:f k % left.length < left.length:=W5 _ (by omega)
  obtain⟨x,ah⟩:∃x,left[f k % left.length]? =some x:=⟨_,jC au⟩;unfold XR;rw[ah];refine(T8 f n (k+1) _ (out.push x) (by rw[WM au,e];rfl)).trans ?_
  rw[V1,Fw];exact List.Perm.append_left _ (Ih ah)
def KH(f:Nat->Nat)(es:Array α):(pickOrder f es).toList.Perm es.toList:=by
 have:=T8 f es.size 0 es.toList #[] (by simp)
 unfold pickOrder;simpa using this
end
def uK(first:aj)(a:O)(i n ep:Int):b_:={cls:=.type "set_iterator",data:=.fields #[first,rawInt i,.ref a,rawInt n,rawInt ep]}
section
variable{prog:dn}{w:cH}{A:d0}{E:aj->aM->Prop}{s:aM}{a it:O}{es:Array j6}{ep:Nat}{tb:mz}{ss:List Str}
def KY{i:Nat}{v:aj}{Q:Option aj->aM->Prop}(aZ:s.heap.get? a=some (i' es ep tb))(T:gC w es tb ss)(au:s.heap.get? it=some (uK first a (i:Nat) (es.size:Nat) (ep:Nat)))
  (aH:(∃p q:Nat,first=rawInt p/\(∀(R:Option (aj×Nat)->aM->Prop)(E':aj->aM->Prop),R (some (v,q)) s->wpAny (model prog w) A.in1 (setNext a p i ep) R E' s)/\
    ∀h',h'.get? it=some (uK (rawInt q) a (i+1:Nat) (es.size:Nat) (ep:Nat))->i0 it s.heap h'->Q (some v) {s with heap:=h'})∨
   (∃P uA pl E_,first= .ref P/\s.heap.IsTuple P uA/\uA[i]? =some (.int (pl:Nat) E_)/\(∃k,es[pl]? =some (k,v))/\
    ∀h',h'.get? it=some (uK first a (i+1:Nat) (es.size:Nat) (ep:Nat))->i0 it s.heap h'->Q (some v) {s with heap:=h'})):wpAny (model prog w) A (pyNext (.ref it)) Q E s:=by
 have de:s.TypeIs (.ref it) "set_iterator":=⟨_,au,rfl⟩;unfold pyNext;refine aQ (F5 (X3 (name:=rI "__next__") de rm (tc rm de P1 ?_ (O5 _))));unfold Builtin.«set_iterator.__next__»;refine aQ (m:=slotArgs "__next__" 0 _) (bC ?_);refine aQ (X5 au rfl ?_);refine aQ (m:=setEntries a) (N4 aZ rfl T.room ?_);rw[if_neg (show ¬(((es.size:Int) !=((es.size:Nat):Int))=true)from by simp)]
 rcases aH with⟨p,q,rfl,nx,h⟩ | ⟨P,uA,pl,E_,rfl,dj,ib,⟨k,bm⟩,h⟩
 ·refine aQ (m:=setNext a p i ep) (nx _ _ ?_);show wpAny _ _ (setField (.ref it) 0 (rawInt (q:Nat))>>=_) _ _ _;refine aQ (F_ au (by simp) λh1 Jc jf=>?_)
  show wpAny _ _ (setField (.ref it) 1 (rawInt ((i:Int)+1))>>=_) _ _ _;refine aQ (F_ Jc (by simp) λh2 Jd lL=>?_)
  exact bC ⟨_,rfl,bC (h h2 Jd (jf.trans lL))⟩
 ·obtain⟨ajM,Jo,_,n,I7⟩:=dj;show wpAny _ _ (seqItems? (.ref P)>>=_) _ _ _;refine aQ (Bw Jo I7 ?_);dsimp only;rw[show(A9 (i:Int))=i from rfl,ib]
  dsimp only;unfold setNextDrawn;refine aQ (aQ (u9 aZ rfl T.room ?_));dsimp only;rw[if_neg (show ¬((ep !=A9 (ep:Int))=true)from by simp)]
  rw[show(A9 (pl:Int))=pl from rfl,bm]
  refine aQ (bC (bC ?_));show wpAny _ _ (setField (.ref it) 1 (rawInt ((i:Int)+1))>>=_) _ _ _;refine aQ (F_ au (by simp) λh2 Jd lL=>?_)
  exact bC ⟨_,rfl,bC (h h2 Jd lL)⟩
def KZ{i:Nat}{Q:Option aj->aM->Prop}(cu:A.handled=none)(aZ:s.heap.get? a=some (i' es ep tb))(T:gC w es tb ss)(au:s.heap.get? it=some (uK first a (i:Nat) (es.size:Nat) (ep:Nat)))
  (aH:(∃p:Nat,first=rawInt p/\(∀(R:Option (aj×Nat)->aM->Prop)(E':aj->aM->Prop),R none s->wpAny (model prog w) A.in1 (setNext a p i ep) R E' s))∨
   (∃P uA,first= .ref P/\s.heap.IsTuple P uA/\uA[i]? =none))
  (h:∀h',Wq it s.heap h'->Q none {s with heap:=h'}):wpAny (model prog w) A (pyNext (.ref it)) Q E s:=by
 have de:s.TypeIs (.ref it) "set_iterator":=⟨_,au,rfl⟩;unfold pyNext;refine aQ (F5 (X3 (name:=rI "__next__") de rm (tc rm de P1 ?_ (O5 _))));unfold Builtin.«set_iterator.__next__»;refine aQ (m:=slotArgs "__next__" 0 _) (bC ?_);refine aQ (X5 au rfl ?_);refine aQ (m:=setEntries a) (N4 aZ rfl T.room ?_);rw[if_neg (show ¬(((es.size:Int) !=((es.size:Nat):Int))=true)from by simp)]
 have stop:∀(bE:cg)(F:Fin->aM->Prop),Wq it s.heap bE->wpAny (model prog w) A.in1 (do let e <- newExc (.type "StopIteration") [];raiseNew e) F (λe s'=>wpAny (model prog w) A (do
   if <- isInstance e (Value.type "StopIteration")then pure none else throw e) Q E s') {s with heap:=bE}:=by
  intro bE F kv;refine aQ ?_;simp only[newExc,newTuple];refine aQ (u7 ?_ (by size_fits))
  refine aQ (m:=firstArgMember _ _) (F7 (a:=Value.none) (by first | rfl | (simp only[firstArgMember];rfl)) ?_)
  refine u7 ?_ (by size_fits)
  simp only[raiseNew];refine aQ (wpAny_handled ?_);rw[show A.in1.handled=none from cu]
  refine aQ (bC (wpAny_throw ?_));refine aQ (X6 (T:="StopIteration") (b:=true) ⟨_,eT _ rfl,rfl⟩ isSubtype_stop ?_);exact bC (h _ ((kv.push _).push _))
 rcases aH with⟨p,rfl,nx⟩ | ⟨P,uA,rfl,⟨ajM,Jo,_,n,I7⟩,ib⟩
 ·refine aQ (m:=setNext a p i ep) (nx _ _ ?_);show wpAny _ _ (setField (.ref it) 2 .none >>=_) _ _ _;refine aQ (xS au rfl (by simp) ?_)
  exact stop _ _ (rA ..).extBut
 ·show wpAny _ _ (seqItems? (.ref P)>>=_) _ _ _;refine aQ (Bw Jo I7 ?_);dsimp only;rw[show(A9 (i:Int))=i from rfl,ib]
  dsimp only;refine aQ (F_ au (by simp) λh1 Jc jf=>?_)
  refine aQ (xS (s:={s with heap:=h1}) Jc rfl (by simp) ?_)
  exact stop _ _ (jf.trans (rA ..)).extBut
def Tf{p i:Nat}{R:Option (aj×Nat)->aM->Prop}(aZ:s.heap.get? a=some (i' es ep tb))(T:gC w es tb ss)(ab:w.params.followText "set-order"=true)
  (h:R (((pickOrder (w.params.setOrder a ep) es)[i]?).map λe=>(e.2,p)) s):wpAny (model prog w) A (setNext a p i ep) R E s:=by
 unfold setNext;refine aQ (u9 aZ rfl T.room ?_);unfold setsByText;refine aQ (aQ (xP (bC ?_)));rw[if_pos (show(model prog w).w.params.followText "set-order"=true from ab)]
 rw[if_neg (show ¬((ep !=ep)=true)from by simp)]
 refine aQ ?_;unfold setWalk;refine aQ (u9 aZ rfl T.room ?_);unfold setsByText;refine aQ (aQ (xP (bC ?_)));rw[if_pos (show(model prog w).w.params.followText "set-order"=true from ab)]
 exact aQ (xP (bC (bC h)))
def Te{p i:Nat}{k:Int}{v:aj}{j:Nat}{R:Option (aj×Nat)->aM->Prop}(aZ:s.heap.get? a=some (i' #[(k,v)] ep tb))(T:gC w #[(k,v)] tb ss)(a2:tb.place= #[j])(ab:w.params.followText "set-order"=false)
  (h:(p=0/\R (some (v,j+1)) s)∨(p=j+1/\R none s)):wpAny (model prog w) A (setNext a p i ep) R E s:=by
 unfold setNext;refine aQ (u9 aZ rfl T.room ?_);unfold setsByText;refine aQ (aQ (xP (bC ?_)));rw[if_neg (show ¬((model prog w).w.params.followText "set-order"=true)from by rw[show(model prog w).w.params.followText "set-order"=false from ab];exact hG)]
 dsimp only;rw[if_neg (show ¬_ from by rintro z;revert z;show ¬((!tb.plain && decide (1 > 1))=true);simp)]
 have ahd:tb.led=true:=by rw[T.led,ab];rfl
 refine aQ ?_;show wpAny _ _ (if(!tb.led && !(#[(k,v)]:Array j6).isEmpty)=true then _ else pure ()) _ _ _
 rw[if_neg (show ¬((!tb.led && !(#[(k,v)]:Array j6).isEmpty)=true)from by simp[ahd])]
 refine bC ?_;rw[a2];rcases h with⟨rfl,h⟩ | ⟨rfl,h⟩
 ·rw[aaR];exact bC h
 ·rw[aaS];exact bC h
end
section
variable{prog:dn}{w:cH}{A:d0}{a I:O}{es:Array j6}{ep:Nat}{tb:mz}{ss:List Str}
def aoi(af:A.handled=none)(T:gC w es tb ss)(ab:w.params.followText "set-order"=true)(ia:a≠I):
  Bn prog w A I [I,a] [I] es.size (λi v=>(((pickOrder (w.params.setOrder a ep) es).toList.map (·.2)))[i]? =some v)
   (λi h=>(∃p:Nat,h.get? I=some (uK (rawInt p) a (i:Nat) (es.size:Nat) (ep:Nat)))/\h.get? a=some (i' es ep tb)) where
 sub:=λb ab=>by simp at ab;simp[ab]
 frame:=λ_ _ _ st aw=>⟨let⟨p,z⟩:=st.1;⟨p,aw I (by simp) _ z⟩,aw a (by simp) _ st.2⟩
 item:=λi s Q E au ⟨⟨p,st⟩,hS⟩ eC=>by
  have len:=(KH (w.params.setOrder a ep) es).length_eq;rw[jA,jA]at len;obtain⟨e,he⟩:∃e,(pickOrder (w.params.setOrder a ep) es)[i]? =some e:=⟨_,Fs (by omega)⟩
  refine KY (v:=e.2) hS T st (.inl ⟨p,p,rfl,λR E' r=>Tf hS T ab (by rw[he];exact r),λh' zR dU=>eC _ h' s.toks ?_ ⟨⟨p,zR⟩,(dU.2 a ia).trans hS⟩ λb o ab e=>(dU.2 b (λz=>ab (by simp[z]))).trans e⟩)
  rw[ft,xm,he];rfl
 done:=λs Q E ⟨⟨p,st⟩,hS⟩ eC=>by
  have len:=(KH (w.params.setOrder a ep) es).length_eq;rw[jA,jA]at len;have he:(pickOrder (w.params.setOrder a ep) es)[es.size]? =none:=Array.getElem?_eq_none (by omega)
  exact KZ af hS T st (.inl ⟨p,rfl,λR E' r=>Tf hS T ab (by rw[he];exact r)⟩) λh' cC=>eC h' s.toks λb o ab e=>cC b o (λz=>ab (by simp[z])) e
 self:=λ_ s _ _ ⟨⟨p,st⟩,_⟩ eC=>by
  have de:s.TypeIs (.ref I) "set_iterator":=⟨_,st,rfl⟩;refine F8 de wZ (tc wZ de Ic ?_ (Hb _));exact bC ⟨_,rfl,"set_iterator",_,de,rm.lookup,eC⟩
def aoh{k:Int}{v:aj}{j:Nat}(af:A.handled=none)(T:gC w #[(k,v)] tb ss)(a2:tb.place= #[j])(ab:w.params.followText "set-order"=false)(ia:a≠I):
  Bn prog w A I [I,a] [I] 1 (λi u=>[v][i]? =some u)
   (λi h=>h.get? I=some (uK (rawInt (if i=0 then(0:Nat)else j+1:Nat)) a (i:Nat) (1:Nat) (ep:Nat))/\h.get? a=some (i' #[(k,v)] ep tb)) where
 sub:=λb ab=>by simp at ab;simp[ab]
 frame:=λ_ _ _ st aw=>⟨aw I (by simp) _ st.1,aw a (by simp) _ st.2⟩
 item:=λi s Q E au ⟨st,hS⟩ eC=>by
  have e:i=0:=by omega
  subst e;exact KY (v:=v) hS T st (.inl ⟨0,j+1,rfl,λR E' r=>Te hS T a2 ab (.inl ⟨rfl,r⟩),λh' zR dU=>eC _ h' s.toks rfl ⟨zR,(dU.2 a ia).trans hS⟩ λb o ab e=>(dU.2 b (λz=>ab (by simp[z]))).trans e⟩)
 done:=λs Q E ⟨st,hS⟩ eC=>KZ af hS T st (.inl ⟨j+1,rfl,λR E' r=>Te hS T a2 ab (.inr ⟨rfl,r⟩)⟩) λh' cC=>eC h' s.toks λb o ab e=>cC b o (λz=>ab (by simp[z])) e
 self:=λ_ s _ _ ⟨st,_⟩ eC=>by
  have de:s.TypeIs (.ref I) "set_iterator":=⟨_,st,rfl⟩;refine F8 de wZ (tc wZ de Ic ?_ (Hb _));exact bC ⟨_,rfl,"set_iterator",_,de,rm.lookup,eC⟩
def aog{P:O}{uw:List Nat}(af:A.handled=none)(T:gC w es tb ss)(aB:uw.Perm (List.range es.size))(ia:a≠I)(IW:P≠I):
  Bn prog w A I [I,a,P] [I] es.size (λi v=>(uw.filterMap λj=>es[j]?.map (·.2))[i]? =some v)
   (λi h=>h.get? I=some (uK (.ref P) a (i:Nat) (es.size:Nat) (ep:Nat))/\h.get? a=some (i' es ep tb)/\h.IsTuple P (uw.map λ(n:Nat)=>rawInt n).toArray) where
 sub:=λb ab=>by simp at ab;simp[ab]
 frame:=λ_ _ _ st aw=>⟨aw I (by simp) _ st.1,aw a (by simp) _ st.2.1,let⟨o,aZ,r⟩:=st.2.2;⟨o,aw P (by simp) _ aZ,r⟩⟩
 item:=λi s Q E au ⟨st,hS,sp⟩ eC=>by
  have len:=aB.length_eq;rw[FC]at len;obtain⟨n,ba⟩:∃n,uw[i]? =some n:=⟨_,jC (by omega)⟩
  have eD:n < es.size:=oi.mp (aB.mem_iff.mp (oh ba));obtain⟨⟨k,v⟩,he⟩:∃e,es[n]? =some e:=⟨_,Fs eD⟩;refine KY (v:=v) hS T st (.inr ⟨P,_,n,0,rfl,sp,?_,⟨k,he⟩,λh' zR dU=>eC _ h' s.toks ?_ ⟨zR,(dU.2 a ia).trans hS,let⟨o,aZ,r⟩:=sp;⟨o,(dU.2 P IW).trans aZ,r⟩⟩ λb o ab e=>(dU.2 b (λz=>ab (by simp[z]))).trans e⟩)
  ·simp[ba,rawInt]
  ·have all:∀(l:List Nat),(∀x∈l,x < es.size)->(l.filterMap λj=>es[j]?.map (·.2))=l.map λj=>(es.getD j (0,.none)).2:=by
    intro l;induction l with
    | nil=>intro _;rfl
    | cons x l b3=>
     intro ah;have JA:x < es.size:=ah x (by simp)
     rw[A',b3 λy b2=>ah y (by simp[b2])]
     simp[JA]
   rw[all uw λx ah=>oi.mp (aB.mem_iff.mp ah),ft,ba];simp[he]
 done:=λs Q E ⟨st,hS,sp⟩ eC=>by
  have len:=aB.length_eq;rw[FC]at len;exact KZ af hS T st (.inr ⟨P,_,rfl,sp,by simp[len]⟩) λh' cC=>eC h' s.toks λb o ab e=>cC b o (λz=>ab (by simp[z])) e
 self:=λ_ s _ _ ⟨st,_⟩ eC=>by
  have de:s.TypeIs (.ref I) "set_iterator":=⟨_,st,rfl⟩;refine F8 de wZ (tc wZ de Ic ?_ (Hb _));exact bC ⟨_,rfl,"set_iterator",_,de,rm.lookup,eC⟩
end
end bu
namespace bu
open PySem PySem.W PyProof.Rows
section
variable{prog:dn}{w:cH}{A:d0}{E:aj->aM->Prop}{s:aM}{a:O}{es:Array j6}{ep:Nat}{tb:mz}{ss:List Str}
def O6{α:Type _}{q:Array α}(h:q.size=1):∃j,q= #[j]:=by
 obtain⟨l⟩:=q;obtain⟨j,rfl⟩:=DN h;exact⟨j,rfl⟩
def alS{Q:aj->aM->Prop}(cu:A.handled=none)(aZ:s.heap.get? a=some (i' es ep tb))(T:gC w es tb ss)(bE:0 < es.size)
  (h:∀(I:O)(h':cg)(d:pf)(fp:List O)(vals:List aj)(St:Nat->cg->Prop),(∀b o,s.heap.get? b=some o->h'.get? b=some o)->s.heap.objs.size<=I->vals.Perm (es.toList.map (·.2))->
   (∀b∈fp,b=a∨s.heap.objs.size<=b)->Bn prog w A I fp [I] es.size (λi v=>vals[i]? =some v) St->St 0 h'->Q (.ref I) {s with heap:=h',drawn:=d}):wpAny (model prog w) A (pyIter (.ref a)) Q E s:=by
 have de:s.TypeIs (.ref a) "set":=⟨_,aZ,rfl⟩;refine F8 de Wl (tc Wl de adZ ?_ (F.args_set_iter_1 _));unfold Builtin.«frozenset.__iter__»;refine aQ (m:=aoW "__iter__" _) (bC ?_);refine aQ ?_;unfold Builtin.Frozenset.sizeOf;refine aQ (N4 aZ rfl T.room (bC ?_));refine aQ ?_;unfold setDrawn;refine aQ (u9 aZ rfl T.room ?_);unfold setsByText;refine aQ (aQ (xP (bC (bC ?_))));show wpAny _ _ (if(!(w.params.followText "set-order") && (!tb.plain && decide (es.size > 1)))=true then _ else _) _ _ _
 have eD:=dm aZ;by_cases hd:(!(w.params.followText "set-order") && (!tb.plain && decide (es.size > 1)))=true
 ·rw[if_pos hd];refine aQ (VS es.size (FC) λuw d p=>?_);have z:sizeLine=16777216:=k1;have lo:=p.length_eq;rw[FC]at lo;have c_:=T.c_;refine aQ (X' (items:=uw.map λ(i:Nat)=>rawInt i) ?_ (by rw[dV];omega))
  refine aQ (Ye (cV _ aZ) rfl T.room ?_);refine aQ ?_;unfold newFields;refine u7 (bC ⟨_,rfl,"set_iterator",_,⟨_,eT _ rfl,rfl⟩,rm.lookup,?_⟩);refine h _ _ d [_,a,s.heap.objs.size] _ _ (λb o e=>cV _ (cV _ e)) (by rw[ms];exact oj _) ?_ (λb ab=>?_) (aog cu T p ?_ ?_) ⟨eT _ rfl,cV _ (cV _ aZ),_,cV _ (eT _ rfl),rfl,0,rfl⟩
  ·refine(p.filterMap _).trans ?_;have e:=Uz (es.toList.map (λ(q:j6)=>q.2));rw[dV,jA]at e;have aF:(λ(j:Nat)=>es[j]?.map (λ(q:j6)=>q.2))=λ(j:Nat)=>(es.toList.map (λ(q:j6)=>q.2))[j]? :=by
    funext j;rw[ft,xm]
   rw[aF,e]
  ·rcases dR.mp ab with z | ab
   ·rw[z,ms];exact .inr (oj _)
   ·rcases dR.mp ab with z | ab
    ·exact .inl z
    ·rw[gK.mp ab];exact .inr (c9 _)
  ·rw[ms];exact d3 (rF eD)
  ·rw[ms];exact d3 (Bg _)
 ·rw[if_neg hd];refine aQ (bC (aQ (Ye aZ rfl T.room ?_)));refine aQ ?_;unfold newFields;refine u7 (bC ⟨_,rfl,"set_iterator",_,⟨_,eT _ rfl,rfl⟩,rm.lookup,?_⟩);have Ra:∀b∈[s.heap.objs.size,a],b=a∨s.heap.objs.size<=b:=λb ab=>by
   rcases dR.mp ab with z | ab
   ·rw[z];exact .inr (c9 _)
   ·exact .inl (gK.mp ab)
  by_cases ab:w.params.followText "set-order"=true
  ·exact h _ _ s.drawn [_,a] _ _ (λb o e=>cV _ e) (c9 _) ((KH _ es).map (·.2)) Ra (aoi cu T ab (d3 eD)) ⟨⟨0,eT _ rfl⟩,cV _ aZ⟩
  ·have ab:w.params.followText "set-order"=false:=by simpa using ab
   have hd:¬es.size > 1:=by
    intro z;exact hd (by rw[ab,T.drawn,decide_eq_true z];rfl)
   have ag:es.size=1:=by omega
   obtain⟨⟨k,v⟩,rfl⟩:=O6 ag;have aH:=T.room;unfold Xu at aH;rw[jB,beq_iff_eq]at aH;obtain⟨j,a2⟩:=O6 aH.1;exact h _ _ s.drawn [_,a] [v] _ (λb o e=>cV _ e) (c9 _) (.refl _) Ra (aoh cu T a2 ab (d3 eD)) ⟨eT _ rfl,cV _ aZ⟩
def ad_{R:u5->aM->Prop}{S:O}(cu:A.handled=none)(aZ:s.heap.get? a=some (i' es ep tb))(T:gC w es tb ss)(bE:0 < es.size)(ne:S≠a)(dE:s.heap.get? S=some {cls:=.type "list",data:=.seq #[] 0})
  (kK:∀(h1:cg)(d:pf)(tk:Nat)(acc:Array aj)(c:Nat),(∀b o,b≠S->s.heap.get? b=some o->h1.get? b=some o)->h1.get? S=some {cls:=.type "list",dict:=none,data:=.seq acc c,slots:= #[]}->acc.toList.Perm (es.toList.map (·.2))->
   R (.ok (.ret res)) {s with heap:=h1,drawn:=d,toks:=tk}):
  wpAny (model prog w) A.in1 (M2 (.ref S) (.ref a) res)
   (λdq s'=>match dq with | .done f=>R (.ok f) s' | .again c'=>c'.quiet=true/\codeAny (model prog w) A c' R s') (λe s'=>R (.error e) s') s:=by
 have de:s.TypeIs (.ref a) "set":=⟨_,aZ,rfl⟩;unfold M2;refine aQ (F' (T:="set") de ?_);have h1:V' (.ref S) (.ref a)=false:=by simp[V',ne]
 have fm:(Value.type "set"==Value.type "list")=false:=by decide
 have dw:(Value.type "set"==Value.type "tuple")=false:=by decide
 simp only[h1,fm,dw,V5,nj,if_false];refine aQ (alS (A:=A.in1) cu aZ T bE λI h' d fp vals St keep nR ae ae_ W st=>?_);have wq:=dm dE;have Rz:S∉fp:=λz=>by
  rcases ae_ S z with q | q
  ·exact ne q
  ·exact absurd wq (xF.mpr q)
 have aqf:S≠I:=λz=>absurd wq (xF.mpr (by rw[z];exact nR))
 have len:vals.length=es.size:=by simpa using ae.length_eq
 have z:sizeLine=16777216:=k1;have c_:=T.c_;have key:∀(h2:cg)(CS tk:Nat),St 0 h2->(∀b o,b≠S->s.heap.get? b=some o->h2.get? b=some o)->h2.get? S=some {cls:=.type "list",data:=.seq #[] CS}->
   codeAny (model prog w) A (.builtin "list.extend.loop" ⟨[.ref S,.ref I,res],[]⟩) R {s with heap:=h2,drawn:=d,toks:=tk}:=by
  intro h2 CS tk w0 ev zK;refine codeAny_extend_loopS W.toS (by omega) S Rz res es.size 0 _ #[] CS rfl (j2 _) w0 zK (ItemsOf.nil _) λs' nF c' bx qQ l8=>?_
  rw[Moved.eq_with bx];refine kK s'.heap d s'.toks nF c' (λb o ab e=>bx.heap b o (λJk=>?_) (ev b o ab e)) qQ ?_
  ·rcases dR.mp Jk with bQ | Jk
   ·exact ab bQ
   ·exact absurd (dm e) (xF.mpr (by rw[gK.mp Jk];exact nR))
  ·have e:nF.toList=vals:=by
    refine List.ext_getElem? λj=>?_;by_cases a2:j < nF.size
    ·have g:nF[j]? =some nF[j]:=Fs a2;rw[xm,g];exact(l8.2 j _ g).symm
    ·rw[WH (by simpa using a2),WH (by rw[len, <- l8.1];omega)]
   rw[e];exact ae
 have zL:=keep _ _ dE;refine aQ (jF (ag0 ⟨_,keep _ _ aZ,rfl⟩ ?_));refine NY (λ_=>?_) (λ_=>bC ⟨pn Xc _,key _ 0 _ st (λb o _ e=>keep b o e) zL⟩);refine aQ (Bv ?_);refine aQ ?_;show wpAny _ _ (updateSeq S (λq=>q.push .none)>>=λ_=>updateSeq S (λq=>q.pop)) _ _ _;refine aQ (Bx zL rfl ?_);have RA:=mr (ol (λq=>q.push Value.none)) zL rfl;refine Bx (hz:=by seq_fits) RA rfl ?_
 have agk:=mr (ol (λq=>q.pop)) RA rfl;refine bC ⟨pn Xc _,key _ _ _ ?_ (λb o ab e=>?_) agk⟩
 ·refine W.frame 0 _ _ st λb ab o e=>?_;have RG:S≠b:=λh=>Rz (by rw[h];exact ab)
  exact(lR _ _ RG).trans ((lR _ _ RG).trans e)
 ·exact(lR _ _ (Ne.symm ab)).trans ((lR _ _ (Ne.symm ab)).trans (keep b o e))
def aa_{R:List aj->aM->Prop}(cu:A.handled=none)(aZ:s.heap.get? a=some (i' es ep tb))(T:gC w es tb ss)(bE:0 < es.size)
  (h:∀(h':cg)(d:pf)(tk:Nat)(vs:List aj),(∀b o,s.heap.get? b=some o->h'.get? b=some o)->vs.Perm (es.toList.map (·.2))->R vs {s with heap:=h',drawn:=d,toks:=tk}):
  wpAny (model prog w) A (collect (.ref a)) R E s:=by
 unfold collect;refine aQ (Yd (pk entry_proto_collect' ?_));rw[qi PySem.F.plain_proto_collect _];show wpAny _ A.in1 (newList []>>=λl=>again (.builtin "list.__iadd__" ⟨[l,.ref a],[]⟩)) _ _ _;refine aQ (u7 ?_);refine bC ⟨pn Xd _,pk entry_list_iadd' ?_⟩;rw[qi Xd _];have zL:(s.heap.push {cls:=.type "list",data:=.seq ([]:List aj).toArray}).get? s.heap.objs.size=some {cls:=.type "list",data:=.seq #[] 0}:=eT _ rfl;show wpAny _ A.in1 (M2 (.ref s.heap.objs.size) (.ref a) (.ref s.heap.objs.size)) _ _ _;have key:=ad_ (prog:=prog) (A:=A) (s:={s with heap:=s.heap.push {cls:=.type "list",data:=.seq ([]:List aj).toArray}}) (res:=.ref s.heap.objs.size)
  (R:=λ(q:u5)(s':aM)=>∃(h':cg)(d:pf)(tk:Nat)(nF:Array aj)(c':Nat),q= .ok (.ret (.ref s.heap.objs.size))/\s'={s with heap:=h',drawn:=d,toks:=tk}/\
   (∀b o,s.heap.get? b=some o->h'.get? b=some o)/\h'.get? s.heap.objs.size=some {cls:=.type "list",dict:=none,data:=.seq nF c',slots:= #[]}/\nF.toList.Perm (es.toList.map (·.2)))
  cu (cV _ aZ) T bE (ph (dm aZ)) zL
  (λh' d tk nF c' aw qQ l8=>⟨h',d,tk,nF,c',rfl,rfl,λb o e=>aw b o (d3 (dm e)) (cV _ e),qQ,l8⟩)
 refine j4 key (λdq s' x=>?_) λe s' x=>?_
 ·cases dq with
  | done f=>
   obtain⟨h',d,tk,nF,c',e,rfl,aw,qQ,l8⟩:=x;cases e;show wpAny _ A (load s.heap.objs.size >>=_) _ _ _;exact aQ (NZ qQ (bC (h h' d tk _ aw l8)))
  | again CS=>
   refine⟨x.1,pm x.2 λq s₂ y=>?_⟩;obtain⟨h',d,tk,nF,c',rfl,rfl,aw,qQ,l8⟩:=y;show wpAny _ A (load s.heap.objs.size >>=_) _ _ _;exact aQ (NZ qQ (bC (h h' d tk _ aw l8)))
 ·obtain⟨_,_,_,_,_,bQ,_⟩:=x;cases bQ
end
end bu
namespace bu
open PySem PyProof.Rows
section
variable{prog:dn}{w:cH}{A:d0}{E:aj->aM->Prop}{s:aM}
def anp{P:List Str->Prop}{Q:aj->aM->Prop}(i_:∀ss,P ss->ss.length < 64)
  (I6:∀R:List aj->aM->Prop,(∀(h1:cg)(d:pf)(tk:Nat)(vs:List aj)(ss:List Str),P ss->j3 vs ss->(∀b o,s.heap.get? b=some o->h1.get? b=some o)->R vs {s with heap:=h1,drawn:=d,toks:=tk})->wpAny (model prog w) A.in1 (collect (.ref r)) R E s)
  (h:∀(h1 h':cg)(d:pf)(tk:Nat)(l:O)(ih:List aj)(e:Nat)(ss ss':List Str),P ss->(∀b o,s.heap.get? b=some o->h1.get? b=some o)->(∀b o,h1.get? b=some o->h'.get? b=some o)->h1.objs.size<=l->h'.get? l=some (seqObj "list" ih.toArray e)->j3 ih ss'->ss'.Perm ss->sortedS ss'=true->
   Q (.ref l) {s with heap:=h',drawn:=d,toks:=tk}):wpAny (model prog w) A (call (.builtin "sorted") [.ref r]) Q E s:=by
 refine Wd kind_sorted plain_sorted entry_sorted (args_sorted1 _) ?_;unfold Builtin.«sorted»;refine aQ (m:=checkCount "sorted" 1 1 _) (bC ?_);refine aQ (I6 _ λh1 d tk vs ss dj dE k=>?_);have ar:vs.length < 64:=by
  have:vs.length=ss.length:=by rw[<- dE.strs,dV]
  have:=i_ ss dj;omega
 refine aQ (N1 ?_);have pR:(h1.push (seqObj "list" vs.toArray 0)).get? h1.objs.size=some (seqObj "list" vs.toArray 0):=eT _ rfl;show wpAny _ _ _ _ _ {s with heap:=h1.push (seqObj "list" vs.toArray 0),drawn:=d,toks:=tk}
 refine aQ (jF (tc XT ⟨_,pR,rfl⟩ XK (XQ XY pR dE.keysOf (λFi Fj dG e=>keyKind_strs (by rw[<- e];exact dE)) ar λiZ aB aS=>⟨_,rfl,?_⟩) (XG _)))
 obtain⟨ss',eH,ek,o_⟩:=XX dE aB aS;obtain⟨e,he⟩:=XU (out:=(arrOf iZ).map (·.2)) pR;refine bC ⟨_,rfl,?_⟩;refine h h1 _ d tk _ _ e ss ss' dj k (λb o ao=>?_) (c9 _) he eH ek o_;rw[XW (d3 (dm ao)) (by rw[size_push'];exact rF (dm ao))]
 exact cV _ ao
end
def Inv.drew{H:ak}(I:Inv X aa σ H s)(d:pf):Inv X aa σ H {s with drawn:=d}:=⟨I.ok,I.os,I.bare,I.base,I.loc,I.cell,I.free,I.iR,I.pin,I.a',I.len⟩
def vv(w:cH)(a:O)(xs:List Str):dB:=.ext λh=>∃es ep tb ss,h.get? a=some (i' es ep tb)/\gC w es tb ss/\ss.Nodup/\(∀y,y∈ss↔y∈xs)/\0 < es.size
section
variable{X:bp}
def Hs(aL:X.calm=true):ji X (.type "set") (λxs H Q=>∃(p:O)(ss:List Str),xs=[.ref p]/\H p=some (.lst (ss.map V.str))/\ss≠[]/\ss.length < 4000/\∀l,H l=none->Q (.ref l) (a1 H l (vv X.w l ss))):=by
 intro aa s σ H xs us Q I r h;obtain⟨p,ss,rfl,aB,ia,hz,q⟩:=h;obtain⟨u,rfl,dO⟩:=r.one;cases dO;obtain⟨its,cf,pl,_⟩:=I.list (cS.of aB);have eh:its.length=ss.length:=by rw[<- cf.length];simp
 have Js:0 < ss.length:=FA.mpr ia;refine aa0 (I.ok.hd aL) (AM cf) (by omega) (by omega) pl.isList λh' tk ⟨es,ep,tb,ss',ag,aF,cU,jn⟩ k=>?_
 have bE:0 < es.size:=by
  have ke:=aF.vals.length;rw[dV,jA]at ke;rw[ke];obtain⟨x,ah⟩:∃x,x∈ss:=List.exists_mem_of_ne_nil ss ia;exact WN ((jn x).mpr ah)
 refine⟨.ref _,_,I.laid (o:=vv X.w s.heap.objs.size ss) (t':=tk) k (c9 _) ⟨⟨es,ep,tb,ss',ag,aF,cU,jn,bE⟩,⟨_,ag⟩,λh1 h2 ⟨dK,dy,fD,gD,z,r⟩ kk=>⟨dK,dy,fD,gD,kk _ z,r⟩⟩,rfl,q _ (I.a'.fresh (c9 _))⟩
def Ai{α:Type}[DecidableEq α]:∀{xs ys:List α},xs.Nodup->(∀y∈xs,y∈ys)->xs.length<=ys.length
 | [],_,_,_=>j2 _
 | a::xs,ys,a4,h=>by
  obtain⟨dD,fH⟩:=nr.mp a4;have af:a∈ys:=h a (by simp)
  have:=Ai (ys:=ys.erase a) fH λy b2=>(List.mem_erase_of_ne (λz=>dD (by rw[<- z];exact b2))).mpr (h y (by simp[b2]))
  rw[List.length_erase_of_mem af]at this;have:0 < ys.length:=WN af;rw[hH];omega
def Ht(aL:X.calm=true):ji X (.builtin "sorted") (λxs H Q=>∃(p:O)(ss:List Str),xs=[.ref p]/\H p=some (vv X.w p ss)/\ss.length < 64/\
  ∀l ss',H l=none->ss'.Nodup->(∀y,y∈ss'↔y∈ss)->sortedS ss'=true->Q (.ref l) (a1 H l (.lst (ss'.map V.str)))):=by
 intro aa s σ H xs us Q I r h;obtain⟨p,xs,rfl,aB,i_,q⟩:=h;obtain⟨u,rfl,dO⟩:=r.one;cases dO;obtain⟨⟨es,ep,tb,ss,ag,T,a4,mem,bE⟩,_,_⟩:=I.a' p _ aB;have af:X.A.in1.handled=none:=I.ok.hd aL;have eh:ss.length < 64:=FH (Ai a4 λy b2=>(mem y).mp b2) i_;refine anp (P:=λsV=>sV.Perm ss) (λsV bc=>by rw[bc.length_eq];exact eh) (λR kK=>aa_ af ag T bE λh' d tk vs aw ae=>?_) ?_
 ·obtain⟨sV,eH,ek⟩:=Mp ae T.vals;exact kK h' d tk vs sV ek eH aw
 ·intro h1 h' d tk l ih e sV ss' bc en ev ar he dE so aS;have KJ:=so.trans bc;obtain⟨nl,dX⟩:=I.DR (tk:=tk) en ev ar he dE (by rw[KJ.length_eq,k1];omega)
  exact⟨.ref l,_,dX.drew d,rfl,q l ss' nl (KJ.nodup_iff.mpr a4) (λy=>by rw[KJ.mem_iff,mem y]) aS⟩
end
end bu
namespace bu
open PySem PySem.W PySem.Spec PyProof.Rows
def CR(X:bp)(A:d0)(N:List Str)(qual:Str)(aX:gh)(cl:List (Str×O))(f:O)(cd:aj)(s:aM)(H:ak):bp where
 prog:=X.prog
 w:=X.w
 K:=X.K
 mg:=X.mg
 base:=X.base
 A:=A.deeper (envX qual aX s.heap.objs.size f cd cl)
 N:=N
 s₀:=s
 H₀:=H
 env:=envX qual aX s.heap.objs.size f cd cl
 a3:=X.stack
 stack:=envX qual aX s.heap.objs.size f cd cl::X.stack
 ex:=[]
 fn:=λ_=>false
 calm:=true
 cv:=[]
 cb:=λ_ _=>False
structure GI(X:bp)(aX:gh)(cl:List (Str×O))(p q:Str)(i:Nat):Prop where
 kind:aX.kind= .function
 co:aX.isCoroutine=false
 gen:aX.isGenerator=false
 q3:∀y∈aX.names,y.2≠ .cell
 par:aX.names.lookup p=some .local
 cap:aX.names.lookup q=some .free
 sub:∀x c,cl.lookup x=some c->X.env.cells.lookup x=some c
 has:∀y∈aX.names,y.2= .free->∃c,cl.lookup y.1=some c
 slot:X.N[i]? =some q
 cell:X.env.scope.names.lookup q=some .cell
section
variable{X:bp}{aa:List (O×b_)}{σ:St}{H:ak}{s:aM}{aX:gh}{cl:List (Str×O)}{p q qual:Str}{i:Nat}{f:O}{cd:aj}{A:d0}
def ais(S:GI X aX cl p q i)(h_:A.frames=some X.stack)(cu:A.handled=none)(I:Inv X aa σ H s)(r:RelV v u){h':cg}{tk:Nat}
  (ba:h'.Ns s.heap.objs.size λy=>[(p,u)].reverse.lookup y)(k:∀b o,s.heap.get? b=some o->h'.get? b=some o):
  Inv (CR X A [p,q] qual aX cl f cd s H) [] [some v,(σ[i]?).getD none] H {s with heap:=h',toks:=tk}:=by
 have fresh:H s.heap.objs.size=none:=I.a'.fresh (c9 _);have jT:∀b:O,b∉(CR X A [p,q] qual aX cl f cd s H).ex:=λb z=>absurd (show b∈([]:List O)from z) (by simp)
 refine⟨⟨I.ok.mod,S.kind,rfl,rfl,c9 _,λx y c ag aF=>I.ok.inj x y c (S.sub x c ag) (S.sub y c aF),λx ah=>?_,λx c z _=>MY (show false=true from z),λ_=>cu,VV h_,.inr ⟨rfl,rfl⟩,λb z=>absurd z (jT b),I.bs,
   gX I.ok.kI I.lO,λb _ _=>jT b,λb z=>absurd z (jT b),I.stack,I.w4⟩,
  rfl,I.bare,eV.kept k,⟨_,ba,λj x z ag aF cU=>?_⟩,λx c e=>?_,fresh,λx c e=>I.iR x c (S.sub x c e),λz hz=>absurd (show z∈([]:List (O×b_))from hz) (by simp),I.a'.kept k,rfl⟩
 ·have ah:aX.names.lookup x=some .cell∨aX.names.lookup x=some .free:=ah;rcases ah with ah | ah
  ·exact absurd rfl (S.q3 _ (op ah))
  ·exact S.has _ (op ah) rfl
 ·have ag: [p,q][j]? =some x:=ag;match j,ag,aF with
  | 0,ag,aF=>
   have ag:p=x:=by simpa using ag
   have aF:v=z:=by simpa using aF
   subst ag;subst aF;exact⟨u,r,.inl ⟨S.par,by simp⟩⟩
  | 1,ag,aF=>
   have ag:q=x:=by simpa using ag
   have aF:(σ[i]?).getD none=some z:=by simpa using aF
   subst ag;have tI:σ[i]? =some (some z):=by
    cases w:σ[i]? with
    | none=>rw[w]at aF;cases aF
    | some y=>rw[w]at aF;exact congrArg some aF
   obtain⟨m,_,ar⟩:=I.loc;obtain⟨fg,dA,l⟩:=ar i q z S.slot tI (.inr (.inl S.cell));refine⟨fg,dA,?_⟩;rcases l with⟨aw,_⟩ | ⟨_,c',zm,o,aZ,hd⟩
   ·have aw:X.env.scope.names.lookup q=some .local:=aw;rw[S.cell]at aw;cases aw
   ·obtain⟨c,l1⟩:=S.has _ (op S.cap) rfl;have:=S.sub q c l1;rw[zm]at this;cases this;exact .inr ⟨.inr S.cap,c',l1,o,k _ _ aZ,hd⟩
  | n+2,ag,aF=>simp at ag
 ·obtain⟨v,o,aZ,hd⟩:=I.cell x c (S.sub x c e);exact⟨v,o,k _ _ aZ,hd⟩
def ams(S:GI X aX cl p q i)(h_:A.frames=some X.stack)(aA:dT kk A)(I:Inv X aa σ H s)(r:RelV v u)
  (aZ:s.heap.get? f=some (kla_obj name qual params body aX cl dM c' oE))(kL:s.heap.CodeRec (.ref c') qual)(ab:bindArgs (kla_fn name qual params body aX cl dM (.ref c') oE) ⟨[u],[]⟩=pure [(p,u)])
  (he:∀s H,bz (CR X A [p,q] qual aX cl f (.ref c') s H) body te)(h:te [some v,(σ[i]?).getD none] H Q):
  wpAny (model X.prog X.w) A (call (.ref f) [u]) (gj X aa σ Q) (λ_ _=>False) s:=by
 refine qm (kla_callFunE aA.depth aZ rfl S.co S.gen rfl kL ?_);rw[ab];refine bC (X_ S.q3 (λy b2=>?_) (λJC Dw R1=>⟨(I.nolimit).fresh _ R1,?_⟩) S.kind)
 ·have:y=(p,u):=by simpa using b2
  subst this;exact S.par
 have en:∀b o,s.heap.get? b=some o->JC.get? b=some o:=λb o e=>R1.extBut b o (d3 (dm e)) (cV _ e);have bP:=ais (qual:=qual) (f:=f) (cd:=.ref c') S h_ aA.hd I r (tk:=s.toks+1) Dw en;refine kla_codeExpr (j4 (he s H [] _ _ H _ bP h) (λw s' aS=>?_) λ_ _ z=>z.elim);obtain⟨y,H',Ci,br,a9⟩:=aS;exact I.after ⟨y,H',Ci.os,Ci.bare,Ci.base,Ci.a',br,a9⟩
end
def vc(c:O)(qual:Str):dB:=.ext λh=>h.CodeRec (.ref c) qual
def yn(f:O)(qual:Str)(params:xk)(body:ck)(aX:gh)(cl:List (Str×O))(dM:aj)(c:O):dB:=.ext λh=>∃oE,h.get? f=some (kla_obj "<lambda>" qual params body aX cl dM c oE)
def pE(P:O)(pos:d1)(qual:Str)(H:ak):Prop:=∃ps,H P=some (.lP ps)/\FZ ps.toList/\(codeAmong pos ps.toList=none∨∃c,codeAmong pos ps.toList=some (.ref c)/\H c=some (vc c qual))
def BMain(mg:Str->Option aj)(base:cg):Prop:=∃d9 bW,mg "__builtins__"=some (.ref d9)/\d9≠builtinsNs/\base.get? d9=some bW/\bW.cls= .type "module"/\bW.dict=some builtinsNs/\bW.data= .plain
def pE.same{H H':ak}(t:pE P pos qual H)(s:∀b o,H b=some o->H' b=some o):pE P pos qual H':=by
 obtain⟨ps,h1,h2,aN⟩:=t;exact⟨ps,s _ _ h1,h2,aN.imp id λ⟨c,e,q⟩=>⟨c,e,s _ _ q⟩⟩
def aa9{h:cg}(e:h.CodeRec (.ref c) qual):fZ P w H h c (vc c qual):=by
 obtain⟨c',o,vs,t,ag,aF,cU⟩:=id e;cases ag;exact⟨e,⟨o,aF⟩,λh1 h2 ⟨d_,Kn,MK,dw,eH,ek,o_⟩ k=>by cases eH;exact⟨c,Kn,MK,dw,rfl,k _ ek,o_⟩⟩
def aa8(x:eN P w H h)(e:H c=some (vc c qual)):h.CodeRec (.ref c) qual:=(x c _ e).1
def anW:∀(l:List aj)(a b c:aj),FZ l->(∃i t,a= .int i t)->(∃i t,b= .int i t)->FZ (l++[a,b,c]):=by
 intro l
 fun_induction FZ l with
 | case1=>
  rintro a b c _ ⟨i,t,rfl⟩ ⟨j,u,rfl⟩;exact True.intro
 | case2 i t j u v dG b3=>
  intro a b c h af ab;exact b3 a b c h af ab
 | case3=>intro a b c h;exact h.elim
section
variable{X:bp}{aX:gh}{cl:List (Str×O)}{params:xk}{body:ck}{pos:d1}{c P:O}
def Vn(X:bp)(P:O)(params:xk)(body:ck)(aX:gh)(cl:List (Str×O))(pos:d1):TE:=λ_ H Q=>pE P pos (X.env.qual++"<lambda>") H/\
 ∀f c' H',(∀b o,H b=some o->b≠P->H' b=some o)->H' f=some (yn f (X.env.qual++"<lambda>") params body aX cl ((X.mg "__name__").getD .none) c')->H' c'=some (vc c' (X.env.qual++"<lambda>"))->
  pE P pos (X.env.qual++"<lambda>") H'->H f=none->Q (.ref f) H'
def alm(sj:closureFor aX X.env=pure cl)(RK:X.env.code= .ref c)(C:CodeHd X.base c P)(xX:BMain X.mg X.base)(agK:defaultsOf params X.env=([],[])):
  bz X (.Lambda params body aX pos) (Vn X P params body aX cl pos):=by
 intro aa s σ H Q I h;obtain⟨⟨ps,dj,hb,G'⟩,q⟩:=h;have Dh:s.heap.get? P=some (tabObj ps):=I.a' P _ dj;have old:∀{b:O}{o:b_},X.base.get? b=some o->b≠P:=λ{b o} e z=>by
  have:=(I.bs b o e).2;rw[z,dj]at this;cases this
 have bl:s.heap.Ns mainGlobals X.mg:=I.mod.glob.keeps I.f7;obtain⟨d9,bW,dI,em,iP,yL,yM,yN⟩:=xX;have agT:mainGlobals≠P:=by
  obtain⟨o,_,_,e,_⟩:=I.mod.glob;exact old e
 have agw:d9≠mainGlobals:=λz=>by
  obtain⟨o,es,ep,e,hd,_⟩:=I.mod.glob;rw[z,e]at iP;cases iP;rw[hd]at yN;cases yN
 have pN:s.heap.BuiltinsAt X.mg P:=⟨d9,bW,dI,em,agw,old iP,I.f7 _ _ iP,yL,yM,yN⟩;refine kla_eval agK ?_;rcases G' with RT | ⟨c0,aH,Dr⟩
 ·refine kla_makeFunction sj I.ok.glob bl RK (C.keeps I.f7) Dh hb RT agT pN λc' oE h' tk ah Ds eD Ju Jw=>?_;have fr:h'.objs.size<=h'.objs.size:=c9 _;have l_:H c'=none:=I.a'.fresh Ds;have eg:H h'.objs.size=none:=I.a'.fresh (gX Ds (kA eD));have vG:c'≠P:=λz=>by rw[z,dj]at l_;cases l_
  have r':h'.objs.size≠P:=λz=>by rw[z,dj]at eg;cases eg
  have aa5:c'≠h'.objs.size:=d3 eD;generalize t8:ps++ #[rawInt pos.line,rawInt pos.col,.ref c']=KL at Jw;generalize RW:kla_obj "<lambda>" (X.env.qual++"<lambda>") params body aX cl ((X.mg "__name__").getD .none) c' oE=sA;have DO:sA.isFreed=false:=by rw[<- RW];rfl
  let H3:ak:=a1 (a1 (a1 H P (.lP KL)) c' (vc c' (X.env.qual++"<lambda>"))) h'.objs.size (yn h'.objs.size (X.env.qual++"<lambda>") params body aX cl ((X.mg "__name__").getD .none) c')
  have cD:∀b o,H b=some o->b≠P->H3 b=some o:=λb o e n=>by
   show a1 _ _ _ b=_;rw[bj (eK e eg),bj (eK e l_),bj n];exact e
  have Sr:H3 h'.objs.size=some (yn h'.objs.size (X.env.qual++"<lambda>") params body aX cl ((X.mg "__name__").getD .none) c'):=cw;have JJ:H3 c'=some (vc c' (X.env.qual++"<lambda>")):=by
   show a1 _ _ _ c'=_;rw[bj aa5];exact cw
  have JI:H3 P=some (.lP KL):=by
   show a1 _ _ _ P=_;rw[bj (Ne.symm r'),bj (Ne.symm vG)];exact cw
  have hj:∀b,b≠P->b≠c'->b≠h'.objs.size->H3 b=H b:=λb dD fH jQ=>by
   show a1 _ _ _ b=_;rw[bj jQ,bj fH,bj dD]
  have DJ:∀b o,b≠P->s.heap.get? b=some o->(h'.push sA).get? b=some o:=λb o n e=>cV _ (ah b o n e);have lO:∀b o,s.heap.get? b=some o->b≠c'/\b≠h'.objs.size:=λb o e=>⟨d3 (i1 (dm e) Ds),d3 (i1 (dm e) (gX Ds (kA eD)))⟩;have Kf:∀b,H b=none->b≠P:=λb n z=>by rw[z,dj]at n;cases n
  have un:eV X.fs [] H H3 s.heap (h'.push sA):=by
   refine⟨λb o e n _ _=>DJ b o (Kf b n) e,λb o e n _ _=>⟨o.slots,DJ b o (Kf b n) e⟩,λb o e n _=>?_,λb o e _=>?_,λb xs e=>cD b _ e ?_,λb o u e=>cD b _ e ?_,λb n4 e=>?_⟩
   ·rw[hj b (Kf b n) (lO b o e).1 (lO b o e).2];exact n
   ·by_cases ab:b=P
    ·exact⟨_,by rw[ab];exact cV _ Jw⟩
    ·exact⟨o,DJ b o ab e⟩
   ·intro z;rw[z,dj]at e;cases e
   ·intro z;rw[z,dj]at e;cases e
   ·by_cases ab:b=P
    ·rw[ab,dj]at e;cases e;exact⟨_,by rw[ab,JI,t8]⟩
    ·exact⟨#[],by rw[cD b _ e ab];simp⟩
  have a':eN X.prog X.w H3 (h'.push sA):=by
   intro b o e;by_cases eH:b=h'.objs.size
   ·subst eH;rw[Sr]at e;cases e;exact⟨⟨oE,by rw[RW];exact eT _ DO⟩,⟨_,eT _ DO⟩,λh1 h2 ⟨v,z⟩ k=>⟨v,k _ z⟩⟩
   by_cases ek:b=c'
   ·subst ek;rw[JJ]at e;cases e;exact aa9 (Ju.push _)
   by_cases o_:b=P
   ·subst o_;rw[JI]at e;cases e;show(h'.push sA).get? b=some _;exact cV _ Jw
   rw[hj b o_ ek eH]at e;refine(I.a' b o e).p8 (λd u hd z=>DJ d u ?_ z) (λd z=>cD d _ z ?_) λd xs z=>cD d _ z ?_
   ·rintro rfl;rcases hd with y | y
    ·exact o_ y.symm
    ·rw[dj]at y;cases y
   ·rintro rfl;rw[dj]at z;cases z
   ·rintro rfl;rw[dj]at z;cases z
  refine⟨.ref h'.objs.size,H3,I.un (t':=tk) un a',rfl,q _ c' H3 cD Sr JJ ⟨KL,JI,?_,.inr ⟨c',?_,JJ⟩⟩ eg⟩
  ·rw[<- t8,V0];exact anW _ _ _ _ hb ⟨_,_,rfl⟩ ⟨_,_,rfl⟩
  ·rw[<- t8,V0];exact codeAmong_snoc _ hb RT
 ·refine kla_makeFunctionHit sj I.ok.glob bl RK (C.keeps I.f7) Dh hb aH pN λoE h' tk aw hsz=>?_;have eg:H h'.objs.size=none:=I.a'.fresh hsz;have cD:∀b o,H b=some o->a1 H h'.objs.size (yn h'.objs.size (X.env.qual++"<lambda>") params body aX cl ((X.mg "__name__").getD .none) c0) b=some o:=λb o e=>by
   rw[bj (eK e eg)];exact e
  refine⟨.ref h'.objs.size,_,I.laid (o:=yn h'.objs.size (X.env.qual++"<lambda>") params body aX cl ((X.mg "__name__").getD .none) c0) (t':=tk) (λb o e=>cV _ (aw b o e)) hsz ⟨⟨oE,eT _ rfl⟩,⟨_,eT _ rfl⟩,λh1 h2 ⟨v,z⟩ k=>⟨v,k _ z⟩⟩,rfl,
   q _ c0 _ (λb o e _=>cD b o e) cw (cD _ _ Dr) (pE.same ⟨ps,dj,hb,.inr ⟨c0,aH,Dr⟩⟩ cD) eg⟩
end
section
variable{X:bp}{aa:List (O×b_)}{σ:St}{H:ak}{l S bP f:O}{vs:List V}{ky:V->Int}
abbrev GH(X:bp)(σ:St)(H:ak)(f:O)(vs:List V)(ky:V->Int):Prop:=∀v∈vs,∀(lI:List (O×b_))(s':aM)(u:aj),Inv X lI σ H s'->RelV v u->
 wpAny (model X.prog X.w) X.A.in1 (call (.ref f) [u]) (gj X lI σ λy H2=>y= .int (ky v)/\H2=H) (λ_ _=>False) s'
def T9(I:Inv X aa σ H s)(kj:hJ X aa H S)(oM:hJ X aa H bP)(pM:s.heap.get? S=some Tv)(tT:s.heap.get? bP=some oZ)(abL:∀v,Tv.data≠ .cell v)(abu:∀v,oZ.data≠ .cell v):Inv X (aa++[(S,Tv),(bP,oZ)]) σ H s:=
 I.KI λp aB=>by
  rcases nn.mp aB with z | z
  ·exact I.pin p (il _ z)
  ·rcases dR.mp z with z | z
   ·subst z;exact⟨pM,kj.1,kj.2.1,kj.2.2.1,abL⟩
   ·rw[gK.mp z];exact⟨tT,oM.1,oM.2.1,oM.2.2.1,abu⟩
def v6{h':cg}{tk:Nat}(I:Inv X aa σ H s)(kj:hJ X aa H S)(k:∀b o,b≠S->s.heap.get? b=some o->h'.get? b=some o):Inv X aa σ H {s with heap:=h',toks:=tk}:=
 I.turned k kj.1 kj.2.1 kj.2.2.2.1 kj.2.2.2.2.1 kj.2.2.2.2.2
def ai1{R:u5->aM->Prop}(cu:X.A.handled=none)(ar:H l=some (.lst vs))(kj:hJ X aa H S)(oM:hJ X aa H bP)(tx:S≠bP)(wq:l≠S)(Sz:l≠bP)(turn:GH X σ H f vs ky)
  (kK:∀(i:Nat) v u s',vs[i]? =some v->RelV v u->(∀(j:Nat) w,vs[j]? =some w->ky v<=ky w/\(j < i->ky v < ky w))->Inv X aa σ H s'->R (.ok (.ret u)) s'):
  ∀(r j i:Nat)(s:aM)(bB:V)(rv:aj)(tb:i3)(c:Nat),vs.length - (j+1)=r->j+1<=vs.length->Inv X aa σ H s->s.heap.get? S=some (seqObj "list" #[rv,.int (ky bB) tb] c)->s.heap.IsListIter bP l (j+1)->vs[i]? =some bB->RelV bB rv->i<=j->
   (∀(j':Nat) w,j'<=j->vs[j']? =some w->ky bB<=ky w/\(j' < i->ky bB < ky w))->
   codeAny (model X.prog X.w) X.A (.builtin "min.loop" ⟨[.ref bP,.ref f,.ref S],[]⟩) R s:=by
 have t6:(toString "min"++toString ".loop":String)="min.loop":=by decide
 intro r;induction r with
 | zero=>
  intro j i s bB rv tb c aA a2 I pM tT Jy cf agZ CM;obtain⟨its,sR,pl,_⟩:=I.list (cS.of ar);have len:=sR.length;refine pk Nr ?_;rw[qi u3 _];show wpAny _ X.A.in1 (seqItems? (.ref S)>>=_) _ _ _;refine aQ (Bw pM rfl ?_);show wpAny _ X.A.in1 (tryCatch (pyNext (.ref bP)) _ >>=_) _ _ _;refine aQ (xT (F9 (show X.A.in1.handled=none from cu) tT pl.isList (by simp;omega) λaN cC=>?_))
  have b9:Inv X aa σ H {s with heap:=aN,toks:=s.toks}:=v6 I oM cC
  have afv:aN.get? S=some (seqObj "list" #[rv,.int (ky bB) tb] c):=cC S _ tx pM;show wpAny _ X.A.in1 (updateSeq S (λ_=> #[])>>=_) _ _ _;refine aQ (Bx (s:={s with heap:=aN}) afv rfl (aQ (Bs (bC ?_))))
  have dU:i0 S aN (aN.update S (ol λ_=>(#[]:Array aj))):=rA aN S _;exact kK i bB rv _ Jy cf (λj' w b0=>CM j' w (by have:=(hf.mp b0).1;omega) b0) (v6 (tk:=s.toks) b9 kj λb o n e=>(dU.2 b n).trans e)
 | succ r b3=>
  intro j i s bB rv tb c aA a2 I pM tT Jy cf agZ CM;obtain⟨its,sR,pl,_⟩:=I.list (cS.of ar);have len:=sR.length;have eD:j+1 < vs.length:=by omega
  obtain⟨w,b0⟩:∃w,vs[j+1]? =some w:=⟨_,jC eD⟩;obtain⟨u,aD,dO⟩:=sR.get b0;refine pk Nr ?_;rw[qi u3 _];show wpAny _ X.A.in1 (seqItems? (.ref S)>>=_) _ _ _;refine aQ (Bw pM rfl ?_);show wpAny _ X.A.in1 (tryCatch (pyNext (.ref bP)) _ >>=_) _ _ _;refine aQ (xT (Bu tT pl.isList (x:=u) (by simpa using aD) λh1 IV jf=>?_))
  have aW:Inv X aa σ H {s with heap:=h1,toks:=s.toks}:=v6 I oM λb o n e=>(jf.2 b n).trans e
  have IL:h1.get? S=some (seqObj "list" #[rv,.int (ky bB) tb] c):=(jf.2 S tx).trans pM;obtain⟨oZ,IQ,t7,mS⟩:=id IV;have ZL:=T9 aW kj oM IL IQ (λv z=>by cases z) (λv z=>by rw[mS]at z;cases z)
  show wpAny _ X.A.in1 (tryCatch (holding [u] (call (.ref f) [u])) _ >>=_) _ _ _;refine aQ (xT (jF (j4 (turn w (oh b0) _ _ u ZL dO) (λx s'' he=>?_) λ_ _ cZ=>cZ.elim)));obtain⟨y,H2,yj,br,fP,qE⟩:=he;subst fP;subst qE;obtain⟨dw,rfl⟩:=br;have v8:s''.heap.get? S=some (seqObj "list" #[rv,.int (ky bB) tb] c):=(yj.pin (S,_) (il _ (il _ (.head _)))).1;have Dg:s''.heap.get? bP=some oZ:=(yj.pin (bP,oZ) (il _ (il _ (.tail _ (.head _))))).1;have bU:Inv X aa σ H2 s'':=yj.w';have agh:s''.heap.IsListIter bP l (j+1+1):=⟨oZ,Dg,t7,mS⟩;show wpAny _ X.A.in1 (tryCatch (holding [u,.int (ky w) dw] (richCompare .Lt (.int (ky w) dw) (.int (ky bB) tb)>>=_)) _ >>=_) _ _ _;refine aQ (xT (jF (aQ (CmpOf.ints_lt (prog:=X.prog) (w:=X.w) (A:=X.A.in1) (P:=λn v=>∃t,v= .int (if n=0 then ky w else ky bB) t) (λn=>if n=0 then ky w else ky bB) (λ_ _ h=>h) 0 1 _ _ _ _ _ ⟨dw,rfl⟩ ⟨tb,rfl⟩ ?_))))
  refine aQ (jF (rL ?_));refine aQ (Bs (bC ?_));show wpAny _ _ (if decide (ky w < ky bB)=true then _ else _) _ _ _
  by_cases tX:ky w < ky bB
  ·rw[if_pos (decide_eq_true tX)];have s1:=rA s''.heap S (ol λ_=> #[u,.int (ky w) dw]);obtain⟨d_,zN⟩:∃d_,(s''.heap.update S (ol λ_=> #[u,.int (ky w) dw])).get? S=some (seqObj "list" #[u,.int (ky w) dw] d_):=⟨_,XO v8 λ_=> #[u,.int (ky w) dw]⟩;refine aQ ?_;refine Bx v8 rfl (aQ (Bs ?_));rw[t6];refine bC ⟨pn u3 _,b3 (j+1) (j+1) _ w u dw d_ (by omega) eD (v6 (tk:=s''.toks) bU kj λb o n e=>(s1.2 b n).trans e) zN ⟨oZ,(s1.2 bP (Ne.symm tx)).trans Dg,t7,mS⟩ b0 dO (c9 _) λj' fq sm pT=>?_⟩
   by_cases e:j'=j+1
   ·subst e;rw[b0]at pT;cases pT;exact⟨Fv _,λz=>absurd z (rE _)⟩
   ·have:=(CM j' fq (by omega) pT).1
    exact⟨by omega,λ_=>by omega⟩
  ·rw[if_neg (by simpa using tX)]
   refine aQ (Bs ?_);rw[t6];refine bC ⟨pn u3 _,b3 (j+1) i _ bB rv tb c (by omega) eD bU v8 agh Jy cf (by omega) λj' fq sm pT=>?_⟩
   by_cases e:j'=j+1
   ·subst e;rw[b0]at pT;cases pT;exact⟨by omega,λz=>by omega⟩
   ·exact CM j' fq (by omega) pT
end
section
variable{X:bp}{aa:List (O×b_)}{σ:St}{H:ak}{l f:O}{vs:List V}{ky:V->Int}
def amu{Q:c3}(aL:X.calm=true)(I:Inv X aa σ H s)(ar:H l=some (.lst vs))(ia:vs≠[])(turn:GH X σ H f vs ky)
  (done:∀(i:Nat) v,vs[i]? =some v->(∀(j:Nat) w,vs[j]? =some w->ky v<=ky w/\(j < i->ky v < ky w))->Q v H):
  wpAny (model X.prog X.w) X.A (call (.builtin "min") [.ref l] [(rI "key",.ref f)]) (gj X aa σ Q) X.cb s:=by
 have t6:(toString "min"++toString ".loop":String)="min.loop":=by decide
 have cu:X.A.handled=none:=I.ok.hd aL;obtain⟨its,sR,pl,_⟩:=I.list (cS.of ar);have len:=sR.length;have Js:0 < vs.length:=FA.mpr ia;obtain⟨w,b0⟩:∃w,vs[0]? =some w:=⟨_,jC Js⟩;obtain⟨aqG,Dy,_⟩:=id pl.isList;have RS:=dm Dy;refine kmk_tree PySem.F.kind_min PySem.F.plain_min PySem.F.entry_min (kmk_min_key _ _) ?_;show wpAny _ X.A.in1 (V8 "min" ["key","default"] 0 ⟨[],[(rI "key",.ref f)]⟩>>=_) _ _ _;refine aQ (F7 (show V8 "min" ["key","default"] 0 ⟨[],[(rI "key",Value.ref f)]⟩=pure [some (.ref f),none]from rfl) ?_)
 refine aQ (bC ?_);refine aQ (xR pl.isList ?_);refine aQ (N1 ?_ (j2 _));rw[t6];refine bC ⟨pn u3 _,?_⟩;generalize nT:({cls:=.type "list_iterator",data:=.fields #[.ref l,.int 0 0]}:b_)=o1;have agg:(s.heap.push o1).get? s.heap.objs.size=some o1:=eT _ (by rw[<- nT];rfl)
 have Fm:(s.heap.push o1).objs.size=s.heap.objs.size+1:=ms ..;have en:∀b o,s.heap.get? b=some o->((s.heap.push o1).push (seqObj "list" #[] 0)).get? b=some o:=λb o e=>cV _ (cV _ e);have oM:hJ X aa H s.heap.objs.size:=I.qJ (c9 _) I.fresh;have kj:hJ X aa H (s.heap.push o1).objs.size:=I.qJ (by rw[Fm];exact oj _) (I.a'.fresh (by rw[Fm];exact oj _))
 have tx:(s.heap.push o1).objs.size≠s.heap.objs.size:=by rw[Fm];exact ph (Bg _)
 have Sz:l≠s.heap.objs.size:=d3 RS;have wq:l≠(s.heap.push o1).objs.size:=by rw[Fm];exact d3 (rF RS)
 have aW:Inv X aa σ H {s with heap:=(s.heap.push o1).push (seqObj "list" #[] 0),toks:=s.toks}:=I.kept en
 have pM:((s.heap.push o1).push (seqObj "list" #[] 0)).get? (s.heap.push o1).objs.size=some (seqObj "list" #[] 0):=eT _ rfl;have tT:((s.heap.push o1).push (seqObj "list" #[] 0)).IsListIter s.heap.objs.size l 0:=⟨o1,cV _ agg,by rw[<- nT],by rw[<- nT];rfl⟩
 generalize (s.heap.push o1).objs.size=S at *
 generalize s.heap.objs.size=bP at *
 generalize (s.heap.push o1).push (seqObj "list" #[] 0)=bE at *
 obtain⟨its,sR,pl,_⟩:=aW.list (cS.of ar);obtain⟨u,aD,dO⟩:=sR.get b0;refine pk Nr ?_;rw[qi u3 _];show wpAny _ X.A.in1 (seqItems? (.ref S)>>=_) _ _ _;refine aQ (Bw pM rfl ?_);show wpAny _ X.A.in1 (tryCatch (pyNext (.ref bP)) _ >>=_) _ _ _;refine aQ (xT (Bu tT pl.isList (x:=u) (by simpa using aD) λh1 IV jf=>?_))
 have bU:Inv X aa σ H {s with heap:=h1,toks:=s.toks}:=v6 (s:={s with heap:=bE,toks:=s.toks}) aW oM λb o n e=>(jf.2 b n).trans e
 have IL:h1.get? S=some (seqObj "list" #[] 0):=(jf.2 S tx).trans pM;obtain⟨oZ,IQ,t7,mS⟩:=id IV;have yj:=T9 bU kj oM IL IQ (λv z=>by cases z) (λv z=>by rw[mS]at z;cases z)
 show wpAny _ X.A.in1 (tryCatch (holding [u] (call (.ref f) [u])) _ >>=_) _ _ _;refine aQ (xT (jF (j4 (turn w (oh b0) _ _ u yj dO) (λx s'' he=>?_) λ_ _ cZ=>cZ.elim)));obtain⟨y,H2,GD,br,fP,qE⟩:=he;subst fP;subst qE;obtain⟨dw,rfl⟩:=br;have v8:s''.heap.get? S=some (seqObj "list" #[] 0):=(GD.pin (S,_) (il _ (il _ (.head _)))).1;have Dg:s''.heap.get? bP=some oZ:=(GD.pin (bP,oZ) (il _ (il _ (.tail _ (.head _))))).1;have b9:Inv X aa σ H2 s'':=GD.w';have s1:=rA s''.heap S (ol λ_=> #[u,.int (ky w) dw]);obtain⟨d_,zN⟩:∃d_,(s''.heap.update S (ol λ_=> #[u,.int (ky w) dw])).get? S=some (seqObj "list" #[u,.int (ky w) dw] d_):=⟨_,XO v8 λ_=> #[u,.int (ky w) dw]⟩;show wpAny _ X.A.in1 (updateSeq S (λ_=> #[u,.int (ky w) dw])>>=_) _ _ _;refine aQ ?_;refine Bx v8 rfl ?_;rw[t6];refine bC ⟨pn u3 _,ai1 cu ar kj oM tx wq Sz turn (λi v fg s' e r b dX=>⟨v,H2,dX,r,done i v e b⟩) _ 0 0 _ w u dw d_ rfl Js (v6 (tk:=s''.toks) b9 kj λb o n e=>(s1.2 b n).trans e) zN ⟨oZ,(s1.2 bP (Ne.symm tx)).trans Dg,t7,mS⟩ b0 dO (c9 _) λj' fq sm pT=>?_⟩;have e:j'=0:=by omega
 subst e;rw[b0]at pT;cases pT;exact⟨Fv _,λh=>absurd h (rE _)⟩
end
section
variable{X:bp}{e sA:ck}{t tk:fi}{p pos DK:d1}
def Vp(X:bp)(t tk:fi):TE:=λσ H Q=>t σ H λxs H1=>tk σ H1 λys H2=>∃l f vs ky,xs=[.ref l]/\ys=[.ref f]/\H2 l=some (.lst vs)/\vs≠[]/\GH X σ H2 f vs ky/\
 ∀(i:Nat) v,vs[i]? =some v->(∀(j:Nat) w,vs[j]? =some w->ky v<=ky w/\(j < i->ky v < ky w))->Q v H2
def alp(aL:X.calm=true)(bl:fd X "min")(bx:X.mg "min"=none)(af:jJ X [e] t)(aw:yu X [⟨some "key",sA,DK⟩] tk)
  (he:backTo pos (starEach [e] X.env)=(false,eval e X.env)::backTo pos (starEach [] X.env):=by rfl)(Jr:(backTo pos (starEach [e] X.env)).any (·.1)=false:=by rfl):
  bz X (.Call (.Name "min" p) [e] [⟨some "key",sA,DK⟩] pos) (Vp X t tk):=by
 intro aa s σ H Q I h;refine ql (qV I bl bx PyProof.Rows.Boot.«min» ?_ (by decide) (by decide))
 refine callWith_kw (bJ (af pos aa s σ H _ I h) λus s1 ⟨xs,H1,aW,r,q⟩=>?_) he Jr;refine bJ (aw pos aa s1 σ H1 _ aW q) λcJ s2 ⟨ys,H2,bU,n6,bZ⟩=>?_;obtain⟨l,f,vs,ky,rfl,rfl,ar,ia,turn,done⟩:=bZ;obtain⟨u,rfl,dO⟩:=r.one;obtain⟨w,rfl,rw⟩:=n6.one;cases dO;cases rw;exact amu aL bU ar ia turn done
end
end bu
namespace bu
open PySem PySem.Spec PyProof.Rows
def y7(X:bp)(N:List Str)(aX:gh)(cl:List (Str×O))(kk:Str)(C:O)(s:aM)(H:ak)(fp:List O)(cv:List (O×b_)):bp:=
 {lY X N aX ((kk,C+1)::cl) C s H fp cv with fn:=λx=>decide (x=kk)}
structure Gp(X:bp)(aX:gh)(cl:List (Str×O))(kk:Str)(own:List Str)(caps:List Str)(cap:List Nat):Prop where
 kind:aX.kind= .function
 one:∀y∈aX.names,y.2= .cell->y.1=kk
 names:∀y∈aX.names,y.2= .local->aX.names.lookup y.1=some .local
 nJ:closureFor aX X.env=pure cl
 sub:∀x c,cl.lookup x=some c->X.env.cells.lookup x=some c
 has:∀y∈aX.names,y.2= .free->∃c,cl.lookup y.1=some c
 cap:ov X aX cl caps cap
 apart:kk∉caps
 IH:∀n acc,cellsFrom n aX.names acc=(kk,n)::acc
 push:∀h,pushCells h aX.names=h.push {cls:=.type "cell",data:=.cell none}
def amd(h:(relabel aX env).names.lookup x=some .cell∨(relabel aX env).names.lookup x=some .free):(x,xD)∈aX.names∨(x,FG)∈aX.names:=by
 have m:∃k,(x,k)∈(relabel aX env).names/\(k= .cell∨k= .free):=by
  rcases h with h | h
  ·exact⟨_,op h,.inl rfl⟩
  ·exact⟨_,op h,.inr rfl⟩
 obtain⟨k,bx,aw⟩:=m;obtain⟨⟨n,sx⟩,h1,h2⟩:=fB.mp bx;dsimp only at h2;split at h2
 ·rename_i aL;have e:sx= .free:=by
   simp only[jB]at aL;simpa using aL.1.1
  subst e;cases h2;exact .inl h1
 ·cases h2;rcases aw with rfl | rfl
  ·exact .inr h1
  ·exact .inl h1
section
variable{M:Be}{A:d0}{E:aj->aM->Prop}{s:aM}{aX:gh}{globals:O}{cl:List (Str×O)}{kk qual:Str}{env:fL}
def aom{Q:fL->aM->Prop}(aH:∀n acc,cellsFrom n aX.names acc=(kk,n)::acc)(aB:∀h,pushCells h aX.names=h.push {cls:=.type "cell",data:=.cell none})
  (eC:∀h',h'.Ns s.heap.objs.size (λ_=>none)->h'.IsCell (s.heap.objs.size+1) none->(∀b o,s.heap.get? b=some o->h'.get? b=some o)->Q (newEnv aX s.heap.objs.size globals ((kk,s.heap.objs.size+1)::cl) qual none .none (some env) builtinsNs) {s with heap:=h'}):
  wpAny M A (newFunctionEnv aX globals cl [] qual none .none (some env)) Q E s:=by
 simp only[newFunctionEnv,W8,if_true];refine aQ (NW ?_);refine aQ (wpAny_layCells _ (λname kind cells=>by cases ag4:kind==FG<;>simp[ag4]) _ _ _ _ ?_)
 rw[aH,aB];have z:(s.heap.push {cls:=.type "dict",data:=.dict #[]}).objs.size=s.heap.objs.size+1:=ms ..;refine aQ (bC (bC ?_));have e:=eC ((s.heap.push {cls:=.type "dict",data:=.dict #[]}).push {cls:=.type "cell",data:=.cell none}) ((Heap.Ns.new s.heap (.type "dict")).keeps λb o e=>cV _ e) ⟨_,by rw[<- z];exact eT _ rfl,rfl⟩ (λb o e=>cV _ (cV _ e))
 rw[<- z]at e;exact e
end
section
variable{X:bp}{aa:List (O×b_)}{σ:St}{H:ak}{s s':aM}{aX:gh}{cl:List (Str×O)}{kk:Str}{own caps:List Str}{cap:List Nat}{fp:List O}
def uh{C:O}(h:((kk,C+1)::cl).lookup x=some c):(x=kk/\c=C+1)∨(x≠kk/\cl.lookup x=some c):=by
 rw[k0]at h;cases e:x==kk with
 | true=>rw[e]at h;exact .inl ⟨by simpa using e,(hW h).symm⟩
 | false=>rw[e]at h;exact .inr ⟨by simpa using e,h⟩
def abd(S:Gp X aX cl kk own caps cap)(I:Inv X aa σ H s)(aH:∀b∈fp,hJ X aa H b/\b < s.heap.objs.size){h':cg}{tk:Nat}
  (ba:h'.Ns s.heap.objs.size λ_=>none)(aL:h'.IsCell (s.heap.objs.size+1) none)(k:∀b o,s.heap.get? b=some o->h'.get? b=some o):
  Inv (y7 X (own++caps) aX cl kk s.heap.objs.size s H fp (X.cv++aa)) [] (g1 (own.map λ_=>none) cap σ) H {s with heap:=h',toks:=tk}:=by
 have fresh:H s.heap.objs.size=none:=I.a'.fresh (c9 _);have old:∀x c,cl.lookup x=some c->c < s.heap.objs.size:=λx c e=>by
  obtain⟨v,q⟩:=I.cell x c (S.sub x c e);exact q.lt
 refine⟨⟨I.ok.mod,S.kind,I.ok.glob,I.ok.blt,c9 _,λx y c ag aF=>?_,λx ah=>?_,λx c z e=>?_,I.ok.hd,I.ok.frames,.inl rfl,λb ab=>?_,I.bs,
   gX I.ok.kI I.lO,λb o e ab=>?_,λb ab z=>?_,I.stack,I.w4⟩,
  rfl,I.bare,eV.kept k,⟨_,ba,λi x v ag aF cU=>?_⟩,λx c e=>?_,fresh,λx c e=>?_,λp aB=>?_,I.a'.kept k,?_⟩
 ·rcases uh ag with⟨dK,dy⟩ | ⟨dK,dy⟩<;>rcases uh aF with⟨dI,em⟩ | ⟨dI,em⟩
  ·rw[dK,dI]
  ·exact absurd (old y c em) (by rw[dy];exact xF.mpr (oj _))
  ·exact absurd (old x c dy) (by rw[em];exact xF.mpr (oj _))
  ·exact I.ok.inj x y c (S.sub x c dy) (S.sub y c em)
 ·show ∃c,((kk,s.heap.objs.size+1)::cl).lookup x=some c;by_cases e:x=kk
  ·exact⟨_,by rw[e,k0,beq_self_eq_true]⟩
  ·rcases amd ah with q | q
   ·obtain⟨c,aL⟩:=S.has _ q rfl;exact⟨c,by rw[k0,show(x==kk)=false from by simpa using e];exact aL⟩
   ·exact absurd (S.one _ q rfl) e
 ·rcases uh e with⟨dK,dy⟩ | ⟨dK,dy⟩
  ·rw[dy];exact oj _
  ·exact absurd (of_decide_eq_true (show decide (x=kk)=true from z)) dK
 ·obtain⟨⟨_,_,_,_,h4,_⟩,lt⟩:=aH b ab;refine⟨d3 lt,λx c e=>?_⟩;rcases uh e with⟨dK,dy⟩ | ⟨dK,dy⟩
  ·rw[dy];exact ph (rF lt)
  ·exact h4 x c (S.sub x c dy)
 ·obtain⟨⟨_,_,_,aN,_,_⟩,_⟩:=aH b ab;rcases aN with z | z
  ·exact I.ok.sE b o e z
  ·exact absurd (i1 (dm e) (gX I.ok.kI z)) (rE _)
 ·obtain⟨⟨_,h1,h2,_,_,_⟩,_⟩:=aH b ab;rcases dR.mp (I.uL b z)with q | q
  ·exact h1 q
  ·exact h2 q
 ·
  have au:own.length<=i:=by
   by_cases au:i < own.length
   ·exfalso;unfold g1 at aF;rw[mw (by simpa using au),ft]at aF
    cases q:own[i]? with
    | none=>rw[q]at aF;cases aF
    | some z=>rw[q]at aF;cases aF
   ·omega
  have vS:caps[i - own.length]? =some x:=by
   have ag:(own++caps)[i]? =some x:=ag;rw[mx au]at ag;exact ag
  have aoy:x≠kk:=λz=>S.apart (by rw[<- z];exact oh vS)
  obtain⟨j,jq,vT,nN,cC,c,l1⟩:=S.cap.get vS;have tI:σ[j]? =some (some v):=by
   unfold g1 at aF;rw[mx (by simpa using au),dV,ft,jq]at aF
   have aF:(σ[j]?).getD none=some v:=by simpa using aF
   cases q:σ[j]? with
   | none=>rw[q]at aF;cases aF
   | some z=>rw[q]at aF;exact congrArg some aF
  obtain⟨m,_,ar⟩:=I.loc;obtain⟨u,r,l⟩:=ar j x v vT tI (.inr (.inl nN));refine⟨u,r,?_⟩;rcases l with⟨aw,_⟩ | ⟨_,c',zm,o,aZ,hd⟩
  ·have aw:X.env.scope.names.lookup x=some .local:=aw;rw[nN]at aw;cases aw
  ·have:=S.sub x c l1;rw[zm]at this;cases this;refine .inr ⟨cC,c,?_,o,k _ _ aZ,hd⟩;show((kk,s.heap.objs.size+1)::cl).lookup x=some c;rw[k0,show(x==kk)=false from by simpa using aoy]
   exact l1
 ·rcases uh e with⟨dK,dy⟩ | ⟨dK,dy⟩
  ·rw[dy];exact⟨none,aL⟩
  ·obtain⟨v,o,aZ,hd⟩:=I.cell x c (S.sub x c dy);exact⟨v,o,k _ _ aZ,hd⟩
 ·rcases uh e with⟨dK,dy⟩ | ⟨dK,dy⟩
  ·rw[dy];exact I.a'.fresh (oj _)
  ·exact I.iR x c (S.sub x c dy)
 ·have aB:p∈(X.cv++aa)++[]:=aB;rw[mu]at aB;obtain⟨e,n,ne,eg,d⟩:=I.pin p aB;refine⟨k _ _ e,n,d3 (dm e),λz=>?_,d⟩;rcases dR.mp (I.uL p.1 z)with q | q
  ·exact ne q
  ·exact eg q
 ·show(g1 (own.map λ_=>none) cap σ).length=(own++caps).length;unfold g1;simp[S.cap.len]
def abe{C:O}(I:Inv X aa σ H s)(aH:∀b∈fp,hJ X aa H b)(qO:s.heap.get? C=none)
  (bP:Inv (y7 X N aX cl kk C s H fp cv) lI σ' H' s')(dU:i0 C s'.heap h'):Inv X aa σ H' {s' with heap:=h'}:=by
 have u:eV (jO X.stack) fp H H' s.heap h':=eV.but (show eV (jO X.stack) fp H H' s.heap s'.heap from bP.base) dU qO
 refine I.r2 (s':={s' with heap:=h'}) (ch:=fp) bP.os u (bP.a'.but bP.free dU) bP.bare λb ab=>?_
 obtain⟨_,h1,_,aN,h4,cE⟩:=aH b ab;exact⟨aN,h1,h4,cE⟩
end
section
end
end bu
namespace bu
open PySem PyProof.Rows PySem.Spec
section
variable{X:bp}
def wV(us vs:List aj)(j:Nat):Bool:=match us[j]?,vs[j]? with
 | some (.str a _),some (.str b _)=>a==b
 | _,_=>false
def VA:∀{as bs:List Str}{us vs:List aj},j3 us as->j3 vs bs->us.length=vs.length->(List.range us.length).all (wV us vs)=decide (as=bs)
 | _,_,_,_,.nil,.nil,_=>rfl
 | _,_,_,_,.nil,.cons _ _ _,e=>by simp at e
 | _,_,_,_,.cons _ _ _,.nil,e=>by simp at e
 | _,_,_,_,.cons a t h,.cons b u g,e=>by
  have b3:=VA h g (by simpa using e)
  rw[hH,Nk,xu,xv];have aF:∀us vs:List aj,(wV (Value.str a t::us) (Value.str b u::vs))∘Nat.succ=wV us vs:=λ_ _=>rfl;rw[aF,b3];show((a==b) && _)=_;rw[pe];simp
def ak3(aD:X.A.units < cLine):f6 X (compareOp .NotEq) (λx y H Q=>∃(p q:O)(as bs:List Str),x= .ref p/\y= .ref q/\H p=some (.lst (as.map V.str))/\H q=some (.lst (bs.map V.str))/\Q (.aG (!decide (as=bs))) H):=by
 intro aa s σ H x y v u Q I bt br h;obtain⟨p,q,as,bs,rfl,rfl,h1,h2,k⟩:=h;cases bt;cases br;obtain⟨us,b4,bc,_⟩:=I.list (cS.of h1);obtain⟨vs,da,cL,_⟩:=I.list (cS.of h2);have s1:=AM b4;have s2:=AM da;by_cases ar:us.length=vs.length
 ·refine SeqAt.RcNeAt.lists (e:=wV us vs) bc.isList cL.isList (by simpa using ar) aD (λj dK dy=>?_) _ _ _ _ ?_
  ·have dK:j < us.length:=by simpa using dK
   have dy:j < vs.length:=by simpa using dy
   have dI:j < as.length:=by rw[<- s1.length];exact dK
   have em:j < bs.length:=by rw[<- s2.length];exact dy
   obtain⟨t,cj⟩:=s1.get j as[j] (jC dI);obtain⟨t',R2⟩:=s2.get j bs[j] (jC em);have ag:us[j]= .str as[j] t:=by have:=jC dK;rw[cj]at this;exact(hW this).symm
   have aF:vs[j]= .str bs[j] t':=by have:=jC dy;rw[R2]at this;exact(hW this).symm
   have cU:wV us vs j=(as[j]==bs[j]):=by unfold wV;rw[cj,R2]
   rw[cU];show Bk _ _ us[j] vs[j] _;rw[ag,aF];exact MeetsSeq.EqGives.at (F3 as[j] bs[j] t t') _ _
  ·have e:=VA s1 s2 ar;refine⟨.aG _,H,I,?_,k⟩;show Value.bool _=Value.bool _;rw[<- e];simp
 ·refine apH bc.isList cL.isList (by simpa using ar) aD _ _ _ _ ?_
  have e:decide (as=bs)=false:=decide_eq_false λz=>ar (by rw[s1.length,s2.length,z])
  refine⟨.aG _,H,I,?_,k⟩;show Value.bool _=Value.bool _;rw[e];rfl
def ak2(aD:X.A.units+1 < cLine):f6 X (compareOp .NotEq) (λx y H Q=>∃(p q p' q':O)(a b c:Str),x= .ref p/\y= .ref q/\H p=some (.tup [.str a,.ref p'])/\H q=some (.tup [.str a,.ref q'])/\H p'=some (.tup [.str b,.str c])/\H q'=some (.tup [.str b,.str c])/\Q (.aG false) H):=by
 intro aa s σ H x y v u Q I bt br h;obtain⟨p,q,p',q',a,b,c,rfl,rfl,h1,h2,aN,h4,k⟩:=h;cases bt;cases br;obtain⟨_,ju,b4,ic⟩:=I.a' p _ h1;obtain⟨_,i2,da,mY⟩:=I.a' q _ h2;obtain⟨qa,Fd,rfl,⟨fm,rfl⟩,ag⟩:=b4.two;obtain⟨MG,ru,rfl,⟨dw,rfl⟩,aF⟩:=da.two;obtain rfl:Fd=Value.ref p':=ag;obtain rfl:ru=Value.ref q':=aF;obtain⟨x1,x2,ahK⟩:=Ek I aN;obtain⟨x3,x4,ahL⟩:=Ek I h4;refine Xt (e:=λ_=>true) ic mY (Nm aD) (λj dK dy=>?_) _ _ _ _ ⟨.aG _,H,I,rfl,k⟩;match j,dK,dy with
 | 0,_,_=>
  have:=MeetsSeq.EqGives.at (F3 a a fm dw) X.A.in1 s;rw[show(a==a)=true from by simp]at this
  exact this
 | 1,_,_=>
  show Bk _ _ (Value.ref p') (Value.ref q') true;by_cases e:p'=q'
  ·subst e;exact Xr _
  ·refine apC e ?_;have:=apG ahK ahL (A:=X.A.in1) aD (TX b c b c x1 x2 x3 x4);have z:=TV b c b c;rw[show((List.range (min (#[Value.str b x1,Value.str c x2]:Array aj).size (#[Value.str b x3,Value.str c x4]:Array aj).size)).all (An b c b c) && (#[Value.str b x1,Value.str c x2]:Array aj).size==(#[Value.str b x3,Value.str c x4]:Array aj).size)=true from by
    show((List.range (min 2 2)).all (An b c b c) && (2==2))=true;rw[z];simp]at this
   exact this
end
section
end
def ahP(x:Str)(ys:List Str):wh (.str x) (ys.map V.str)=decide (x∈ys):=by
 unfold wh;rw[Wu];induction ys with
 | nil=>rfl
 | cons y ys b3=>
  rw[s8,b3];show((pI (.str y) (.str x)) || decide (x∈ys))=_;have e:pI (.str y) (.str x)=decide (x=y):=by
   show(y==x)=_;by_cases h:x=y
   ·subst h;simp
   ·rw[decide_eq_false h];exact beq_eq_false_iff_ne.mpr λz=>h z.symm
  rw[e,pe];simp
def aeX(ys:List Str):(ys.map V.str).all mP=true:=by
 rw[xv,pg];intro x _;rfl
end bu
namespace Tab
open PySem PyProof.Rows PySem.Spec
def d5(a b:Str):Bool:=decide (a.cps.toList < b.cps.toList)
def SV(a:Str):d5 a a=false:=decide_eq_false (List.lt_irrefl _)
def SW(h1:d5 a b=true)(h2:d5 b c=true):d5 a c=true:=decide_eq_true (List.lt_trans (of_decide_eq_true h1) (of_decide_eq_true h2))
def DS(h1:d5 a b=false)(h2:d5 b a=false):a=b:=by
 have e:a.cps.toList=b.cps.toList:=List.le_antisymm (WW.mp (of_decide_eq_false h2)) (WW.mp (of_decide_eq_false h1));obtain⟨⟨x⟩⟩:=a;obtain⟨⟨y⟩⟩:=b;exact congrArg (λl=>Str.mk (Array.mk l)) e
def SU(h:d5 a b=true):d5 b a=false:=by
 cases e:d5 b a with
 | false=>rfl
 | true=>have:=SW h e;rw[SV]at this;cases this
def Cs(l:List Str):Prop:=l.Pairwise λa b=>d5 a b=true
def both(ns:List Str)(ai:Str->List Str)(a b:Str):List Str:=ns.filter λk=>decide (a∈ai k) && decide (b∈ai k)
def low(ns:List Str)(ai:Str->List Str)(a b:Str):Option Str:=((both ns ai a b).filter λk=>(both ns ai a b).all λf=>decide (k∈ai f)).head?
structure Good(ns:List Str)(ai:Str->List Str):Prop where
 a4:ns.Nodup
 self:∀k∈ns,k∈ai k
 sub:∀k∈ns,∀j∈ai k,j∈ns
 sd:∀k∈ns,(ai k).Nodup
 hb:∀k∈ns,∀j∈ai k,∀i∈ai j,i∈ai k
 Hc:∀k∈ns,∀j∈ai k,k∈ai j->j=k
 Rw:∀a∈ns,∀b∈ns,∀k∈ns,a∈ai k->b∈ai k->∃g∈ns,a∈ai g/\b∈ai g/\∀j∈ns,a∈ai j->b∈ai j->g∈ai j
def qY{a b k:Str}:k∈both ns ai a b↔k∈ns/\a∈ai k/\b∈ai k:=by
 unfold both;rw[uZ,jB,decide_eq_true_iff,decide_eq_true_iff]
section
variable{ns:List Str}{ai:Str->List Str}{a b:Str}
def J6(h:low ns ai a b=some g):g∈ns/\a∈ai g/\b∈ai g/\∀j∈ns,a∈ai j->b∈ai j->g∈ai j:=by
 have m:g∈(both ns ai a b).filter λk=>(both ns ai a b).all λf=>decide (k∈ai f):=by
  unfold low at h;generalize (both ns ai a b).filter _=l at h;cases l with
  | nil=>cases h
  | cons x l=>cases h;exact rD
 obtain⟨g8,hB⟩:=uZ.mp m;obtain⟨h1,h2,aN⟩:=qY.mp g8;exact⟨h1,h2,aN,λj a2 ah4 qT=>of_decide_eq_true (pg.mp hB j (qY.mpr ⟨a2,ah4,qT⟩))⟩
def Good.J5(b7:Good ns ai){g:Str}(h1:g∈ns)(h2:a∈ai g)(aN:b∈ai g)(h4:∀j∈ns,a∈ai j->b∈ai j->g∈ai j):low ns ai a b=some g:=by
 have m:g∈(both ns ai a b).filter λk=>(both ns ai a b).all λf=>decide (k∈ai f):=
  uZ.mpr ⟨qY.mpr ⟨h1,h2,aN⟩,pg.mpr λj a2=>by
   obtain⟨nU,lC,ah3⟩:=qY.mp a2;exact decide_eq_true (h4 j nU lC ah3)⟩
 cases e:low ns ai a b with
 | none=>
  unfold low at e;rw[List.head?_eq_none_iff]at e;rw[e]at m;cases m
 | some x=>
  obtain⟨x1,x2,x3,x4⟩:=J6 e;rw[b7.Hc g h1 x (x4 g h1 h2 aN) (h4 x x1 x2 x3)]
def Good.aiO(b7:Good ns ai)(af:a∈ns)(ab:b∈ns)(h:low ns ai a b=none):∀k∈ns,a∈ai k->b∈ai k->False:=λk aw h1 h2=>by
 obtain⟨g,cY,dC,eX,gR⟩:=b7.Rw a af b ab k aw h1 h2;rw[b7.J5 cY dC eX gR]at h;cases h
def aiN(h:∀k∈ns,a∈ai k->b∈ai k->False):low ns ai a b=none:=by
 cases e:low ns ai a b with
 | none=>rfl
 | some g=>
  obtain⟨cY,dC,eX,_⟩:=J6 e;exact(h g cY dC eX).elim
def SR:low ns ai a b=low ns ai b a:=by
 have e:both ns ai a b=both ns ai b a:=by
  unfold both
  congr 1
  funext k;exact Bool.and_comm _ _
 unfold low;rw[e]
def Good.J4(b7:Good ns ai)(af:a∈ns)(h:b∈ai a):low ns ai a b=some a:=b7.J5 af (b7.self a af) h λ_ _ nU _=>nU
def Good.aiM(b7:Good ns ai)(af:a∈ns)(ab:b∈ns){r:Str}(aA:r∈both ns ai a b)(bx:∀k∈both ns ai a b,(ai r).length<=(ai k).length):low ns ai a b=some r:=by
 obtain⟨b4,da,kY⟩:=qY.mp aA;obtain⟨g,cY,dC,eX,gR⟩:=b7.Rw a af b ab r b4 da kY;have Dk:=gR r b4 da kY;have le:=bx g (qY.mpr ⟨cY,dC,eX⟩);have sub:∀x∈ai g,x∈ai r:=λx ah=>b7.hb r b4 g Dk x ah;have e:r∈ai g:=by
  by_cases h:r∈ai g
  ·exact h
  ·exfalso;have:(r::ai g).length<=(ai r).length:=bu.Ai (nr.mpr ⟨h,b7.sd g cY⟩) λy b2=>by
    rcases dR.mp b2 with rfl | b2
    ·exact b7.self _ b4
    ·exact sub y b2
   rw[hH]at this;omega
 have:=b7.Hc r b4 g Dk e;subst this;exact b7.J5 cY dC eX gR
end
def more(acc l:List Str):List Str:=acc++l.filter λx=>!decide (x∈acc)
def dd(ai:Str->List Str)(ups:List Str):List Str:=ups.foldl (λacc u=>more acc (ai u)) []
def ai0{x:Str}:x∈more acc l↔x∈acc∨x∈l:=by
 unfold more;rw[nn,uZ];by_cases h:x∈acc
 ·simp[h]
 ·simp[h]
def ai7{acc l:List Str}(h1:acc.Nodup)(h2:l.Nodup):(more acc l).Nodup:=by
 unfold more;rw[FF];refine⟨h1,h2.filter _,λa af b ab z=>?_⟩;subst z;have:=(uZ.mp ab).2;simp[af]at this
def S3{ai:Str->List Str}:∀{ups acc:List Str}{x:Str},x∈ups.foldl (λacc u=>more acc (ai u)) acc↔x∈acc∨∃u∈ups,x∈ai u
 | [],acc,x=>by simp
 | u::ups,acc,x=>by
  rw[Fy,S3,ai0,or_assoc];simp
def um{ups:List Str}{x:Str}:x∈dd ai ups↔∃u∈ups,x∈ai u:=by
 unfold dd;rw[S3];simp
def Q6{ai:Str->List Str}:∀{ups acc:List Str},acc.Nodup->(∀u∈ups,(ai u).Nodup)->(ups.foldl (λacc u=>more acc (ai u)) acc).Nodup
 | [],acc,h,_=>h
 | u::ups,acc,h,aD=>by
  rw[Fy];exact Q6 (ai7 h (aD u (by simp))) λv bm=>aD v (by simp[bm])
def Iy{ai:Str->List Str}{ups:List Str}(aD:∀u∈ups,(ai u).Nodup):(dd ai ups).Nodup:=Q6 WV aD
def se(S:List Str)(bad:Str->Str->Bool):Option (Str×Str):=S.findSome? λa=>(S.find? λb=>d5 a b && bad a b).map λb=>(a,b)
def jr(bad:Str->Str->Bool):List Str->Option (Str×Str)
 | []=>none
 | a::r=>match r.find? (bad a)with
  | some b=>some (a,b)
  | none=>jr bad r
def aeT{p:Str->Bool}:∀{l:List Str},(∀x∈l,p x=false)->l.find? p=none:=λh=>WG.mpr λx ah=>by rw[h x ah];exact hG
def Q_{bad:Str->Str->Bool}:∀(hs pre:List Str),Cs (pre++hs)->hs.findSome? (λa=>((pre++hs).find? λb=>d5 a b && bad a b).map λb=>(a,b))=jr bad hs
 | [],pre,_=>rfl
 | a::r,pre,h=>by
  have e:((pre++a::r).find? λb=>d5 a b && bad a b)=r.find? (bad a):=by
   have h1:(pre.find? λb=>d5 a b && bad a b)=none:=aeT λx ah=>by
    have:=(WX.mp h).2.2 x ah a rD;rw[SU this,A6]
   rw[List.find?_append,h1,Option.none_or,mv,SV,A6];have h2:=(Bd.mp (WX.mp h).2.1).1;clear h h1;show(r.find? λb=>d5 a b && bad a b)=r.find? (bad a);induction r with
   | nil=>rfl
   | cons b r b3=>
    rw[mv,mv,h2 b rD,M1,b3 λc aL=>h2 c (nq _ aL)]
  have b3:=Q_ r (pre++[a]) (by rw[Fw];exact h) (bad:=bad)
  rw[Fw]at b3;have b3:r.findSome? (λiu=>((pre++a::r).find? λb=>d5 iu b && bad iu b).map λb=>(iu,b))=jr bad r:=b3;rw[Fx,e,b3];show _=(match r.find? (bad a)with | some b=>some (a,b) | none=>jr bad r)
  cases r.find? (bad a)<;>rfl
def ae7(h:Cs S):se S bad=jr bad S:=Q_ S [] h
def ae6{S:List Str}(h:se S bad=none):∀a∈S,∀b∈S,d5 a b=true->bad a b=false:=λa af b ab ar=>by
 have:=List.findSome?_eq_none_iff.mp h a af;rw[Nn]at this;have:=WG.mp this b ab;cases e:bad a b with
 | false=>rfl
 | true=>exact absurd (by rw[ar,e];rfl) this
def h5(ns:List Str)(ai:Str->List Str)(F:List Str)(a b:Str):Bool:=match low ns ai a b with
 | some g=>!decide (g∈F)
 | none=>false
def ajt{F S:List Str}(b7:Good ns ai)(cZ:∀x∈F,x∈ns)(dE:∀x,x∈S↔x∈F)(h:se S (h5 ns ai F)=none):∀a∈F,∀b∈F,∀g,low ns ai a b=some g->g∈F:=λa af b ab g bl=>by
 have key:∀a∈F,∀b∈F,d5 a b=true->∀g,low ns ai a b=some g->g∈F:=λa af b ab ar g bl=>by
  have:=ae6 h a ((dE a).mpr af) b ((dE b).mpr ab) ar;unfold h5 at this;rw[bl]at this;simpa using this
 cases ag:d5 a b with
 | true=>exact key a af b ab ag g bl
 | false=>
  cases aF:d5 b a with
  | true=>exact key b ab a af aF g (by rw[SR];exact bl)
  | false=>
   have e:=DS ag aF;subst e;rw[b7.J4 (cZ a af) (b7.self a (cZ a af))]at bl;cases bl;exact af
def put(ai:Str->List Str)(nm:Str)(F:List Str):Str->List Str:=λx=>if x=nm then F++[nm]else ai x
def kX{nm:Str}{x:Str}(h:x≠nm):put ai nm F x=ai x:=if_neg h
def KV:put ai nm F nm=F++[nm]:=if_pos rfl
def Good.put{ai:Str->List Str}{ups:List Str}{nm:Str}(b7:Good ns ai)(aD:∀u∈ups,u∈ns)(ba:nm∉ns)
  (eg:∀a∈dd ai ups,∀b∈dd ai ups,∀g,low ns ai a b=some g->g∈dd ai ups):Good (ns++[nm]) (Tab.put ai nm (dd ai ups)):=by
 have cZ:∀x∈dd ai ups,x∈ns:=λx ah=>by
  obtain⟨u,h1,h2⟩:=um.mp ah;exact b7.sub u (aD u h1) x h2
 have ne:∀{x},x∈ns->x≠nm:=λh z=>ba (by rw[<- z];exact h)
 have rs:∀j∈dd ai ups,∀i∈ai j,i∈dd ai ups:=λj a2 i au=>by
  obtain⟨u,h1,h2⟩:=um.mp a2;exact um.mpr ⟨u,h1,b7.hb u (aD u h1) j h2 i au⟩
 have mem:∀{k},k∈ns++[nm]->k∈ns∨k=nm:=λh=>(nn.mp h).imp id gK.mp;have mZ:∀{j},j∈Tab.put ai nm (dd ai ups) nm↔j∈dd ai ups∨j=nm:=λ{j}=>by
  rw[KV,nn,gK]
 have c6:∀{k},k∈ns++[nm]->nm∈Tab.put ai nm (dd ai ups) k->k=nm:=λ{k} aw h=>by
  rcases mem aw with z | z
  ·rw[kX (ne z)]at h;exact absurd (b7.sub k z nm h) ba
  ·exact z
 refine⟨?_,λk aw=>?_,λk aw j a2=>?_,λk aw=>?_,λk aw j a2 i au=>?_,λk aw j a2 h=>?_,λa af b ab k aw h1 h2=>?_⟩
 ·rw[FF];exact⟨b7.a4,by simp,λa af b ab z=>ba (by rw[gK.mp ab]at z;rw[<- z];exact af)⟩
 ·rcases mem aw with z | z
  ·rw[kX (ne z)];exact b7.self k z
  ·subst z;exact mZ.mpr (.inr rfl)
 ·rcases mem aw with z | z
  ·rw[kX (ne z)]at a2;exact xy _ (b7.sub k z j a2)
  ·subst z;rcases mZ.mp a2 with q | q
   ·exact xy _ (cZ j q)
   ·rw[q];exact il _ (by simp)
 ·rcases mem aw with z | z
  ·rw[kX (ne z)];exact b7.sd k z
  ·subst z;rw[KV,FF];exact⟨Iy λu h=>b7.sd u (aD u h),by simp,λa af b ab z=>ba (by rw[gK.mp ab]at z;rw[<- z];exact cZ a af)⟩
 ·rcases mem aw with z | z
  ·rw[kX (ne z)]at a2 ⊢;rw[kX (ne (b7.sub k z j a2))]at au;exact b7.hb k z j a2 i au
  ·subst z;rcases mZ.mp a2 with q | q
   ·rw[kX (ne (cZ j q))]at au;exact mZ.mpr (.inl (rs j q i au))
   ·rw[q]at au;exact au
 ·rcases mem aw with z | z
  ·rw[kX (ne z)]at a2;rw[kX (ne (b7.sub k z j a2))]at h;exact b7.Hc k z j a2 h
  ·subst z;rcases mZ.mp a2 with q | q
   ·rw[kX (ne (cZ j q))]at h;exact absurd (b7.sub j (cZ j q) _ h) ba
   ·exact q
 ·by_cases aR:a=nm
  ·subst aR;have:=c6 aw h1;subst this;exact⟨k,il _ (by simp),mZ.mpr (.inr rfl),h2,λj a2 nU _=>by rw[c6 a2 nU];exact mZ.mpr (.inr rfl)⟩
  ·by_cases cC:b=nm
   ·subst cC;have:=c6 aw h2;subst this;exact⟨k,il _ (by simp),h1,mZ.mpr (.inr rfl),λj a2 _ lC=>by rw[c6 a2 lC];exact mZ.mpr (.inr rfl)⟩
   ·have af:a∈ns:=(mem af).resolve_right aR;have ab:b∈ns:=(mem ab).resolve_right cC;cases e:low ns ai a b with
    | none=>
     have no:=b7.aiO af ab e;have ail:k=nm:=(mem aw).elim (λz=>by rw[kX (ne z)]at h1 h2;exact(no k z h1 h2).elim) id
     subst ail;refine⟨k,il _ (by simp),h1,h2,λj a2 nU lC=>?_⟩
     rcases mem a2 with z | z
     ·rw[kX (ne z)]at nU lC;exact(no j z nU lC).elim
     ·subst z;exact mZ.mpr (.inr rfl)
    | some g=>
     obtain⟨cY,dC,eX,gR⟩:=J6 e;refine⟨g,xy _ cY,by rw[kX (ne cY)];exact dC,by rw[kX (ne cY)];exact eX,λj a2 nU lC=>?_⟩
     rcases mem a2 with z | z
     ·rw[kX (ne z)]at nU lC ⊢;exact gR j z nU lC
     ·subst z;have dK:=(mZ.mp nU).resolve_right aR;have dI:=(mZ.mp lC).resolve_right cC;exact mZ.mpr (.inl (eg a dK b dI g e))
end Tab
namespace bu
open PySem PySem.Spec PyProof.Rows
def Inv.letGo{H:ak}(I:Inv X aa σ H s)(f:hJ X aa H C)(dU:i0 C s.heap h'):Inv X aa σ H {s with heap:=h'}:=by
 obtain⟨iv,f1,fF,dc,hh,hx⟩:=f;refine I.r2 (s':={s with heap:=h'}) (ch:=[C]) rfl ?_ (I.a'.but iv dU) I.bare λb ab=>?_
 ·refine⟨λb o e _ _ ah=>(dU.2 b (by simpa using ah)).trans e,λb o e _ _ ah=>⟨o.slots,(dU.2 b (by simpa using ah)).trans e⟩,λb o _ n _=>n,λb o e ah=>⟨o,(dU.2 b (by simpa using ah)).trans e⟩,λ_ _ e=>e,λ_ _ _ e=>e,λb ps e=>⟨#[],by simpa using e⟩⟩
 ·have:b=C:=by simpa using ab
  subst this;exact⟨dc,f1,hh,hx⟩
def Mm{H3 H5:ak}{Y:Ends}{i:Nat}{m:Str->Option aj}(b9:Inv X aa σ H3 s3)(qO:H5 s3.heap.objs.size=none)(k4:Inv X aa σ H5 jY)(ba:jY.heap.Ns s3.heap.objs.size m)
  (e9:X.N.Nodup)(t3:X.N[i]? =some y)(b2:X.env.scope.names.lookup y=some .local)(q:lr i (.ref D) σ H5 Y.nx):
  wpAny (model X.prog X.w) X.A (assign (.Name y eM) X.env (.ref D)) (λ_ s''=>∃m,s''.heap.Ns s3.heap.objs.size m/\∀h',i0 s3.heap.objs.size s''.heap h'->iK X aa Y .next {s'' with heap:=h'}) X.cb jY:=by
 have tM:=b9.qJ (b:=s3.heap.objs.size) (H':=H5) (c9 _) qO;refine X1 (Va k4 e9 t3 (.inl b2) (v:=.ref D) rfl (λkn GF ah6=>?_) (.inr b2));obtain⟨a,hS,af⟩:=ah6;have na:s3.heap.objs.size≠a:=by
  rcases af with af | af
  ·rw[af];exact tM.2.1
  ·exact λz=>tM.2.2.2.2.1 _ _ af z.symm
 exact⟨m,ba.sameBut hS na,λh' dU=>⟨σ.set i (some (.ref D)),H5,GF.letGo tM dU,q⟩⟩
def G3(X:bp)(y6:List ck)(t:TT):Prop:=∀(aa:List (O×b_))(s:aM)(σ:St)(H:ak)(Q:Bool->ak->Prop),Inv X aa σ H s->t σ H Q->
 wpAny (model X.prog X.w) X.A (forIn y6 true λc r=>if r=true then do let ok <- isTrue c X.env (eval c X.env);pure (Wm ok)else pure (Wm r)) (Ct X aa σ Q) X.cb s
def Vw:TT:=λ_ H Q=>Q true H
def Ue:G3 X [] Vw:=λaa s σ H Q I h=>by
 simp only[List.forIn_nil];exact bC ⟨H,I,h⟩
def KO(h:j_ X c t):G3 X [c] t:=λaa s σ H Q I k=>wpAny_tests_one (h aa s σ H Q I k)
abbrev nK(X:bp)(N:List Str)(aX:gh)(cl:O->List (Str×O))(fn:Str->Bool)(C:O)(s:aM)(H:ak)(fp:List O)(cv:List (O×b_)):bp:={lY X N aX (cl C) C s H fp cv with fn:=fn}
section
variable{X:bp}{aX:gh}{cl:List (Str×O)}{own caps:List Str}{cap:List Nat}{kh dH gw:ck}{pos:d1}{ez:TI}{g:gM}{te:TE}
def y5{Q:c3}{s:aM}{H:ak}
  (aL:X.calm=true)(au:mE X dH gw ez)(nJ:closureFor aX X.env=pure cl)(kind:aX.kind= .function)(names:∀y∈aX.names,y.2= .local->aX.names.lookup y.1=some .local)
  (bl:∀C s H fp cv,nD (nK X (own++caps) aX i4 fn C s H fp cv) dH g)(aw:tl own.length g)(he:∀C s H fp cv,bz (nK X (own++caps) aX i4 fn C s H fp cv) kh te)(cj:∀C s H fp cv,G3 (nK X (own++caps) aX i4 fn C s H fp cv) y6 f2)
  (aS:∀x,foldedSetIterable gw X.env x=pure x)(sub:∀C x c,(i4 C).lookup x=some c->c=C+1∨X.env.cells.lookup x=some c)
  (enter:∀{s3:aM}{H3:ak}{fp:List O}{R:fL->aM->Prop},Inv X aa σ H3 s3->(∀b∈fp,hJ X aa H3 b/\b < s3.heap.objs.size)->
   (∀h4 tk,(∀b o,s3.heap.get? b=some o->h4.get? b=some o)->Inv (nK X (own++caps) aX i4 fn s3.heap.objs.size s3 H3 fp (X.cv++aa)) [] (g1 (own.map λ_=>none) cap σ) H3 {s3 with heap:=h4,toks:=tk}->
    R (newEnv aX s3.heap.objs.size X.env.globals (i4 s3.heap.objs.size) X.env.qual none .none (some X.env) builtinsNs) {s3 with heap:=h4,toks:=tk})->wpAny (model X.prog X.w) X.A (newFunctionEnv aX X.env.globals cl [] X.env.qual none .none (some X.env)) R X.cb s3)
  (dq:∀{s3 jY:aM}{H3 H5:ak}{fp:List O}{D:O}{m:Str->Option aj},Inv X aa σ H3 s3->(∀b∈fp,hJ X aa H3 b)->Inv (nK X (own++caps) aX i4 fn s3.heap.objs.size s3 H3 fp (X.cv++aa)) [] (g1 (own.map λ_=>none) cap σ) H5 jY->jY.heap.Ns s3.heap.objs.size m->Q (.ref D) H5->
   compPost (model X.prog X.w) X.A X.cb use yv (.ref D) s3.heap.objs.size (.ok .next) jY)
  (I:Inv X aa σ H s)(h:ez σ H Z8)(kK:∀bP H1,Z8 bP H1->∀D,H1 D=none->vd bP g f2 te (g1 (own.map λ_=>none) cap σ) D H1 Q):wpAny (model X.prog X.w) X.A (comprehension (.ListComp kh [⟨dH,gw,y6,0⟩] aX pos) aX X.env jU (newList []) false (eval gw X.env) use) yv X.cb s:=by
 refine wpAny_comprehension_free rfl aS nJ kind names (bJ (au aa s σ H _ I h) λv s1 h1=>bJ h1 λJH s2 h2=>?_);obtain⟨it,fp,gf,bP,H2,e,bU,T,w0,fF,agm⟩:=h2;subst e;obtain⟨W,⟨z7,o8⟩,turn⟩:=kK _ _ agm s2.heap.objs.size bU.fresh;refine u7 ?_;have b9:Inv X aa σ (a1 H2 s2.heap.objs.size (.lst [])) {s2 with heap:=s2.heap.push {cls:=.type "list",data:=.seq ([]:List aj).toArray}}:=bU.SN (its:=[]) (t':=s2.toks) .nil (j2 _)
 have dc:∀b∈fp,hJ X aa (a1 H2 s2.heap.objs.size (.lst [])) b/\b < (s2.heap.push {cls:=.type "list",data:=.seq ([]:List aj).toArray}).objs.size:=λb ab=>by
  obtain⟨o,aZ,_⟩:=T.obj 0 _ w0 b ab;have lt:=dm aZ;refine⟨⟨?_,(fF b ab).2⟩,?_⟩
  ·rw[bj (d3 lt)];exact(fF b ab).1
  ·rw[ms];exact rF lt
 have AL:gf 0 (s2.heap.push {cls:=.type "list",data:=.seq ([]:List aj).toArray}):=T.keep 0 _ _ w0 λb _ o e=>cV _ e;generalize ahu:({s2 with heap:=s2.heap.push {cls:=.type "list",data:=.seq ([]:List aj).toArray}}:aM)=s3 at b9 ⊢
 have agW:s3.heap=s2.heap.push {cls:=.type "list",data:=.seq ([]:List aj).toArray}:=by rw[<- ahu]
 rw[<- agW]at dc AL;generalize lu:s2.heap.objs.size=D at b9 dc o8 turn ⊢;generalize agf:a1 H2 D (.lst [])=H3 at b9 dc o8;refine enter b9 dc λh4 MD lD iI=>?_;have U':gf 0 h4:=T.keep 0 _ _ AL λb _ o e=>lD b o e;have tM:∀{lI:List (O×b_)}{H':ak},(∀p∈lI,p∈(X.cv++aa))->(∀b∈fp,H' b=none)->∀b∈fp,hJ (nK X (own++caps) aX i4 fn s3.heap.objs.size s3 H3 fp (X.cv++aa)) lI H' b:=λ{lI H'} aB ba b ab=>by
  obtain⟨⟨_,h1,h2,aN,cE,dY⟩,lt⟩:=dc b ab;refine⟨ba b ab,d3 lt,λz=>?_,.inl ab,λx c e=>?_,λp so=>?_⟩
  ·rcases dR.mp (b9.uL b z)with q | q
   ·exact h1 q
   ·exact h2 q
  ·rcases sub _ x c e with q | q
   ·rw[q];exact ph (rF lt)
   ·exact cE x c q
  ·rcases nn.mp so with q | q
   ·exact dY p q
   ·exact dY p (aB p q)
 have SP:codeAny (model X.prog X.w) X.A (.compLoop (.ListComp kh [⟨dH,gw,y6,0⟩] aX pos) 0 (.ref it) (.ref D) (compEnvC aX (i4 s3.heap.objs.size) s3.heap.objs.size X.env))
   (compPost (model X.prog X.w) X.A X.cb use yv (.ref D) s3.heap.objs.size) {s3 with heap:=h4,toks:=MD}:=by
  refine codeAny_loop rfl (λn s'=>∃i ys H',Inv (nK X (own++caps) aX i4 fn s3.heap.objs.size s3 H3 fp (X.cv++aa)) [] (g1 (own.map λ_=>none) cap σ) H' s'/\gf i s'.heap/\(∀b∈fp,H' b=none)/\W i n ys H') ?_ z7
   ⟨0,[],H3,iI,U',λb ab=>(dc b ab).1.1,o8⟩
  rintro n ha ⟨i,ys,H5,tp,w1,De,AY⟩;show wpAny _ _ ((compTurn (.ListComp kh [⟨dH,gw,y6,0⟩] aX pos) 0 (.ref it) (.ref D) (compEnvC aX (i4 s3.heap.objs.size) s3.heap.objs.size X.env)).onRaise (λx=>do noteFrame x (compEnvC aX (i4 s3.heap.objs.size) s3.heap.objs.size X.env);theTreesLotGoes x)) _ _ ha
  refine wpAny_noted ?_;rw[compTurn_list];refine j4 (E:=λ_ _=>False) (aQ (rK (aQ ?_))) (λ_ _ q=>q) λ_ _ z=>z.elim;obtain⟨aqd,G'⟩:=turn i n ys H5 AY;rcases G' with⟨stop,wQ⟩ | ⟨go,eh,N,yr,e9,agi,step⟩
  ·refine bJ (T.done (nK X (own++caps) aX i4 fn s3.heap.objs.size s3 H3 fp (X.cv++aa)) rfl rfl rfl aL i [] ha _ H5 _ tp (tM (by simp) De) w1 stop) λr jY ⟨aA,j7⟩=>?_
   subst aA;refine bC ?_;obtain⟨m,ba,_⟩:=id j7.loc;exact dq b9 (λb ab=>(dc b ab).1) j7 ba wQ
  ·refine bJ (T.item (nK X (own++caps) aX i4 fn s3.heap.objs.size s3 H3 fp (X.cv++aa)) rfl rfl rfl aL i [] ha _ H5 _ tp (tM (by simp) De) w1 go) λr jY ⟨u,aA,dY⟩=>?_
   subst aA;refine aQ (bJ dY λ_ kn ⟨x,hg,k4,rg,aoD,Mh,afc⟩=>?_);have ZN:=k4.pinned (tM (by simp) afc) (T.obj _ _ Mh)
   refine aQ (bJ (bl _ _ _ _ _ _ kn _ hg x u _ ZN rg (aw _ _ _ _ (step x hg aoD))) λ_ Ld ⟨A4,rS,GF,alW,aio,aiC⟩=>?_);refine aQ (bJ (cj _ _ _ _ _ _ Ld A4 rS _ GF alW) λok amx ⟨ZJ,ON,ED⟩=>?_);have back:∀{s':aM}{H':ak}{MR:List V}{e_:Nat},Inv (nK X (own++caps) aX i4 fn s3.heap.objs.size s3 H3 fp (X.cv++aa)) ([]++Ar fp kn.heap) A4 H' s'->e_ < n->W (i+1) e_ MR H'->
     ∃m,m < n/\∃i ys H',Inv (nK X (own++caps) aX i4 fn s3.heap.objs.size s3 H3 fp (X.cv++aa)) [] (g1 (own.map λ_=>none) cap σ) H' s'/\gf i s'.heap/\(∀b∈fp,H' b=none)/\W i m ys H':=λ{s' H' MR e_} yi t4 AZ=>by
    refine⟨e_,t4,i+1,MR,_,?_,T.keep _ _ _ Mh λb ab o e=>(yi.pin (b,o) (il _ (il _ (DX ab e)))).1,λb ab=>?_,AZ⟩
    ·refine(yi.w' (aa:=[])).weak (by rw[aiC]) λj v jq=>?_
     by_cases a2:j < own.length
     ·exfalso;unfold g1 at jq;rw[mw (by simpa using a2),ft]at jq
      cases q:own[j]? with
      | none=>rw[q]at jq;cases jq
      | some z=>rw[q]at jq;cases jq
     ·rw[aio j (by omega)]
      exact jq
    ·obtain⟨o,e,d⟩:=T.obj _ _ Mh b ab;exact(yi.pin (b,o) (il _ (il _ (DX ab e)))).2.1
   cases ok with
   | false=>
    rw[if_neg hG]at ED;obtain⟨e_,t4,AZ⟩:=agi _ ED;exact bC ⟨rfl,back ON t4 AZ⟩
   | true=>
    rw[if_pos rfl]at ED;refine aQ (aQ (bJ (he _ _ _ _ _ _ amx A4 ZJ _ ON ED) λaoE amy ⟨y,qw,ZO,alX,Kc⟩=>?_));obtain⟨agd,e_,t4,AZ⟩:=e9 y qw Kc;refine aQ (bJ (Ab _ amy A4 qw (.ref D) [y] (.ref D) [aoE] (λ_ H'=>H'=a1 qw D (.lst (ys++[y]))) ZO rfl (.cons alX .nil) ⟨D,ys,y,rfl,rfl,agd,eh,rfl⟩) λcf wR ⟨_,tn,yi,_,HM⟩=>?_);subst HM;exact bC (bC ⟨rfl,back yi t4 AZ⟩)
 exact codeAny_compStart_list SP (T.self _ 0 _ _ _ U' SP)
def Pr:BA bP g te S D H1 Q->vd bP g Vw te S D H1 Q:=λ⟨W,o8,t⟩=>⟨W,o8,λi m ys dW w=>⟨(t i m ys dW w).1,(t i m ys dW w).2.imp id λ⟨go,l,N,e9,st⟩=>⟨go,l,N,λ_=>False,e9,λ_ z=>z.elim,λx H' y=>st x H' y⟩⟩⟩
def C1(S:rM X aX cl own caps cap){H3:ak}{fp:List O}{R:fL->aM->Prop}(b9:Inv X aa σ H3 s3)(dc:∀b∈fp,hJ X aa H3 b/\b < s3.heap.objs.size)
  (k:∀h4 tk,(∀b o,s3.heap.get? b=some o->h4.get? b=some o)->Inv (nK X (own++caps) aX (λ_=>cl) (λ_=>false) s3.heap.objs.size s3 H3 fp (X.cv++aa)) [] (g1 (own.map λ_=>none) cap σ) H3 {s3 with heap:=h4,toks:=tk}->
   R (newEnv aX s3.heap.objs.size X.env.globals cl X.env.qual none .none (some X.env) builtinsNs) {s3 with heap:=h4,toks:=tk}):wpAny (model X.prog X.w) X.A (newFunctionEnv aX X.env.globals cl [] X.env.qual none .none (some X.env)) R X.cb s3:=
 X_ S.q3 (by intro y b2;simp at b2) (λh4 Jm UR=>k h4 _ (λb o e=>(UR.2 b (d3 (dm e))).trans (cV _ e)) (abb S b9 dc (by simpa using Jm) λb o e=>(UR.2 b (d3 (dm e))).trans (cV _ e))) S.kind
def uy(S:rM X aX cl own caps cap)(aL:X.calm=true)(au:mE X dH gw ez)(bl:∀C s H fp cv,nD (lY X (own++caps) aX cl C s H fp cv) dH g)(aw:tl own.length g)
  (he:∀C s H fp cv,bz (lY X (own++caps) aX cl C s H fp cv) kh te)
  (aS:∀x,foldedSetIterable gw X.env x=pure x:=by intro _;rfl):bz X (.ListComp kh [⟨dH,gw,[],0⟩] aX pos) (E2 own ez g te cap):=λaa s σ H Q I h=>by
 rw[XN];exact y5 (i4:=λ_=>cl) (fn:=λ_=>false) aL au S.nJ S.kind S.names bl aw he (λ_ _ _ _ _=>Ue) aS (λ_ x c e=>.inr (S.sub x c e)) (λb9 dc k=>C1 S b9 dc k) (λb9 dc j7 ba q=>⟨_,ba,λh' dU=>⟨.ref _,_,CP b9 dc (xq (c9 _)) j7 dU,rfl,q⟩⟩) I h (λ_ _ k D lu=>Pr (k D lu))
def Eo(S:rM X aX cl own caps cap)(aL:X.calm=true)(au:mE X dH gw ez)(bl:∀C s H fp cv,nD (lY X (own++caps) aX cl C s H fp cv) dH g)(aw:tl own.length g)
  (he:∀C s H fp cv,bz (lY X (own++caps) aX cl C s H fp cv) kh te)
   (cj:∀C s H fp cv,j_ (lY X (own++caps) aX cl C s H fp cv) c f2)(aS:∀x,foldedSetIterable gw X.env x=pure x:=by intro _;rfl):bz X (.ListComp kh [⟨dH,gw,[c],0⟩] aX pos) (AO own ez g f2 te cap):=λaa s σ H Q I h=>by
 rw[XN];exact y5 (i4:=λ_=>cl) (fn:=λ_=>false) aL au S.nJ S.kind S.names bl aw he (λC s H fp cv=>KO (cj C s H fp cv)) aS (λ_ x c e=>.inr (S.sub x c e)) (λb9 dc k=>C1 S b9 dc k) (λb9 dc j7 ba q=>⟨_,ba,λh' dU=>⟨.ref _,_,CP b9 dc (xq (c9 _)) j7 dU,rfl,q⟩⟩) I h (λ_ _ k=>k)
def ali{i:Nat}{eM sU:d1}(e9:X.N.Nodup)(t3:X.N[i]? =some y)(b2:X.env.scope.names.lookup y=some .local)(S:rM X aX cl own caps cap)(aL:X.calm=true)(au:mE X dH gw ez)(bl:∀C s H fp cv,nD (lY X (own++caps) aX cl C s H fp cv) dH g)(aw:tl own.length g)
  (he:∀C s H fp cv,bz (lY X (own++caps) aX cl C s H fp cv) kh te)
  (zV:swapsWith (.ListComp kh [⟨dH,gw,[],0⟩] aX pos) (some (.Name y eM)) sU.line X.env=pure true:=by rfl)(aS:∀x,foldedSetIterable gw X.env x=pure x:=by intro _;rfl):hZ X (.Assign [.Name y eM] (.ListComp kh [⟨dH,gw,[],0⟩] aX pos) sU) (ml (E2 own ez g te cap) (lr i)):=λaa s σ H Y I h=>by
 rw[NM _ _ _ _ zV];refine aQ (rK (aQ ?_));exact aQ (j4 (y5 (use:=some (assign (.Name y eM) X.env)) (yv:=λ_ s'=>iK X aa Y .next s') (i4:=λ_=>cl) (fn:=λ_=>false) aL au S.nJ S.kind S.names bl aw he (λ_ _ _ _ _=>Ue) aS (λ_ x c e=>.inr (S.sub x c e)) (λb9 dc k=>C1 S b9 dc k) (λb9 dc j7 ba q=>Mm b9 j7.free (CP b9 dc (xq (c9 _)) j7 (Fu _ _)) ba e9 t3 b2 q) I h (λ_ _ k D lu=>Pr (k D lu))) (λ_ s' a9=>bC (bC a9)) λ_ _ e=>e)
def alh{i:Nat}{eM sU:d1}(e9:X.N.Nodup)(t3:X.N[i]? =some y)(b2:X.env.scope.names.lookup y=some .local)(S:rM X aX cl own caps cap)(aL:X.calm=true)(au:mE X dH gw ez)(bl:∀C s H fp cv,nD (lY X (own++caps) aX cl C s H fp cv) dH g)(aw:tl own.length g)
  (he:∀C s H fp cv,bz (lY X (own++caps) aX cl C s H fp cv) kh te)
   (cj:∀C s H fp cv,j_ (lY X (own++caps) aX cl C s H fp cv) c f2)(zV:swapsWith (.ListComp kh [⟨dH,gw,[c],0⟩] aX pos) (some (.Name y eM)) sU.line X.env=pure true:=by rfl)(aS:∀x,foldedSetIterable gw X.env x=pure x:=by intro _;rfl):hZ X (.Assign [.Name y eM] (.ListComp kh [⟨dH,gw,[c],0⟩] aX pos) sU) (ml (AO own ez g f2 te cap) (lr i)):=λaa s σ H Y I h=>by
 rw[NM _ _ _ _ zV];refine aQ (rK (aQ ?_));exact aQ (j4 (y5 (use:=some (assign (.Name y eM) X.env)) (yv:=λ_ s'=>iK X aa Y .next s') (i4:=λ_=>cl) (fn:=λ_=>false) aL au S.nJ S.kind S.names bl aw he (λC s H fp cv=>KO (cj C s H fp cv)) aS (λ_ x c e=>.inr (S.sub x c e)) (λb9 dc k=>C1 S b9 dc k) (λb9 dc j7 ba q=>Mm b9 j7.free (CP b9 dc (xq (c9 _)) j7 (Fu _ _)) ba e9 t3 b2 q) I h λ_ _ k=>k) (λ_ s' a9=>bC (bC a9)) λ_ _ e=>e)
def alg{i:Nat}{eM sU:d1}(e9:X.N.Nodup)(t3:X.N[i]? =some y)(b2:X.env.scope.names.lookup y=some .local)(S:Gp X aX cl kk own caps cap)(aL:X.calm=true)(au:mE X dH gw ez)(bl:∀C s H fp cv,nD (y7 X (own++caps) aX cl kk C s H fp cv) dH g)(aw:tl own.length g)
  (he:∀C s H fp cv,bz (y7 X (own++caps) aX cl kk C s H fp cv) kh te)
   (cj:∀C s H fp cv,j_ (y7 X (own++caps) aX cl kk C s H fp cv) c f2)(zV:swapsWith (.ListComp kh [⟨dH,gw,[c],0⟩] aX pos) (some (.Name y eM)) sU.line X.env=pure true:=by rfl)(aS:∀x,foldedSetIterable gw X.env x=pure x:=by intro _;rfl):hZ X (.Assign [.Name y eM] (.ListComp kh [⟨dH,gw,[c],0⟩] aX pos) sU) (ml (AO own ez g f2 te cap) (lr i)):=λaa s σ H Y I h=>by
 rw[NM _ _ _ _ zV];refine aQ (rK (aQ ?_));exact aQ (j4 (y5 (use:=some (assign (.Name y eM) X.env)) (yv:=λ_ s'=>iK X aa Y .next s') (i4:=λC=>(kk,C+1)::cl) (fn:=λx=>decide (x=kk)) aL au S.nJ S.kind S.names bl aw he (λC s H fp cv=>KO (cj C s H fp cv)) aS (λC x c e=>(uh e).imp (λz=>z.2) λz=>S.sub x c z.2) (λb9 dc k=>aom S.IH S.push λh4 Jm agB lD=>k h4 _ lD (abd S b9 dc Jm agB lD)) (λb9 dc j7 ba q=>Mm b9 j7.free (abe b9 dc (xq (c9 _)) j7 (Fu _ _)) ba e9 t3 b2 q) I h λ_ _ k=>k) (λ_ s' a9=>bC (bC a9)) λ_ _ e=>e)
end
class bk where
 v:O->Prop
 i:ak->Prop
 st:∀H H':ak,(∀a φ,H a=some (.ext φ)->H' a=some (.ext φ))->(∀a,v a->H' a=H a)->i H->i H'
inductive D where
 | bb | aG(b:Bool) | int(i:Int) | str(x:Str) | ty(n:String)
 | lst(xs:List D) | tup(xs:List D) | aK(kvs:List (bM×D)) | ins(C:O)(fs:List (Str×D))
mutual
inductive cn(H:ak):V->D->Prop where
 | bb:cn H .bb .bb
 | aG (b:Bool):cn H (.aG b) (.aG b)
 | int (i:Int):cn H (.int i) (.int i)
 | str (x:Str):cn H (.str x) (.str x)
 | ty (n:String):cn H (.ty n) (.ty n)
 | lst {a:O} {vs:List V} {ds:List D}:H a=some (.lst vs)->cP H vs ds->cn H (.ref a) (.lst ds)
 | tup {a:O} {vs:List V} {ds:List D}:H a=some (.tup vs)->cP H vs ds->cn H (.ref a) (.tup ds)
 | aK {a:O} {kvs:List (bM×V)} {bR:List (bM×D)}:ec H a (.a7 kvs)->dS H kvs bR->cn H (.ref a) (.aK bR)
 | ins {a C dx:O} {fs:List (Str×V)} {nO:List (Str×D)}:H a=some (.ins C dx fs)->jL H fs nO->cn H (.ref a) (.ins C nO)
inductive cP(H:ak):List V->List D->Prop where
 | nil:cP H [] []
 | cons {v:V} {d:D} {vs:List V} {ds:List D}:cn H v d->cP H vs ds->cP H (v::vs) (d::ds)
inductive dS(H:ak):List (bM×V)->List (bM×D)->Prop where
 | nil:dS H [] []
 | cons {k:bM} {v:V} {d:D} {vs:List (bM×V)} {ds:List (bM×D)}:cn H v d->dS H vs ds->dS H ((k,v)::vs) ((k,d)::ds)
inductive jL(H:ak):List (Str×V)->List (Str×D)->Prop where
 | nil:jL H [] []
 | cons {k:Str} {v:V} {d:D} {vs:List (Str×V)} {ds:List (Str×D)}:cn H v d->jL H vs ds->jL H ((k,v)::vs) ((k,d)::ds)
end
def fu(H H':ak):Prop:=∀a o,H a=some o->H' a=some o∨(∃kvs bW,o= .a7 kvs/\H' a=some (.eQ bW (.a7 kvs)))∨∃kvs bW,o= .eQ bW (.a7 kvs)/\H' a=some (.a7 kvs)
def fu.hE(l:fu H H')(r:ec H a (.a7 kvs)):ec H' a (.a7 kvs):=by
 rcases r with r | ⟨o,r⟩
 ·rcases l a _ r with h | ⟨k,bW,e,h⟩ | ⟨k,bW,e,h⟩
  ·exact .inl h
  ·cases e;exact .inr ⟨bW,h⟩
  ·cases e
 ·rcases l a _ r with h | ⟨k,bW,e,h⟩ | ⟨k,bW,e,h⟩
  ·exact .inr ⟨o,h⟩
  ·cases e
  ·cases e;exact .inl h
def fu.lst{H H':ak}(l:fu H H'){a:O}{vs:List V}(r:H a=some (.lst vs)):H' a=some (.lst vs):=by
 rcases l a _ r with h | ⟨k,bW,e,h⟩ | ⟨k,bW,e,h⟩
 ·exact h
 ·cases e
 ·cases e
def fu.tup{H H':ak}(l:fu H H'){a:O}{vs:List V}(r:H a=some (.tup vs)):H' a=some (.tup vs):=by
 rcases l a _ r with h | ⟨k,bW,e,h⟩ | ⟨k,bW,e,h⟩
 ·exact h
 ·cases e
 ·cases e
def fu.ins{H H':ak}(l:fu H H'){a C dx:O}{fs:List (Str×V)}(r:H a=some (.ins C dx fs)):H' a=some (.ins C dx fs):=by
 rcases l a _ r with h | ⟨k,bW,e,h⟩ | ⟨k,bW,e,h⟩
 ·exact h
 ·cases e
 ·cases e
mutual
def cn.mono(l:fu H H'):∀{v:V}{d:D},cn H v d->cn H' v d
 | _,_,.bb=>.bb
 | _,_,.aG b=>.aG b
 | _,_,.int i=>.int i
 | _,_,.str x=>.str x
 | _,_,.ty n=>.ty n
 | _,_,.lst h r=>.lst (l.lst h) (cP.mono l r)
 | _,_,.tup h r=>.tup (l.tup h) (cP.mono l r)
 | _,_,.aK h r=>.aK (l.hE h) (dS.mono l r)
 | _,_,.ins h r=>.ins (l.ins h) (jL.mono l r)
def cP.mono(l:fu H H'):∀{v:List V}{d:List D},cP H v d->cP H' v d
 | _,_,.nil=>.nil
 | _,_,.cons a b=>.cons (cn.mono l a) (cP.mono l b)
def dS.mono(l:fu H H'):∀{v:List (bM×V)}{d:List (bM×D)},dS H v d->dS H' v d
 | _,_,.nil=>.nil
 | _,_,.cons a b=>.cons (cn.mono l a) (dS.mono l b)
def jL.mono(l:fu H H'):∀{v:List (Str×V)}{d:List (Str×D)},jL H v d->jL H' v d
 | _,_,.nil=>.nil
 | _,_,.cons a b=>.cons (cn.mono l a) (jL.mono l b)
end
end bu
namespace bu
open PySem PySem.Spec PyProof.Rows
variable[bk]
open Classical in
noncomputable def cut (U:O->Prop) (H:ak):ak:=λa=>if U a then none else H a
def cB:cut U H a=some o↔¬U a/\H a=some o:=by
 unfold cut;by_cases h:U a<;>simp[h]
def oF(r:ec (cut U H) a o):¬U a/\ec H a o:=by
 rcases r with r | ⟨b,r⟩
 ·exact⟨(cB.mp r).1,.inl (cB.mp r).2⟩
 ·exact⟨(cB.mp r).1,.inr ⟨b,(cB.mp r).2⟩⟩
inductive eI(U:O->Prop)(H:ak):V->D->List O->Prop where
 | lst {a:O} {vs:List V} {ds:List D}:H a=some (.lst vs)->cP (cut U H) vs ds->eI U H (.ref a) (.lst ds) [a]
 | aK {a:O} {kvs:List (bM×V)} {bR:List (bM×D)}:H a=some (.a7 kvs)->dS (cut U H) kvs bR->eI U H (.ref a) (.aK bR) [a]
 | ins {a C dx:O} {fs:List (Str×V)} {nO:List (Str×D)}:H a=some (.ins C dx fs)->jL (cut U H) fs nO->eI U H (.ref a) (.ins C nO) [a]
abbrev aq:=List (Option (Bool×D))
abbrev G(d:D):Option (Bool×D):=some (false,d)
abbrev cs:=Nat->List O
def a5(T:O->Prop)(ω:cs)(a:O):Prop:=T a∨∃i,a∈ω i
structure bh(T:O->Prop)(ω:cs)(H:ak)(σ:St)(ε:aq):Prop where
 len:σ.length=ε.length
 jl:∀i j a,a∈ω i->a∈ω j->i=j
 ee:∀i a,a∈ω i->¬T a
 al:∀a,a5 T ω a->H a≠none
 own:∀(i:Nat)(d:D),ε[i]? =some (some (true,d))->∃v,σ[i]? =some (some v)/\eI (a5 T ω) H v d (ω i)
 pl:∀(i:Nat)(d:D),ε[i]? =some (G d)->∃v,σ[i]? =some (some v)/\cn (cut (a5 T ω) H) v d
 c7:∀a,bk.v a->T a
 bB:bk.i H
structure Step(T:O->Prop)(ω:cs)(H:ak)(aO:cs)(H':ak):Prop where
 keep:∀a o,¬a5 T ω a->H a=some o->¬a5 T aO a/\H' a=some o
 same:∀a,T a->¬bk.v a->H' a=H a
 c8:∀a,H' a=none->H a=none
structure e5 where
 k:eP
 h:ak
def Step.refl{H:ak}:Step T ω H ω H:=⟨λ_ _ h e=>⟨h,e⟩,λ_ _ _=>rfl,λ_ h=>h⟩
def Step.trans{H H1 H2:ak}(s:Step T ω H a0 H1)(t:Step T a0 H1 cN H2):Step T ω H cN H2:=
 ⟨λa o h e=>t.keep a o (s.keep a o h e).1 (s.keep a o h e).2,λa h n=>(t.same a h n).trans (s.same a h n),λa h=>s.c8 a (t.c8 a h)⟩
def Step.le{H H':ak}(s:Step T ω H aO H'):fu (cut (a5 T ω) H) (cut (a5 T aO) H'):=λa o h=>.inl (by
 obtain⟨h1,h2⟩:=cB.mp h;exact cB.mpr (s.keep a o h1 h2))
def gE{U qz:O->Prop}(h:∀a,qz a->U a):fu (cut U H) (cut qz H):=λa o e=>.inl (by
 obtain⟨h1,h2⟩:=cB.mp e;exact cB.mpr ⟨λz=>h1 (h a z),h2⟩)
def eI.mono{F:List O}(o:eI U H v d F)(l:fu (cut U H) (cut qz H'))(k:∀a∈F,H' a=H a):eI qz H' v d F:=by
 cases o with
 | lst h r=>exact .lst ((k _ (by simp)).trans h) (r.mono l)
 | aK h r=>exact .aK ((k _ (by simp)).trans h) (r.mono l)
 | ins h r=>exact .ins ((k _ (by simp)).trans h) (r.mono l)
def eI.plain{U qz:O->Prop}{F:List O}(o:eI U H v d F)(l:∀a,qz a->U a)(n:∀a∈F,¬qz a):cn (cut qz H) v d:=by
 cases o with
 | lst h r=>exact .lst (cB.mpr ⟨n _ (by simp),h⟩) (r.mono (gE l))
 | aK h r=>exact .aK (.inl (cB.mpr ⟨n _ (by simp),h⟩)) (r.mono (gE l))
 | ins h r=>exact .ins (cB.mpr ⟨n _ (by simp),h⟩) (r.mono (gE l))
inductive aJ(α:Type) where
 | no | ok(x:α)(ε:aq) | cp(C:O)(fs:List (Str×V))
def aJ.bind{α β:Type}(r:aJ α)(f:α->aq->aJ β):aJ β:=match r with
 | .no=>.no
 | .ok x ε=>f x ε
 | .cp C fs=>.cp C fs
def dJ{α β:Type}(E:e5)(T:O->Prop)(ω:cs)(H:ak)(σ:St)(r:aJ α)(kG:α->cs->ak->β->Prop)(Q:β->ak->Prop):Prop:=match r with
 | .no=>False
 | .ok x ε'=>∀v aO H',bh T aO H' σ ε'->Step T ω H aO H'->kG x aO H' v->Q v H'
 | .cp C fs=>(∀a,H a=none->E.h a=none)/\∀x H',(∀a o,¬bk.v a->¬(∃i,a∈ω i)->H a=some o->H' a=some o)->bk.i H'->(∀a,H' a=none->H a=none)->H' x=some (jH x fs)->E.k (.ref C) (some x) H'
abbrev kb(T:O->Prop):D->cs->ak->V->Prop:=λd aO H' v=>cn (cut (a5 T aO) H') v d
abbrev ka(T:O->Prop):D->cs->ak->V->Prop:=λd aO H' v=>cn (cut (a5 T aO) H') v d∨∃F,eI (a5 T aO) H' v d F
def b8(E:e5)(t:TE)(δ:aq->aJ D):Prop:=∀(T:O->Prop)(ω:cs)(H:ak)(σ:St)(ε:aq)(Q:c3),bh T ω H σ ε->dJ E T ω H σ (δ ε) (kb T) Q->t σ H Q
def mF(E:e5)(t:TE)(δ:aq->aJ D):Prop:=∀(T:O->Prop)(ω:cs)(H:ak)(σ:St)(ε:aq)(Q:c3),bh T ω H σ ε->dJ E T ω H σ (δ ε) (ka T) Q->t σ H Q
def jK(E:e5)(t:TT)(δ:aq->aJ Bool):Prop:=∀(T:O->Prop)(ω:cs)(H:ak)(σ:St)(ε:aq)(Q:Bool->ak->Prop),bh T ω H σ ε->dJ E T ω H σ (δ ε) (λb _ _ c=>c=b) Q->t σ H Q
def k6(E:e5)(t:fi)(δ:aq->aJ (List D)):Prop:=∀(T:O->Prop)(ω:cs)(H:ak)(σ:St)(ε:aq)(Q:List V->ak->Prop),bh T ω H σ ε->dJ E T ω H σ (δ ε) (λds aO H' vs=>cP (cut (a5 T aO) H') vs ds) Q->t σ H Q
section
variable{E:e5}{T:O->Prop}{ω aO:cs}{H H':ak}{σ:St}{ε:aq}{t:TE}{δ:aq->aJ D}
def dJ.mono{α β:Type}{r:aJ α}{kG OW:α->cs->ak->β->Prop}{Q Q':β->ak->Prop}(h:dJ E T ω H σ r kG Q)(k:∀x aO H' v,OW x aO H' v->kG x aO H' v)(q:∀v H',Q v H'->Q' v H'):dJ E T ω H σ r OW Q':=by
 cases r with
 | no=>exact h
 | ok x ε'=>exact λv aO H' e s p=>q _ _ (h v aO H' e s (k _ _ _ _ p))
 | cp C fs=>exact h
def b8.b(h:b8 E t δ):mF E t δ:=λT ω H σ ε Q e q=>h T ω H σ ε Q e (q.mono (λ_ _ _ _ p=>.inl p) λ_ _ p=>p)
def dJ.then {α β γ:Type}{r:aJ α}{f:α->aq->aJ γ}{kG:α->cs->ak->β->Prop}{fA:Type}{G4:γ->cs->ak->fA->Prop}{Q:fA->ak->Prop}{Q1:β->ak->Prop}(h:dJ E T ω H σ (r.bind f) G4 Q)
  (k:∀x ε' v aO H',r= .ok x ε'->bh T aO H' σ ε'->Step T ω H aO H'->kG x aO H' v->dJ E T aO H' σ (f x ε') G4 Q->Q1 v H'):dJ E T ω H σ r kG Q1:=by
 cases r with
 | no=>exact h
 | ok x ε'=>
  intro v aO H' e s p;refine k x ε' v aO H' rfl e s p ?_;change dJ E T ω H σ (f x ε') G4 Q at h;cases aH:f x ε' with
  | no=>rw[aH]at h;exact h
  | ok y bD=>rw[aH]at h;exact λru cN H2 aF s2 cL=>h ru cN H2 aF (s.trans s2) cL
  | cp C fs=>
   rw[aH]at h;refine⟨λa af=>h.1 a (s.c8 a af),λx2 H2 ev i2 oG aF=>h.2 x2 H2 (λa o cm na aR=>?_) i2 (λa af=>s.c8 a (oG a af)) aF⟩;by_cases cj:T a
   ·exact ev a o cm (λ⟨i,z⟩=>e.ee i a z cj) ((s.same a cj cm).trans aR)
   ·have aD:¬a5 T ω a:=λz=>z.elim cj na;obtain⟨h1,h2⟩:=s.keep a o aD aR;exact ev a o cm (λz=>h1 (.inr z)) h2
 | cp C fs=>exact h
end
def r5{H:ak}(aB:H p=none):∀a,a1 H p o a=none->H a=none:=λa h=>by
 by_cases z:a=p
 ·rw[z];exact aB
 ·rw[bj z]at h;exact h
section
variable{T T':O->Prop}{ω aO:cs}{H H':ak}{σ:St}{ε:aq}{p:O}{o:dB}
def bh.grow(e:bh T ω H σ ε)(s:Step T ω H ω H')(k:∀i,∀a∈ω i,H' a=H a)(bB:bk.i H'):bh T ω H' σ ε:=
 ⟨e.len,e.jl,e.ee,λa h z=>e.al a h (s.c8 a z),
  λi d h=>by
   obtain⟨v,h1,h2⟩:=e.own i d h;exact⟨v,h1,h2.mono s.le (k i)⟩,
  λi d h=>by
   obtain⟨v,h1,h2⟩:=e.pl i d h;exact⟨v,h1,h2.mono s.le⟩,e.c7,bB⟩
def bh.ne(e:bh T ω H σ ε)(aB:H p=none){a:O}(h:a5 T ω a):a≠p:=λz=>e.al a h (by rw[z];exact aB)
def bh.hl(e:bh T ω H σ ε)(aB:H p=none):Step T ω H ω (a1 H p o):=
 ⟨λa u h q=>⟨h,by rw[bj (eK q aB)];exact q⟩,λa h _=>bj (e.ne aB (.inl h)),r5 aB⟩
def bh.Tc(e:bh T ω H σ ε)(aB:H p=none):bk.i (a1 H p o):=bk.st H _ (λa φ h=>by rw[bj (eK h aB)];exact h) (λa h=>bj (e.ne aB (.inl (e.c7 a h)))) e.bB
def bh.new(e:bh T ω H σ ε)(aB:H p=none):bh T ω (a1 H p o) σ ε:=e.grow (e.hl aB) (λi a h=>bj (e.ne aB (.inr ⟨i,h⟩))) (e.Tc aB)
def bh.Kg(e:bh T ω H σ ε)(aB:H p=none):¬a5 T ω p:=λh=>e.ne aB h rfl
def bh.weak(e:bh T ω H σ ε)(h:∀a,T' a->T a)(bm:∀a,bk.v a->T' a):bh T' ω H σ ε:=by
 have aD:∀a,a5 T' ω a->a5 T ω a:=λa z=>z.imp (h a) id;exact⟨e.len,e.jl,λi a z q=>e.ee i a z (h a q),λa z=>e.al a (aD a z),λi d z=>by
   obtain⟨v,h1,h2⟩:=e.own i d z;exact⟨v,h1,h2.mono (gE aD) λ_ _=>rfl⟩,
  λi d z=>by
   obtain⟨v,h1,h2⟩:=e.pl i d z;exact⟨v,h1,h2.mono (gE aD)⟩,bm,e.bB⟩
def cs.off(ω:cs)(i:Nat):cs:=λj=>if j=i then []else ω j
def cs.wA{a:O}(h:a∈ω.off i j):a∈ω j/\j≠i:=by
 unfold cs.off at h;by_cases z:j=i
 ·rw[if_pos z]at h;cases h
 ·rw[if_neg z]at h;exact⟨h,z⟩
def cs.off_ne{i j:Nat}(h:j≠i):ω.off i j=ω j:=if_neg h
def a5.off(h:a5 T (ω.off i) a):a5 T ω a:=h.imp id λ⟨j,z⟩=>⟨j,(cs.wA z).1⟩
def bh.set(e:bh T ω H σ ε){i:Nat}(au:i < ε.length)(r:cn (cut (a5 T (ω.off i)) H) v d):bh T (ω.off i) H (σ.set i (some v)) (ε.set i (G d)):=by
 have aD:∀a,a5 T (ω.off i) a->a5 T ω a:=λa=>a5.off;refine⟨by rw[rC,rC];exact e.len,λa b x af ab=>e.jl a b x (cs.wA af).1 (cs.wA ab).1,λa x h=>e.ee a x (cs.wA h).1,λa h=>e.al a (aD a h),λj c h=>?_,λj c h=>?_,e.c7,e.bB⟩
 ·by_cases z:j=i
  ·subst z;rw[j1 au]at h;cases h
  ·rw[j0 (Ne.symm z)]at h ⊢;obtain⟨u,h1,h2⟩:=e.own j c h;refine⟨u,h1,?_⟩;rw[cs.off_ne z];exact h2.mono (gE aD) λ_ _=>rfl
 ·by_cases z:j=i
  ·subst z;rw[j1 au]at h;cases h;exact⟨v,j1 (by rw[e.len];exact au),r⟩
  ·rw[j0 (Ne.symm z)]at h ⊢;obtain⟨u,h1,h2⟩:=e.pl j c h;exact⟨u,h1,h2.mono (gE aD)⟩
def Step.off(s:Step T ω H aO H'):Step T ω H (aO.off i) H':=⟨λa u h q=>⟨λz=>(s.keep a u h q).1 (a5.off z),(s.keep a u h q).2⟩,s.same,s.c8⟩
def bh.give(e:bh T ω H σ ε){i:Nat}{d:D}(h:ε[i]? =some (some (true,d))):∃v,σ[i]? =some (some v)/\cn (cut (a5 T (ω.off i)) H) v d/\bh T (ω.off i) H σ (ε.set i (G d)):=by
 obtain⟨v,h1,h2⟩:=e.own i d h;have r:cn (cut (a5 T (ω.off i)) H) v d:=h2.plain (λa=>a5.off) λa af z=>by
  rcases z with z | ⟨j,z⟩
  ·exact e.ee i a af z
  ·exact(cs.wA z).2 (e.jl j i a (cs.wA z).1 af)
 have au:i < ε.length:=by
  exact(hf.mp h).1
 have q:=e.set au r;have es:σ.set i (some v)=σ:=by
  have aS:=hf.mp h1;obtain⟨cY,dC⟩:=aS;rw[<- dC,Nl]
 rw[es]at q;exact⟨v,h1,r,q⟩
end
def J(i:Nat):aq->aJ D:=λε=>match ε[i]? with
 | some (some (false,d))=>.ok d ε
 | some (some (true,d))=>.ok d (ε.set i (G d))
 | _=>.no
def zl(i:Nat):aq->aJ D:=λε=>match ε[i]? with
 | some (some (_,d))=>.ok d ε
 | _=>.no
section
variable{E:e5}
def ax(i:Nat):b8 E (dP i) (J i):=λT ω H σ ε Q e q=>by
 unfold J at q;cases h:ε[i]? with
 | none=>rw[h]at q;exact q.elim
 | some x=>
  cases x with
  | none=>rw[h]at q;exact q.elim
  | some y=>
   obtain⟨b,d⟩:=y;cases b with
   | false=>
    rw[h]at q;obtain⟨v,h1,h2⟩:=e.pl i d h;exact⟨v,h1,q v ω H e Step.refl h2⟩
   | true=>
    rw[h]at q;obtain⟨v,h1,h2,aF⟩:=e.give h;exact⟨v,h1,q v (ω.off i) H aF Step.refl.off h2⟩
def KR(i:Nat):mF E (dP i) (zl i):=λT ω H σ ε Q e q=>by
 unfold zl at q;cases h:ε[i]? with
 | none=>rw[h]at q;exact q.elim
 | some x=>
  cases x with
  | none=>rw[h]at q;exact q.elim
  | some y=>
   obtain⟨b,d⟩:=y;rw[h]at q;cases b with
   | false=>
    obtain⟨v,h1,h2⟩:=e.pl i d h;exact⟨v,h1,q v ω H e Step.refl (.inl h2)⟩
   | true=>
    obtain⟨v,h1,h2⟩:=e.own i d h;exact⟨v,h1,q v ω H e Step.refl (.inr ⟨_,h2⟩)⟩
def aT(d:D):aq->aJ D:=λε=>.ok d ε
def Eu(h:∀H,cn H v d):b8 E (gT v) (aT d):=λT ω H σ ε Q e q=>q v ω H e Step.refl (h _)
def hp:b8 E (gT (.int i)) (aT (.int i)):=Eu λ_=>.int i
def cQ:b8 E (gT (.str x)) (aT (.str x)):=Eu λ_=>.str x
def KP:b8 E (gT (.aG b)) (aT (.aG b)):=Eu λ_=>.aG b
def Ay:b8 E (gT .bb) (aT .bb):=Eu λ_=>.bb
def iq(r:iJ)(f:D->D->Option D):Prop:=∀(T:O->Prop)(ω:cs)(H:ak)(σ:St)(ε:aq)(x y:V)(dx g2 d:D)(Q:c3),bh T ω H σ ε->ka T dx ω H x->ka T g2 ω H y->f dx g2=some d->
 (∀v H',bh T ω H' σ ε->Step T ω H ω H'->kb T d ω H' v->Q v H')->r x y H Q
def dv{α:Type}(o:Option α)(ε:aq):aJ α:=match o with
 | some d=>.ok d ε
 | none=>.no
def aI(f:D->D->Option D)(bf cR:aq->aJ D):aq->aJ D:=λε=>(bf ε).bind λa aC=>(cR aC).bind λb bD=>dv (f a b) bD
def dJ.opt{α β:Type}{o:Option α}{E:e5}{T:O->Prop}{ω:cs}{H:ak}{σ:St}{ε:aq}{kG:α->cs->ak->β->Prop}{Q:β->ak->Prop}(h:dJ E T ω H σ (dv o ε) kG Q):∃d,o=some d/\∀v aO H',bh T aO H' σ ε->Step T ω H aO H'->kG d aO H' v->Q v H':=by
 cases o with
 | none=>exact h.elim
 | some d=>exact⟨d,rfl,h⟩
variable{aP tb:TE}{bf cR:aq->aJ D}
def e0{r:iJ}{f:D->D->Option D}(aA:iq r f)(af:b8 E aP bf)(ab:mF E tb cR):b8 E (nc r aP tb) (aI f bf cR):=λT ω H σ ε Q e q=>by
 refine af T ω H σ ε _ e (q.then λx aC v a0 H1 _ ag s1 bc ao=>?_);refine ab T a0 H1 σ aC _ ag (ao.then λy bD u cN H2 _ aF s2 cL bZ=>?_);obtain⟨d,hd,k⟩:=bZ.opt;exact aA T cN H2 σ bD v u x y d Q aF (.inl (bc.mono s2.le)) cL hd λw H3 cU s3 iV=>k w cN H3 cU s3 iV
def ou(r:List V->ak->c3->Prop)(f:D->Option D):Prop:=∀(T:O->Prop)(ω:cs)(H:ak)(σ:St)(ε:aq)(x:V)(dx d:D)(Q:c3),bh T ω H σ ε->ka T dx ω H x->f dx=some d->
 (∀v H',bh T ω H' σ ε->Step T ω H ω H'->kb T d ω H' v->Q v H')->r [x] H Q
def bg(f:D->Option D)(bf:aq->aJ D):aq->aJ D:=λε=>(bf ε).bind λa aC=>dv (f a) aC
def gc{r:List V->ak->c3->Prop}{f:D->Option D}(aA:ou r f)(af:mF E aP bf):b8 E (kp r (gd aP gy)) (bg f bf):=λT ω H σ ε Q e q=>by
 refine af T ω H σ ε _ e (q.then λx aC v a0 H1 _ ag s1 bc ao=>?_);obtain⟨d,hd,k⟩:=ao.opt;exact aA T a0 H1 σ aC v x d Q ag bc hd λw H3 cU s3 iV=>k w a0 H3 cU s3 iV
def hL:D->Option Bool
 | .aG b=>some b
 | _=>none
def b6(δ:aq->aJ D):aq->aJ Bool:=λε=>(δ ε).bind λa aC=>dv (hL a) aC
def EG(r:cn H v d)(h:hL d=some b):v= .aG b:=by
 cases r<;>simp[hL]at h;exact h▸rfl
def fV(af:b8 E aP bf):jK E (Mt aP) (b6 bf):=λT ω H σ ε Q e q=>by
 refine af T ω H σ ε _ e (q.then λx aC v a0 H1 _ ag s1 bc ao=>?_);obtain⟨d,hd,k⟩:=ao.opt;exact⟨d,EG bc hd,k d a0 H1 ag Step.refl rfl⟩
def jW(af:b8 E aP bf):jK E (w9 aP) (b6 bf):=fV af
variable{hT eS:TT}{kx pa:aq->aJ Bool}
def g3(kx pa:aq->aJ Bool):aq->aJ Bool:=λε=>(kx ε).bind λa aC=>if a=true then pa aC else .ok false aC
def zi(kx pa:aq->aJ Bool):aq->aJ Bool:=λε=>(kx ε).bind λa aC=>if a=true then .ok true aC else pa aC
def lf(kx:aq->aJ Bool):aq->aJ Bool:=λε=>(kx ε).bind λa aC=>.ok (!a) aC
def p1(af:jK E hT kx)(ab:jK E eS pa):jK E (Ms hT eS) (g3 kx pa):=λT ω H σ ε Q e q=>by
 refine af T ω H σ ε _ e (q.then λx aC v a0 H1 _ ag s1 bc ao=>?_);obtain rfl:v=x:=bc;cases v with
 | true=>exact ab T a0 H1 σ aC Q ag ao
 | false=>exact ao false a0 H1 ag Step.refl rfl
def Uk(af:jK E hT kx)(ab:jK E eS pa):jK E (Vt hT eS) (zi kx pa):=λT ω H σ ε Q e q=>by
 refine af T ω H σ ε _ e (q.then λx aC v a0 H1 _ ag s1 bc ao=>?_);obtain rfl:v=x:=bc;cases v with
 | true=>exact ao true a0 H1 ag Step.refl rfl
 | false=>exact ab T a0 H1 σ aC Q ag ao
def rb(af:jK E hT kx):jK E (Vr hT) (lf kx):=λT ω H σ ε Q e q=>by
 refine af T ω H σ ε _ e (q.then λx aC v a0 H1 _ ag s1 bc ao=>?_);obtain rfl:v=x:=bc;exact ao (!v) a0 H1 ag Step.refl rfl
def HQ(β:aq->aJ Bool)(bf cR:aq->aJ D):aq->aJ D:=λε=>(β ε).bind λa aC=>if a=true then bf aC else cR aC
def alK(aL:jK E hT kx)(af:b8 E aP bf)(ab:b8 E tb cR):b8 E (Vl hT aP tb) (HQ kx bf cR):=λT ω H σ ε Q e q=>by
 refine aL T ω H σ ε _ e (q.then λx aC v a0 H1 _ ag s1 bc ao=>?_);obtain rfl:v=x:=bc;cases v with
 | true=>exact af T a0 H1 σ aC Q ag ao
 | false=>exact ab T a0 H1 σ aC Q ag ao
def gr(bf cR:aq->aJ D):aq->aJ D:=λε=>(bf ε).bind λa aC=>(dv (hL a) aC).bind λb bD=>if b=true then cR bD else .ok (.aG false) bD
def o4(af:b8 E aP bf)(ab:b8 E tb cR):b8 E (Ve aP tb) (gr bf cR):=λT ω H σ ε Q e q=>by
 refine af T ω H σ ε _ e (q.then λx aC v a0 H1 _ ag s1 bc ao=>?_);cases ah:hL x with
 | none=>rw[ah]at ao;exact ao.elim
 | some b=>
  rw[ah]at ao;refine⟨b,EG bc ah,?_⟩;cases b with
  | true=>exact ab T a0 H1 σ aC Q ag ao
  | false=>exact ao _ a0 H1 ag Step.refl (.aG false)
def aU:aq->aJ (List D):=λε=>.ok [] ε
def az(δ:aq->aJ D)(cy:aq->aJ (List D)):aq->aJ (List D):=λε=>(δ ε).bind λa aC=>(cy aC).bind λas bD=>.ok (a::as) bD
def b1:k6 E gy aU:=λT ω H σ ε Q e q=>q [] ω H e Step.refl .nil
def a8{t:fi}{cy:aq->aJ (List D)}(af:b8 E aP bf)(aS:k6 E t cy):k6 E (gd aP t) (az bf cy):=λT ω H σ ε Q e q=>by
 refine af T ω H σ ε _ e (q.then λx aC v a0 H1 _ ag s1 bc ao=>?_);refine aS T a0 H1 σ aC _ ag (ao.then λy bD u cN H2 _ aF s2 cL bZ=>?_);exact bZ (v::u) cN H2 aF Step.refl (.cons (bc.mono s2.le) cL)
def n9(xs:List D):Option (List D):=if xs.length<=1000 then some xs else none
def Mr(h:n9 xs=some ys):xs.length<=sizeLine/\ys=xs:=by
 unfold n9 at h;by_cases z:xs.length<=1000
 ·rw[if_pos z]at h;cases h;exact⟨kA (nb z),rfl⟩
 ·rw[if_neg z]at h;cases h
def cP.length:∀{vs:List V}{ds:List D},cP H vs ds->vs.length=ds.length
 | _,_,.nil=>rfl
 | _,_,.cons _ r=>by rw[hH,hH,cP.length r]
def cP.get:∀{vs:List V}{ds:List D},cP H vs ds->∀{i:Nat}{d:D},ds[i]? =some d->∃v,vs[i]? =some v/\cn H v d
 | _,_,.nil,i,d,h=>by simp at h
 | _,_,.cons a r,0,d,h=>by simp at h;subst h;exact⟨_,rfl,a⟩
 | _,_,.cons a r,i+1,d,h=>by simpa using r.get (i:=i) (by simpa using h)
def cP.append:∀{vs cJ:List V}{ds es:List D},cP H vs ds->cP H cJ es->cP H (vs++cJ) (ds++es)
 | _,_,_,_,.nil,s=>s
 | _,_,_,_,.cons a r,s=>.cons a (cP.append r s)
def cP.drop:∀{vs:List V}{ds:List D}(n:Nat),cP H vs ds->cP H (vs.drop n) (ds.drop n)
 | _,_,0,r=>r
 | _,_,n+1,.nil=>.nil
 | _,_,n+1,.cons a r=>cP.drop n r
def cP.take:∀{vs:List V}{ds:List D}(n:Nat),cP H vs ds->cP H (vs.take n) (ds.take n)
 | _,_,0,r=>.nil
 | _,_,n+1,.nil=>.nil
 | _,_,n+1,.cons a r=>.cons a (cP.take n r)
def iQ(cy:aq->aJ (List D)):aq->aJ D:=λε=>(cy ε).bind λas aC=>dv ((n9 as).map .lst) aC
def gv(cy:aq->aJ (List D)):aq->aJ D:=λε=>(cy ε).bind λas aC=>dv ((n9 as).map .tup) aC
def q1{H:ak}{ε:aq}(e:bh T ω H σ ε)(aB:H p=none)(r:cP (cut (a5 T ω) H) vs ds):cn (cut (a5 T ω) (a1 H p (.lst vs))) (.ref p) (.lst ds):=
 .lst (cB.mpr ⟨e.Kg aB,cw⟩) (r.mono (e.hl aB).le)
def Kh{H:ak}{ε:aq}(e:bh T ω H σ ε)(aB:H p=none)(r:cP (cut (a5 T ω) H) vs ds):cn (cut (a5 T ω) (a1 H p (.tup vs))) (.ref p) (.tup ds):=
 .tup (cB.mpr ⟨e.Kg aB,cw⟩) (r.mono (e.hl aB).le)
def Td{H:ak}{ε:aq}(e:bh T ω H σ ε)(aB:H p=none)(r:dS (cut (a5 T ω) H) vs ds):cn (cut (a5 T ω) (a1 H p (.a7 vs))) (.ref p) (.aK ds):=
 .aK (.inl (cB.mpr ⟨e.Kg aB,cw⟩)) (r.mono (e.hl aB).le)
def m6{t:fi}{cy:aq->aJ (List D)}(aS:k6 E t cy):b8 E (Mx t) (iQ cy):=λT ω H σ ε Q e q=>by
 refine aS T ω H σ ε _ e (q.then λx aC v a0 H1 _ ag s1 bc ao=>?_);obtain⟨d,hd,k⟩:=ao.opt;cases hz:n9 x with
 | none=>rw[hz]at hd;cases hd
 | some y=>
  rw[hz]at hd;cases hd;obtain⟨eH,rfl⟩:=Mr hz;exact⟨by rw[bc.length];exact eH,λp aB=>k _ a0 _ (ag.new aB) (ag.hl aB) (q1 ag aB bc)⟩
def kW{t:fi}{cy:aq->aJ (List D)}(aS:k6 E t cy):b8 E (Vx t) (gv cy):=λT ω H σ ε Q e q=>by
 refine aS T ω H σ ε _ e (q.then λx aC v a0 H1 _ ag s1 bc ao=>?_);obtain⟨d,hd,k⟩:=ao.opt;cases hz:n9 x with
 | none=>rw[hz]at hd;cases hd
 | some y=>
  rw[hz]at hd;cases hd;obtain⟨eH,rfl⟩:=Mr hz;exact⟨by rw[bc.length];exact eH,λp aB=>k _ a0 _ (ag.new aB) (ag.hl aB) (Kh ag aB bc)⟩
def Ev:b8 E Mv (aT (.aK [])):=λT ω H σ ε Q e q=>λp aB=>q _ ω _ (e.new aB) (e.hl aB) (Td e aB .nil)
end
section
variable{T:O->Prop}{ω:cs}{H:ak}{x:V}
def jX(h:ka T (.lst ds) ω H x):∃a vs,x= .ref a/\H a=some (.lst vs)/\cP (cut (a5 T ω) H) vs ds:=by
 rcases h with h | ⟨F,h⟩
 ·cases h with
  | lst h1 h2=>exact⟨_,_,rfl,(cB.mp h1).2,h2⟩
 ·cases h with
  | lst h1 h2=>exact⟨_,_,rfl,h1,h2⟩
def p4(h:ka T (.tup ds) ω H x):∃a vs,x= .ref a/\H a=some (.tup vs)/\cP (cut (a5 T ω) H) vs ds:=by
 rcases h with h | ⟨F,h⟩
 ·cases h with
  | tup h1 h2=>exact⟨_,_,rfl,(cB.mp h1).2,h2⟩
 ·cases h
def m8(h:ka T (.aK ds) ω H x):∃a vs,x= .ref a/\ec H a (.a7 vs)/\dS (cut (a5 T ω) H) vs ds:=by
 rcases h with h | ⟨F,h⟩
 ·cases h with
  | aK h1 h2=>exact⟨_,_,rfl,(oF h1).2,h2⟩
 ·cases h with
  | aK h1 h2=>exact⟨_,_,rfl,.inl h1,h2⟩
def EF(h:ka T (.ins C ds) ω H x):∃a dx vs,x= .ref a/\H a=some (.ins C dx vs)/\jL (cut (a5 T ω) H) vs ds:=by
 rcases h with h | ⟨F,h⟩
 ·cases h with
  | ins h1 h2=>exact⟨_,_,_,rfl,(cB.mp h1).2,h2⟩
 ·cases h with
  | ins h1 h2=>exact⟨_,_,_,rfl,h1,h2⟩
def lK:D->Option V
 | .bb=>some .bb
 | .aG b=>some (.aG b)
 | .int i=>some (.int i)
 | .str x=>some (.str x)
 | _=>none
def uD(r:cn H v d)(h:lK d=some w):v=w:=by
 cases r<;>simp[lK]at h<;>exact h
def iX(r:ka T d ω H x)(h:lK d=some w):x=w:=by
 rcases r with r | ⟨F,r⟩
 ·exact uD r h
 ·cases r<;>simp[lK]at h
def K':∀{vs:List V}{ds:List D}{cJ:List V},cP H vs ds->ds.mapM lK=some cJ->vs=cJ
 | _,_,_,.nil,h=>by simpa using h
 | _,_,_,.cons (d:=d) a r,h=>by
  rw[s_]at h;cases h1:lK d with
  | none=>rw[h1]at h;cases h
  | some w=>
   rw[h1]at h;change(xx lK _).bind (λxs=>some (w::xs))=some _ at h;obtain⟨cJ,ag,aF⟩:=nt.mp h;cases aF;rw[uD a h1,K' r ag]
def ans(ss:List Str):(ss.map D.str).mapM lK=some (ss.map V.str):=by
 induction ss with
 | nil=>rfl
 | cons a r b3=>rw[fM,s_,b3];rfl
def mV:D->Option bM
 | .int i=>some (.inl i)
 | .str x=>some (.inr x)
 | _=>none
def ri(r:ka T d ω H x)(h:mV d=some k):x=dF k:=by
 cases d<;>simp[mV]at h<;>subst h<;>exact iX r rfl
def fo(bR:List (bM×D))(k:bM):Option D:=(bR.find? λcO=>decide (cO.1=k)).map (·.2)
def md(bR:List (bM×D))(k:bM)(d:D):List (bM×D):=if(bR.any λcO=>decide (cO.1=k))=true then bR.map (λcO=>if cO.1=k then(cO.1,d)else cO)else bR++[(k,d)]
def dS.length:∀{vs:List (bM×V)}{ds:List (bM×D)},dS H vs ds->vs.length=ds.length
 | _,_,.nil=>rfl
 | _,_,.cons _ r=>by rw[hH,hH,dS.length r]
def dS.keys:∀{vs:List (bM×V)}{ds:List (bM×D)},dS H vs ds->vs.map (·.1)=ds.map (·.1)
 | _,_,.nil=>rfl
 | _,_,.cons _ r=>by rw[fM,fM,dS.keys r]
def dS.val:∀{vs:List (bM×V)}{ds:List (bM×D)},dS H vs ds->(fo ds k=none->kr vs k=none)/\∀d,fo ds k=some d->∃v,kr vs k=some v/\cn H v d
 | _,_,.nil=>⟨λ_=>rfl,λd h=>by cases h⟩
 | _,_,.cons (k:=eE) (v:=v) (d:=eJ) (vs:=vs) (ds:=ds) a r=>by
  obtain⟨ju,i2⟩:=dS.val (k:=k) r;unfold fo kr;rw[mv,mv];by_cases h:eE=k
  ·rw[decide_eq_true h];exact⟨λz=>(by cases z),λd z=>(by cases z;exact⟨v,rfl,a⟩)⟩
  ·rw[decide_eq_false h];exact⟨ju,i2⟩
def dS.put(cf:cn H v d)(r:dS H vs ds):dS H (et vs k v) (md ds k d):=by
 have aR:(vs.any λcO=>decide (cO.1=k))=(ds.any λcO=>decide (cO.1=k)):=by
  have e:=r.keys;clear cf;induction vs generalizing ds with
  | nil=>cases r;rfl
  | cons p vs b3=>cases r with
   | cons a r=>rw[s8,s8,b3 r r.keys]
 have PZ:dS H (vs.map λcO=>if cO.1=k then(cO.1,v)else cO) (ds.map λcO=>if cO.1=k then(cO.1,d)else cO):=by
  clear aR;induction vs generalizing ds with
  | nil=>cases r;exact .nil
  | cons p vs b3=>cases r with
   | cons a r=>
    rename_i eE aqP eJ PS;rw[fM,fM];by_cases h:eE=k
    ·simp only[h,if_true];exact .cons cf (by simpa[h]using b3 r)
    ·simp only[h,if_false];exact .cons a (b3 r)
 have ep:dS H (vs++[(k,v)]) (ds++[(k,d)]):=by
  clear aR PZ;induction vs generalizing ds with
  | nil=>cases r;exact .cons cf .nil
  | cons p vs b3=>cases r with
   | cons a r=>exact .cons a (b3 r)
 unfold et md;rw[aR];by_cases h:(ds.any λcO=>decide (cO.1=k))=true
 ·rw[if_pos h,if_pos h];exact PZ
 ·rw[if_neg h,if_neg h];exact ep
def jL.look:∀{vs:List (Str×V)}{ds:List (Str×D)},jL H vs ds->∀d,ds.lookup f=some d->∃v,vs.lookup f=some v/\cn H v d
 | _,_,.nil,d,h=>by cases h
 | _,_,.cons (k:=eE) a r,d,h=>by
  rw[k0]at h ⊢;cases e:f==eE with
  | true=>rw[e]at h;cases h;exact⟨_,rfl,a⟩
  | false=>rw[e]at h;exact r.look d h
def jL.no:∀{vs:List (Str×V)}{ds:List (Str×D)},jL H vs ds->ds.lookup f=none->vs.lookup f=none
 | _,_,.nil,h=>rfl
 | _,_,.cons (k:=eE) a r,h=>by
  rw[k0]at h ⊢;cases e:f==eE with
  | true=>rw[e]at h;cases h
  | false=>rw[e]at h;exact r.no h
end
section
variable{K:b5}
def o0{r:iJ}{f:D->D->Option D}(h:∀(T:O->Prop)(ω:cs)(H:ak)(x y:V)(dx g2 d:D)(Q:c3),ka T dx ω H x->ka T g2 ω H y->f dx g2=some d->(∀v,kb T d ω H v->Q v H)->r x y H Q):iq r f:=
 λT ω H σ ε x y dx g2 d Q e d6 eM aH k=>h T ω H x y dx g2 d Q d6 eM aH λv p=>k v H e Step.refl p
def CN{r:List V->ak->c3->Prop}{f:D->Option D}(h:∀(T:O->Prop)(ω:cs)(H:ak)(x:V)(dx d:D)(Q:c3),ka T dx ω H x->f dx=some d->(∀v,kb T d ω H v->Q v H)->r [x] H Q):ou r f:=
 λT ω H σ ε x dx d Q e d6 aH k=>h T ω H x dx d Q d6 aH λv p=>k v H e Step.refl p
def h6(C:Int->Int->Bool)(g:Int->Int->D):D->D->Option D
 | .int i,.int j=>if C i j=true then some (g i j)else none
 | _,_=>none
def Qj(h:h6 C g a b=some d):∃i j,a= .int i/\b= .int j/\C i j=true/\d=g i j:=by
 cases a<;>cases b<;>simp[h6]at h;exact⟨_,_,rfl,rfl,h.1,h.2.symm⟩
def Ee{g:Int->Int->V}{nQ:Int->Int->D}(bl:∀i j H,cn H (g i j) (nQ i j)):iq (lJ g) (h6 (λ_ _=>true) nQ):=o0 λT ω H x y dx g2 d Q d6 eM aH k=>by
 obtain⟨i,j,rfl,rfl,_,rfl⟩:=Qj aH;exact⟨i,j,iX d6 rfl,iX eM rfl,k _ (bl i j _)⟩
def TN{C:Int->Int->Prop}{Ow:Int->Int->Bool}{g:Int->Int->V}{nQ:Int->Int->D}(aL:∀i j,Ow i j=true->C i j)(bl:∀i j H,cn H (g i j) (nQ i j)):iq (p3 C g) (h6 Ow nQ):=o0 λT ω H x y dx g2 d Q d6 eM aH k=>by
 obtain⟨i,j,rfl,rfl,c,rfl⟩:=Qj aH;exact⟨i,j,iX d6 rfl,iX eM rfl,aL i j c,k _ (bl i j _)⟩
abbrev ki:=h6 (λ_ _=>true) λi j=>.int (i+j)
abbrev tP:=h6 (λi j=>decide (-(2 ^ 64)< i/\i < 2 ^ 64) || decide (-(2 ^ 64)< j/\j < 2 ^ 64)) λi j=>.int (i * j)
abbrev v4:=h6 (λ_ j=>decide (0 < j)) λi j=>.int (i % j)
abbrev v3:=h6 (λ_ _=>true) λi j=>.aG (decide (i<=j))
abbrev C7:=h6 (λ_ _=>true) λi j=>.aG (decide (j < i))
abbrev Io:=h6 (λ_ _=>true) λi j=>.aG (decide (j<=i))
def D8:iq (lJ λi j=>.int (i+j)) ki:=Ee λ_ _ _=>.int _
def ajT:iq (p3 Bz λi j=>.int (i * j)) tP:=TN (λi j h=>by
 rcases(MZ _ _).mp h with h | h
 ·exact .inl (of_decide_eq_true h)
 ·exact .inr (of_decide_eq_true h)) λ_ _ _=>.int _
def ajS:iq (p3 (λ_ j=>0 < j) λi j=>.int (i % j)) v4:=TN (λi j h=>of_decide_eq_true h) λ_ _ _=>.int _
def D_:iq (lJ λi j=>.aG (decide (i<=j))) v3:=Ee λ_ _ _=>.aG _
def ajQ:iq (lJ λi j=>.aG (decide (j < i))) C7:=Ee λ_ _ _=>.aG _
def ajP:iq (lJ λi j=>.aG (decide (j<=i))) Io:=Ee λ_ _ _=>.aG _
def vY:D->D->Option D:=λa b=>match lK a,lK b with
 | some x,some y=>if EP x y=true then some (.aG (decide (x=y)))else none
 | _,_=>none
def ajO:iq Ut vY:=o0 λT ω H x y dx g2 d Q d6 eM aH k=>by
 unfold vY at aH;cases h1:lK dx with
 | none=>rw[h1]at aH;cases aH
 | some a=>
  cases h2:lK g2 with
  | none=>rw[h1,h2]at aH;cases aH
  | some b=>
   rw[h1,h2]at aH;obtain rfl:=iX d6 h1;obtain rfl:=iX eM h2;dsimp only at aH;by_cases aS:EP x y=true
   ·rw[if_pos aS]at aH;cases aH;exact⟨aS,k _ (.aG _)⟩
   ·rw[if_neg aS]at aH;cases aH
def ER:D->Option (List D)
 | .lst ds=>some ds
 | .tup ds=>some ds
 | _=>none
def ama{H:ak}(h:ka T d ω H x)(hd:ER d=some ds):∃a vs,x= .ref a/\(cS K H a vs∨gL K H a vs)/\cP (cut (a5 T ω) H) vs ds:=by
 cases d<;>simp[ER]at hd
 ·subst hd;obtain⟨a,vs,rfl,h1,h2⟩:=jX h;exact⟨a,vs,rfl,.inl (cS.of h1),h2⟩
 ·subst hd;obtain⟨a,vs,rfl,h1,h2⟩:=p4 h;exact⟨a,vs,rfl,.inr (gL.of h1),h2⟩
def fQ(jR:Bool):D->D->Option D:=λa b=>(lK a).bind λx=>(ER b).bind λds=>(ds.mapM lK).bind λxs=>if(mP x && xs.all mP)=true then some (.aG (if jR then !wh x xs else wh x xs))else none
def m3:iq (K3 K jR) (fQ jR):=o0 λT ω H x y dx g2 d Q d6 eM aH k=>by
 obtain⟨a,h1,aH⟩:=nt.mp aH;obtain⟨ds,h2,aH⟩:=nt.mp aH;obtain⟨xs,aN,aH⟩:=nt.mp aH;obtain rfl:=iX d6 h1;obtain⟨p,vs,rfl,aS,r⟩:=ama (K:=K) eM h2;obtain rfl:=K' r aN;by_cases aL:(mP x && vs.all mP)=true
 ·rw[if_pos aL]at aH;cases aH;rw[jB]at aL;exact⟨p,vs,rfl,aS,aL.1,aL.2,k _ (.aG _)⟩
 ·rw[if_neg aL]at aH;cases aH
def aec(x:Str)(ss:List Str):fQ jR (.str x) (.lst (ss.map D.str))=some (.aG (if jR then !decide (x∈ss)else decide (x∈ss))):=by
 unfold fQ;rw[show lK (.str x)=some (.str x)from rfl,om,show ER (.lst (ss.map D.str))=some (ss.map D.str)from rfl,om,ans,om,aeX,ahP]
 rfl
def l3:D->D->Option D
 | .lst ds,.int i=>jM ds i
 | _,_=>none
def v2:D->D->Option D
 | .tup ds,.int i=>jM ds i
 | _,_=>none
def cP.jM(r:cP H vs ds)(h:jM ds i=some d):∃v,jM vs i=some v/\cn H v d:=by
 unfold bu.jM at h ⊢;rw[r.length];obtain⟨j,h1,h2⟩:=nt.mp h;obtain⟨v,aN,h4⟩:=r.get h2;exact⟨v,by rw[h1];exact aN,h4⟩
def D9:iq (n5 K) l3:=o0 λT ω H x y dx g2 d Q d6 eM aH k=>by
 cases dx<;>cases g2<;>simp[l3]at aH;obtain⟨a,vs,rfl,h1,h2⟩:=jX d6;obtain⟨v,aN,h4⟩:=h2.jM aH;exact⟨a,vs,_,v,rfl,iX eM rfl,cS.of h1,aN,k _ h4⟩
def Tz:iq (EE K) v2:=o0 λT ω H x y dx g2 d Q d6 eM aH k=>by
 cases dx<;>cases g2<;>simp[v2]at aH;obtain⟨a,vs,rfl,h1,h2⟩:=p4 d6;obtain⟨v,aN,h4⟩:=h2.jM aH;exact⟨a,vs,_,v,rfl,iX eM rfl,gL.of h1,aN,k _ h4⟩
def v1:D->D->Option D
 | .str z,.int i=>if z.length<=1000 then(jM z.cps.toList i).map λc=>.str ⟨#[c]⟩else none
 | _,_=>none
def ajR:iq Uv v1:=o0 λT ω H x y dx g2 d Q d6 eM aH k=>by
 cases dx<;>cases g2<;>simp[v1]at aH;obtain⟨h1,c,h2,rfl⟩:=aH;exact⟨_,_,c,iX d6 rfl,iX eM rfl,kA (nb h1),h2,k _ (.str _)⟩
def tN:D->D->Option D
 | .lst a,.lst b=>(n9 (a++b)).map .lst
 | _,_=>none
def Tx:iq Us tN:=λT ω H σ ε x y dx g2 d Q e d6 eM aH k=>by
 cases dx<;>cases g2<;>simp[tN]at aH;obtain⟨kZ,hz,rfl⟩:=aH;obtain⟨eH,rfl⟩:=Mr hz;obtain⟨a,vs,rfl,h1,h2⟩:=jX d6;obtain⟨b,cJ,rfl,aN,h4⟩:=jX eM;have r:=h2.append h4;refine⟨a,b,vs,cJ,rfl,rfl,h1,aN,?_,λp aB=>k _ _ (e.new aB) (e.hl aB) (q1 e aB r)⟩;rw[<- oc,r.length];exact eH
def oK:D->D->Option D
 | .str a,.str b=>if a.length+b.length<=1000 then some (.str (a++b))else none
 | _,_=>none
def Tw:iq (λx y H Q=>∃i j,x= .str i/\y= .str j/\i.length+j.length<=sizeLine/\Q (.str (i++j)) H) oK:=o0 λT ω H x y dx g2 d Q d6 eM aH k=>by
 cases dx<;>cases g2<;>simp[oK]at aH;obtain⟨h1,rfl⟩:=aH;exact⟨_,_,iX d6 rfl,iX eM rfl,kA (nb h1),k _ (.str _)⟩
def qI(g:Str->Str->Bool):D->D->Option D
 | .str a,.str b=>some (.aG (g a b))
 | _,_=>none
def Kp{g:Str->Str->Bool}:iq (λx y H Q=>∃i j,x= .str i/\y= .str j/\Q (.aG (g i j)) H) (qI g):=o0 λT ω H x y dx g2 d Q d6 eM aH k=>by
 cases dx<;>cases g2<;>simp[qI]at aH;subst aH;exact⟨_,_,iX d6 rfl,iX eM rfl,k _ (.aG _)⟩
def zZ:D->Bool
 | .bb=>true
 | _=>false
def UA{H:ak}(h:ka T d ω H x):decide (x= .bb)=zZ d:=by
 rcases h with h | ⟨F,h⟩
 ·cases h<;>simp[zZ]
 ·cases h<;>simp[zZ]
def pJ:D->Option D:=λd=>some (.aG (zZ d))
def mN:D->Option D:=λd=>some (.aG (!zZ d))
def sO{E:e5}{aP:TE}{bf:aq->aJ D}(af:mF E aP bf):b8 E (Vm aP) (bg pJ bf):=λT ω H σ ε Q e q=>by
 refine af T ω H σ ε _ e (q.then λx aC v a0 H1 _ ag s1 bc ao=>?_);show Q (.aG (decide (v= .bb))) H1;rw[UA bc];exact ao _ a0 H1 ag Step.refl (.aG _)
def Ey{E:e5}{aP:TE}{bf:aq->aJ D}(af:mF E aP bf):b8 E (Vs aP) (bg mN bf):=λT ω H σ ε Q e q=>by
 refine af T ω H σ ε _ e (q.then λx aC v a0 H1 _ ag s1 bc ao=>?_);show Q (.aG (!decide (v= .bb))) H1;rw[UA bc];exact ao _ a0 H1 ag Step.refl (.aG _)
def bw:D->D->Option D
 | .aK bR,y=>(mV y).bind λk=>fo bR k
 | _,_=>none
def gQ(jR:Bool):D->D->Option D
 | y,.aK bR=>(mV y).map λk=>.aG (if jR then !(fo bR k).isSome else(fo bR k).isSome)
 | _,_=>none
variable{E:e5}{aP tb:TE}{bf cR:aq->aJ D}
def dz(af:b8 E aP bf)(ab:b8 E tb cR):b8 E (p_ aP tb) (aI bw bf cR):=λT ω H σ ε Q e q=>by
 refine af T ω H σ ε _ e (q.then λx aC v a0 H1 _ ag s1 bc ao=>?_);refine ab T a0 H1 σ aC _ ag (ao.then λy bD u cN H2 _ aF s2 cL bZ=>?_);obtain⟨d,hd,k⟩:=bZ.opt;cases x<;>try (cases hd;done)
 obtain⟨ky,h1,h2⟩:=nt.mp (show(mV y).bind (λk=>fo _ k)=some d from hd)
 obtain⟨a,vs,rfl,aN,h4⟩:=m8 (.inl (bc.mono s2.le));obtain⟨w,cE,dY⟩:=(h4.val (k:=ky)).2 d h2;exact⟨a,w,rfl,.inl ⟨vs,ky,aN,ri (.inl cL) h1,cE.symm⟩,k w cN H2 aF Step.refl dY⟩
end
section
variable{X:bp}
def r3:ji X (.type "dict") (λxs H Q=>∃(p:O)(kvs:List (bM×V)),xs=[.ref p]/\ec H p (.a7 kvs)/\∀l,H l=none->Q (.ref l) (a1 H l (.a7 kvs))):=by
 intro aa s σ H xs us Q I r h;obtain⟨p,kvs,rfl,aB,q⟩:=h;obtain⟨u,rfl,dO⟩:=vals1 r;cases dO;exact ab6 I aB λl s' ar dX=>⟨.ref l,_,dX,rfl,q l ar⟩
def aaY:ji X (.builtin "len") (λxs H Q=>∃a kvs,xs=[V.ref a]/\ec H a (.a7 kvs)/\Q (.int kvs.length) H):=by
 intro aa s σ H xs us Q I r h;obtain⟨a,kvs,rfl,af,q⟩:=h;obtain⟨u,rfl,dO⟩:=vals1 r;cases dO;exact acm I af λt s' dX=>⟨.int kvs.length,H,dX,⟨t,rfl⟩,q⟩
def y0(aL:X.calm=true):ji X (.builtin "sorted") (λxs H Q=>∃(p:O)(kvs:List (bM×V))(ss:List Str),xs=[.ref p]/\ec H p (.a7 kvs)/\kvs.map (·.1)=ss.map hu/\ss.length < 64/\
  ∀l ss',H l=none->ss'.Perm ss->sortedS ss'=true->Q (.ref l) (a1 H l (.lst (ss'.map V.str)))):=by
 intro aa s σ H xs us Q I r h;obtain⟨p,kvs,ss,rfl,aB,nN,i_,q⟩:=h;obtain⟨u,rfl,dO⟩:=r.one;cases dO;obtain⟨z,hd,vs,rel,bN⟩:=lZ I.a' aB;obtain⟨ep,I3⟩:=bN.dictAt;have cu:X.A.in1.handled=none:=I.ok.hd aL;have PY:vs.map (·.1)=ss.map hu:=by rw[<- rel.keys];exact nN
 have eh:vs.length=ss.length:=by simpa using congrArg List.length PY
 refine U3 i_ (λR kK=>PySem.W.kdu_collect (PySem.W.kdl_dict (knd:=fG X.prog X.w) (kvs:=vs) (ep:=ep) hd) cu I3 (by rw[<- rel.length];exact z) λh' tk acc aw l8=>kK h' tk acc.toList ?_ aw) ?_
 ·refine Mo (by rw[jA,l8.1,eh]) λj u aD=>?_
  obtain⟨k,x,ah,aw⟩:=l8.2 j u (by rw[<- xm];exact aD)
  have ag:(vs.map (·.1))[j]? =some k:=by rw[ft,ah];rfl
  rw[PY,ft]at ag;obtain⟨y,b2,aF⟩:=jD.mp ag;subst aF;obtain⟨t,zr⟩:=aid aw;exact⟨y,t,b2,zr⟩
 ·intro h1 h' tk l ih e ss' en ev ar he dE so aS;obtain⟨nl,dX⟩:=I.DR (tk:=tk) en ev ar he dE (by rw[so.length_eq,k1];omega)
  exact⟨.ref l,_,dX,rfl,q l ss' nl so aS⟩
end
def cI(ss:List Str):List Str:=ss.mergeSort λa b=>!Tab.d5 b a
def SF(a b c:Str)(h1:(!Tab.d5 b a)=true)(h2:(!Tab.d5 c b)=true):(!Tab.d5 c a)=true:=by
 have ag:Tab.d5 b a=false:=by simpa using h1
 have aF:Tab.d5 c b=false:=by simpa using h2
 cases h:Tab.d5 c a with
 | false=>rfl
 | true=>
  exfalso;cases aN:Tab.d5 a b with
  | true=>rw[Tab.SW h aN]at aF;cases aF
  | false=>
   have:=Tab.DS aN ag;subst this;rw[h]at aF;cases aF
def aiA(a b:Str):((!Tab.d5 b a) || (!Tab.d5 a b))=true:=by
 cases h:Tab.d5 b a with
 | false=>rfl
 | true=>rw[Tab.SU h];rfl
def p7(ss:List Str):(cI ss).Perm ss:=List.mergeSort_perm ss _
def L'(ss:List Str):(cI ss).Pairwise λa b=>(!Tab.d5 b a)=true:=List.pairwise_mergeSort (le:=λa b=>!Tab.d5 b a) SF aiA ss
def KW:∀{l:List Str},sortedS l=true->l.Pairwise λa b=>(!Tab.d5 b a)=true
 | [],_=>.nil
 | [a],_=>List.pairwise_singleton _ _
 | a::b::l,h=>by
  have h:(!ltCps b.cps.toList a.cps.toList && risingS b l)=true:=h;rw[jB,ltCps_eq]at h;have v_:(!Tab.d5 b a)=true:=h.1;have b3:(b::l).Pairwise λa b=>(!Tab.d5 b a)=true:=KW h.2;refine Bd.mpr ⟨λc aL=>?_,b3⟩;rcases dR.mp aL with rfl | aL
  ·exact v_
  ·exact SF _ _ _ v_ ((Bd.mp b3).1 c aL)
def KX:∀{l m:List Str},l.Pairwise (λa b=>(!Tab.d5 b a)=true)->m.Pairwise (λa b=>(!Tab.d5 b a)=true)->l.Perm m->l=m
 | [],m,_,_,p=>p.nil_eq
 | a::l,[],_,_,p=>absurd p.length_eq (by simp)
 | a::l,b::m,ar,bx,p=>by
  obtain⟨ic,mY⟩:=Bd.mp ar;obtain⟨g8,hB⟩:=Bd.mp bx;have e:a=b:=by
   have af:a∈b::m:=p.subset (by simp)
   have ab:b∈a::l:=p.symm.subset (by simp)
   rcases dR.mp af with e | af
   ·exact e
   ·rcases dR.mp ab with e | ab
    ·exact e.symm
    ·have h1:Tab.d5 b a=false:=by simpa using ic b ab
     have h2:Tab.d5 a b=false:=by simpa using g8 a af
     exact Tab.DS h2 h1
  subst e;rw[KX mY hB (List.perm_cons a |>.mp p)]
def U2{ss ss':List Str}(p:ss'.Perm ss)(h:sortedS ss'=true):ss'=cI ss:=KX (KW h) (L' ss) (p.trans (p7 ss).symm)
def bN:List Str->List Str
 | []=>[]
 | a::l=>if a∈l then bN l else a::bN l
def z_{x:Str}:∀{l:List Str},x∈bN l↔x∈l
 | []=>Iff.rfl
 | a::l=>by
  unfold bN;by_cases h:a∈l
  ·rw[if_pos h,z_,dR];exact⟨.inr,λz=>z.elim (λz=>by rw[z];exact h) id⟩
  ·rw[if_neg h,dR,dR,z_]
def Ki:∀{l:List Str},(bN l).Nodup
 | []=>WV
 | a::l=>by
  unfold bN;by_cases h:a∈l
  ·rw[if_pos h];exact Ki
  ·rw[if_neg h];exact nr.mpr ⟨λz=>h (z_.mp z),Ki⟩
def ano{ss ss':List Str}(a4:ss'.Nodup)(m:∀y,y∈ss'↔y∈ss)(h:sortedS ss'=true):ss'=cI (bN ss):=by
 refine KX (KW h) (L' _) (.trans ?_ (p7 _).symm);exact(List.perm_ext_iff_of_nodup a4 Ki).mpr λy=>by rw[m y,z_]
section
variable{K:b5}
def g5:D->Option D
 | .lst ds=>some (.int ds.length)
 | .tup ds=>some (.int ds.length)
 | _=>none
def vK:ou (λxs H Q=>∃p ys,xs=[V.ref p]/\(cS K H p ys∨gL K H p ys)/\Q (.int ys.length) H) g5:=CN λT ω H x dx d Q d6 aH k=>by
 cases dx<;>simp[g5]at aH
 ·subst aH;obtain⟨a,vs,rfl,h1,h2⟩:=jX d6;exact⟨a,vs,rfl,.inl (cS.of h1),by rw[h2.length];exact k _ (.int _)⟩
 ·subst aH;obtain⟨a,vs,rfl,h1,h2⟩:=p4 d6;exact⟨a,vs,rfl,.inr (gL.of h1),by rw[h2.length];exact k _ (.int _)⟩
def r9:D->Option D
 | .str z=>if z.length<=1000 then some (.int z.length)else none
 | _=>none
def Hu:ou (λxs H Q=>∃z,xs=[V.str z]/\z.length<=sizeLine/\Q (.int z.length) H) r9:=CN λT ω H x dx d Q d6 aH k=>by
 cases dx<;>simp[r9]at aH;obtain⟨h1,rfl⟩:=aH;obtain rfl:=iX d6 rfl;exact⟨_,rfl,kA (nb h1),k _ (.int _)⟩
def r_:D->Option D
 | .lst ds=>some (.lst ds)
 | .tup ds=>some (.lst ds)
 | _=>none
def Hv:ou (λxs H Q=>∃p ys,xs=[V.ref p]/\(cS K H p ys∨gL K H p ys)/\∀l,H l=none->Q (.ref l) (a1 H l (.lst ys))) r_:=λT ω H σ ε x dx d Q e d6 aH k=>by
 cases dx<;>simp[r_]at aH
 ·subst aH;obtain⟨a,vs,rfl,h1,h2⟩:=jX d6;exact⟨a,vs,rfl,.inl (cS.of h1),λl ar=>k _ _ (e.new ar) (e.hl ar) (q1 e ar h2)⟩
 ·subst aH;obtain⟨a,vs,rfl,h1,h2⟩:=p4 d6;exact⟨a,vs,rfl,.inr (gL.of h1),λl ar=>k _ _ (e.new ar) (e.hl ar) (q1 e ar h2)⟩
def Iv:D->Option D
 | .lst ds=>some (.tup ds)
 | _=>none
def aa4:ou (λxs H Q=>∃p ys,xs=[V.ref p]/\((cS K H p ys/\∀l,H l=none->Q (.ref l) (a1 H l (.tup ys)))∨(gL K H p ys/\Q (.ref p) H))) Iv:=λT ω H σ ε x dx d Q e d6 aH k=>by
 cases dx<;>simp[Iv]at aH;subst aH;obtain⟨a,vs,rfl,h1,h2⟩:=jX d6;exact⟨a,vs,rfl,.inl ⟨cS.of h1,λl ar=>k _ _ (e.new ar) (e.hl ar) (Kh e ar h2)⟩⟩
def zt:D->Option D
 | .aK ds=>some (.aK ds)
 | _=>none
def hr:D->Option Str
 | .str x=>some x
 | _=>none
def rj:∀{vs:List V}{ds:List D}{ss:List Str},cP H vs ds->ds.mapM hr=some ss->vs=ss.map V.str
 | _,_,ss,.nil,h=>by cases h;rfl
 | _,_,ss,.cons (d:=d) a r,h=>by
  rw[s_]at h;cases h1:hr d with
  | none=>rw[h1]at h;cases h
  | some w=>
   rw[h1]at h;change(xx hr _).bind (λxs=>some (w::xs))=some _ at h;obtain⟨cJ,ag,aF⟩:=nt.mp h;cases aF;rw[rj r ag];cases d<;>simp[hr]at h1;subst h1;rw[uD a rfl];rfl
def EH(H:ak):∀(ss:List Str),cP H (ss.map V.str) (ss.map D.str)
 | []=>.nil
 | x::ss=>.cons (.str x) (EH H ss)
def rn(ss:List Str):(ss.map D.str).mapM hr=some ss:=by
 induction ss with
 | nil=>rfl
 | cons a r b3=>rw[fM,s_,b3];rfl
def mO:D->Option D
 | .lst ds=>(ds.mapM hr).bind λss=>if ss.length < 64 then some (.lst ((cI ss).map .str))else none
 | _=>none
def C_{ss:List Str}(h:ss.length < 64):mO (.lst (ss.map .str))=some (.lst ((cI ss).map .str)):=by
 show((ss.map D.str).mapM hr).bind _=_;rw[rn,om,if_pos h]
def y3:ou (λxs H Q=>∃(p:O)(ss:List Str),xs=[V.ref p]/\H p=some (.lst (ss.map V.str))/\ss.length < 64/\
  ∀l ss',H l=none->ss'.Perm ss->sortedS ss'=true->Q (.ref l) (a1 H l (.lst (ss'.map V.str)))) mO:=λT ω H σ ε x dx d Q e d6 aH k=>by
 cases dx<;>try (cases aH;done)
 obtain⟨ss,h1,h2⟩:=nt.mp (show Option.bind _ (λss=>_)=some d from aH)
 by_cases i_:ss.length < 64
 ·rw[if_pos i_]at h2;cases h2;obtain⟨a,vs,rfl,aN,h4⟩:=jX d6;obtain rfl:=rj h4 h1;refine⟨a,ss,rfl,aN,i_,λl ss' ar aB aS=>?_⟩;rw[U2 aB aS];exact k _ _ (e.new ar) (e.hl ar) (q1 e ar (EH _ _))
 ·rw[if_neg i_]at h2;cases h2
def z1:bM->Option Str
 | .inr x=>some x
 | _=>none
def Ss:∀{ks:List bM}{ss:List Str},ks.mapM z1=some ss->ks=ss.map hu
 | [],ss,h=>by cases h;rfl
 | k::ks,ss,h=>by
  rw[s_]at h;cases k with
  | inl i=>cases h
  | inr w=>
   change(xx z1 _).bind (λxs=>some (w::xs))=some _ at h;obtain⟨cJ,ag,aF⟩:=nt.mp h;cases aF;rw[Ss ag];rfl
def aif(ss:List Str):(ss.map (hu (α:=Int))).mapM z1=some ss:=by
 induction ss with
 | nil=>rfl
 | cons a r b3=>rw[fM,s_,b3];rfl
def l4:D->Option D
 | .aK ds=>((ds.map (·.1)).mapM z1).bind λss=>if ss.length < 64 then some (.lst ((cI ss).map .str))else none
 | _=>none
def y4:ou (λxs H Q=>∃(p:O)(kvs:List (bM×V))(ss:List Str),xs=[V.ref p]/\ec H p (.a7 kvs)/\kvs.map (·.1)=ss.map hu/\ss.length < 64/\
  ∀l ss',H l=none->ss'.Perm ss->sortedS ss'=true->Q (.ref l) (a1 H l (.lst (ss'.map V.str)))) l4:=λT ω H σ ε x dx d Q e d6 aH k=>by
 cases dx<;>try (cases aH;done)
 obtain⟨ss,h1,h2⟩:=nt.mp (show Option.bind _ (λss=>_)=some d from aH)
 by_cases i_:ss.length < 64
 ·rw[if_pos i_]at h2;cases h2;obtain⟨a,vs,rfl,aN,h4⟩:=m8 d6;refine⟨a,vs,ss,rfl,aN,by rw[h4.keys];exact Ss h1,i_,λl ss' ar aB aS=>?_⟩
  rw[U2 aB aS];exact k _ _ (e.new ar) (e.hl ar) (q1 e ar (EH _ _))
 ·rw[if_neg i_]at h2;cases h2
def zv:D->Option D
 | .lst ds=>(ds.mapM hr).bind λss=>if ss.length < 64/\ss≠[]then some (.lst ((cI (bN ss)).map .str))else none
 | _=>none
def KS{E:e5}{w:cH}{aP:TE}{bf:aq->aJ D}(af:mF E aP bf):b8 E (kp (λxs H Q=>∃(p:O)(ss:List Str),xs=[.ref p]/\H p=some (vv w p ss)/\ss.length < 64/\
  ∀l ss',H l=none->ss'.Nodup->(∀y,y∈ss'↔y∈ss)->sortedS ss'=true->Q (.ref l) (a1 H l (.lst (ss'.map V.str)))) (gd (kp (λxs H Q=>∃(p:O)(ss:List Str),xs=[.ref p]/\H p=some (.lst (ss.map V.str))/\ss≠[]/\ss.length < 4000/\∀l,H l=none->Q (.ref l) (a1 H l (vv w l ss))) (gd aP gy)) gy)) (bg zv bf):=λT ω H σ ε Q e q=>by
 refine af T ω H σ ε _ e (q.then λx aC v a0 H1 _ ag s1 bc ao=>?_);obtain⟨d,aH,k⟩:=ao.opt;cases x<;>try (cases aH;done)
 obtain⟨ss,h1,h2⟩:=nt.mp (show Option.bind _ (λss=>_)=some d from aH)
 by_cases i_:ss.length < 64/\ss≠[]
 ·rw[if_pos i_]at h2;cases h2;obtain⟨a,vs,rfl,aN,h4⟩:=jX bc;obtain rfl:=rj h4 h1;refine⟨a,ss,rfl,aN,i_.2,by omega,λl ar=>⟨l,ss,rfl,cw,i_.1,λmY ss' nS a4 ei aS=>?_⟩⟩
  rw[ano a4 ei aS];have aF:=ag.new (o:=vv w l ss) ar;exact k _ a0 _ (aF.new nS) ((ag.hl ar).trans (aF.hl nS)) (q1 aF nS (EH _ _))
 ·rw[if_neg i_]at h2;cases h2
def oL:D->Option D
 | .lst ds=>(ds.mapM hL).map λbs=>.aG (bs.all id)
 | _=>none
def Il:D->Option D
 | .lst ds=>(ds.mapM hL).map λbs=>.aG (bs.any id)
 | _=>none
def K9:∀{vs:List V}{ds:List D}{ss:List Bool},cP H vs ds->ds.mapM hL=some ss->vs=ss.map V.aG
 | _,_,ss,.nil,h=>by cases h;rfl
 | _,_,ss,.cons (d:=d) a r,h=>by
  rw[s_]at h;cases h1:hL d with
  | none=>rw[h1]at h;cases h
  | some w=>
   rw[h1]at h;change(xx hL _).bind (λxs=>some (w::xs))=some _ at h;obtain⟨cJ,ag,aF⟩:=nt.mp h;cases aF;rw[K9 r ag,EG a h1];rfl
def Ph(bs:List Bool):(bs.map D.aG).mapM hL=some bs:=by
 induction bs with
 | nil=>rfl
 | cons a r b3=>rw[fM,s_,b3];rfl
def y2:ou (λxs H Q=>∃(p:O)(bs:List Bool),xs=[V.ref p]/\H p=some (.lst (bs.map V.aG))/\Q (.aG (bs.all id)) H) oL:=CN λT ω H x dx d Q d6 aH k=>by
 cases dx<;>simp[oL]at aH;obtain⟨bs,h1,rfl⟩:=aH;obtain⟨a,vs,rfl,aN,h4⟩:=jX d6;obtain rfl:=K9 h4 h1;exact⟨a,bs,rfl,aN,k _ (.aG _)⟩
def aa3:ou (λxs H Q=>∃(p:O)(bs:List Bool),xs=[V.ref p]/\H p=some (.lst (bs.map V.aG))/\Q (.aG (bs.any id)) H) Il:=CN λT ω H x dx d Q d6 aH k=>by
 cases dx<;>simp[Il]at aH;obtain⟨bs,h1,rfl⟩:=aH;obtain⟨a,vs,rfl,aN,h4⟩:=jX d6;obtain rfl:=K9 h4 h1;exact⟨a,bs,rfl,aN,k _ (.aG _)⟩
end
section
variable{K:b5}{E:e5}{aP tb hT:TE}{bf cR kz:aq->aJ D}
def dS.U1(r:dS H vs ds):(kr vs k).isSome=(fo ds k).isSome:=by
 cases h:fo ds k with
 | none=>rw[(r.val (k:=k)).1 h];rfl
 | some d=>obtain⟨v,h1,_⟩:=(r.val (k:=k)).2 d h;rw[h1];rfl
def ra(af:b8 E aP bf)(ab:mF E tb cR):b8 E (Vi aP tb) (aI (gQ false) bf cR):=λT ω H σ ε Q e q=>by
 refine af T ω H σ ε _ e (q.then λy aC v a0 H1 _ ag s1 bc ao=>?_);refine ab T a0 H1 σ aC _ ag (ao.then λx bD u cN H2 _ aF s2 cL bZ=>?_);obtain⟨d,hd,k⟩:=bZ.opt;cases x<;>try (simp[gQ]at hd;done)
 obtain⟨ky,h1,rfl⟩:=jD.mp (show(mV y).map (λk=>D.aG ((fo _ k).isSome))=some d from hd)
 obtain⟨a,vs,rfl,aN,h4⟩:=m8 cL;refine⟨a,_,rfl,.inl ⟨vs,ky,aN,ri (.inl bc) h1,rfl⟩,?_⟩;rw[h4.U1];exact k _ cN H2 aF Step.refl (.aG _)
def Ew(af:b8 E aP bf)(ab:mF E tb cR):b8 E (Vj aP tb) (aI (gQ true) bf cR):=λT ω H σ ε Q e q=>by
 refine af T ω H σ ε _ e (q.then λy aC v a0 H1 _ ag s1 bc ao=>?_);refine ab T a0 H1 σ aC _ ag (ao.then λx bD u cN H2 _ aF s2 cL bZ=>?_);obtain⟨d,hd,k⟩:=bZ.opt;cases x<;>try (simp[gQ]at hd;done)
 obtain⟨ky,h1,rfl⟩:=jD.mp (show(mV y).map (λk=>D.aG (!(fo _ k).isSome))=some d from hd)
 obtain⟨a,vs,rfl,aN,h4⟩:=m8 cL;refine⟨a,_,rfl,.inl ⟨vs,ky,aN,ri (.inl bc) h1,rfl⟩,?_⟩;rw[h4.U1];exact k _ cN H2 aF Step.refl (.aG _)
def dS.getOr(r:dS H vs ds)(n6:cn H z adN):cn H ((kr vs k).getD z) ((fo ds k).getD adN):=by
 cases h:fo ds k with
 | none=>rw[(r.val (k:=k)).1 h];exact n6
 | some d=>obtain⟨v,h1,h2⟩:=(r.val (k:=k)).2 d h;rw[h1];exact h2
def r7(bf cR:aq->aJ D)(aoJ:aq->aJ D):aq->aJ D:=λε=>(bf ε).bind λa aC=>match a with
 | .aK bR=>(cR aC).bind λy bD=>(aoJ bD).bind λz gW=>dv ((mV y).map λk=>(fo bR k).getD z) gW
 | _=>.no
def Uj(af:b8 E aP bf)(ab:b8 E tb cR):b8 E (Vg aP tb) (r7 bf cR (aT .bb)):=λT ω H σ ε Q e q=>by
 refine af T ω H σ ε _ e (q.then λx aC v a0 H1 _ ag s1 bc ao=>?_);cases x<;>try (exact ao.elim)
 obtain⟨a,vs,rfl,aN,h4⟩:=m8 (.inl bc);refine⟨a,rfl,.inl ⟨vs,aN⟩,?_⟩;refine ab T a0 H1 σ aC _ ag (dJ.then ao λy bD u cN H2 _ aF s2 cL bZ=>?_);obtain⟨d,hd,k⟩:=dJ.opt (show dJ E T cN H2 σ (dv ((mV y).map λk=>(fo _ k).getD .bb) bD) (kb T) Q from bZ)
 obtain⟨ky,h1,rfl⟩:=jD.mp hd;obtain⟨iu,ih,aR,cE,dY⟩:=m8 (.inl (bc.mono s2.le));cases aR;exact⟨_,.inl ⟨ih,ky,cE,ri (.inl cL) h1,rfl⟩,k _ cN H2 aF Step.refl (dY.getOr .bb)⟩
def alJ(af:b8 E aP bf)(ab:b8 E tb cR)(aL:b8 E hT kz):b8 E (Vh aP tb hT) (r7 bf cR kz):=λT ω H σ ε Q e q=>by
 refine af T ω H σ ε _ e (q.then λx aC v a0 H1 _ ag s1 bc ao=>?_);cases x<;>try (exact ao.elim)
 obtain⟨a,vs,rfl,aN,h4⟩:=m8 (.inl bc);refine⟨a,rfl,.inl ⟨vs,aN⟩,?_⟩;refine ab T a0 H1 σ aC _ ag (dJ.then ao λy bD u cN H2 _ aF s2 cL bZ=>?_);refine aL T cN H2 σ bD _ aF (dJ.then bZ λz gW w lQ H3 _ cU s3 iV fk=>?_);obtain⟨d,hd,k⟩:=dJ.opt fk;obtain⟨ky,h1,rfl⟩:=jD.mp hd;obtain⟨iu,ih,aR,cE,dY⟩:=m8 (.inl ((bc.mono s2.le).mono s3.le));cases aR;exact⟨_,.inl ⟨ih,ky,cE,ri (.inl (cL.mono s3.le)) h1,rfl⟩,k _ lQ H3 cU Step.refl (dY.getOr iV)⟩
def vt(E:e5)(t:TO)(δ:aq->aJ (Option Int)):Prop:=∀(T:O->Prop)(ω:cs)(H:ak)(σ:St)(ε:aq)(Q:Option Int->ak->Prop),bh T ω H σ ε->dJ E T ω H σ (δ ε) (λb _ _ c=>c=b) Q->t σ H Q
def Ex:vt E Vq (λε=>.ok none ε):=λT ω H σ ε Q e q=>q none ω H e Step.refl rfl
def aaz:D->Option Int
 | .int i=>some i
 | _=>none
def kf(δ:aq->aJ D):aq->aJ (Option Int):=λε=>(δ ε).bind λa aC=>dv ((aaz a).map some) aC
def Ez(af:b8 E aP bf):vt E (Vv aP) (kf bf):=λT ω H σ ε Q e q=>by
 refine af T ω H σ ε _ e (q.then λx aC v a0 H1 _ ag s1 bc ao=>?_);obtain⟨d,hd,k⟩:=ao.opt;cases x<;>try (cases hd;done)
 cases hd;exact⟨_,uD bc rfl,k _ a0 H1 ag Step.refl rfl⟩
def cutD(xs:List D)(lo au:Option Int):List D:=(xs.drop (hv.iY xs.length 0 lo)).take (hv.iY xs.length xs.length au - hv.iY xs.length 0 lo)
def jo(f:D->Option Int->Option Int->Option D)(δ:aq->aJ D)(uU uT:aq->aJ (Option Int)):aq->aJ D:=λε=>(δ ε).bind λa aC=>(uU aC).bind λl bD=>(uT bD).bind λh gW=>dv (f a l h) gW
def tS:D->Option Int->Option Int->Option D
 | .lst ds,l,h=>some (.lst (cutD ds l h))
 | _,_,_=>none
def cP.cut(r:cP H vs ds):cP H (r4 vs l h) (cutD ds l h):=by
 unfold r4 cutD;rw[r.length];exact(r.drop _).take _
def Ul{gz kq:TO}{uU uT:aq->aJ (Option Int)}(af:b8 E aP bf)(ar:vt E gz uU)(cu:vt E kq uT):b8 E (MB (Ux K) aP gz kq) (jo tS bf uU uT):=λT ω H σ ε Q e q=>by
 refine af T ω H σ ε _ e (q.then λx aC v a0 H1 _ ag s1 bc ao=>?_);refine ar T a0 H1 σ aC _ ag (dJ.then ao λy bD u cN H2 _ aF s2 cL bZ=>?_);refine cu T cN H2 σ bD _ aF (dJ.then bZ λz gW w lQ H3 _ cU s3 iV fk=>?_);obtain⟨d,hd,k⟩:=dJ.opt fk;obtain rfl:u=y:=cL;obtain rfl:w=z:=iV;cases x<;>try (cases hd;done)
 cases hd;obtain⟨a,vs,rfl,h1,h2⟩:=jX (.inl ((bc.mono s2.le).mono s3.le));exact⟨a,vs,rfl,cS.of h1,λp aB=>k _ lQ _ (cU.new aB) (cU.hl aB) (q1 cU aB h2.cut)⟩
def oN:D->Option Int->Option Int->Option D
 | .str z,l,h=>if z.length<=1000 then some (.str (nv z l h))else none
 | _,_,_=>none
def Um{gz kq:TO}{uU uT:aq->aJ (Option Int)}(af:b8 E aP bf)(ar:vt E gz uU)(cu:vt E kq uT):b8 E (MB Uy aP gz kq) (jo oN bf uU uT):=λT ω H σ ε Q e q=>by
 refine af T ω H σ ε _ e (q.then λx aC v a0 H1 _ ag s1 bc ao=>?_);refine ar T a0 H1 σ aC _ ag (dJ.then ao λy bD u cN H2 _ aF s2 cL bZ=>?_);refine cu T cN H2 σ bD _ aF (dJ.then bZ λz gW w lQ H3 _ cU s3 iV fk=>?_);obtain⟨d,hd,k⟩:=dJ.opt fk;obtain rfl:u=y:=cL;obtain rfl:w=z:=iV;cases x<;>try (cases hd;done)
 rename_i z _;change(if z.length<=1000 then some (D.str (nv z u w))else none)=some d at hd
 by_cases h1:z.length<=1000
 ·rw[if_pos h1]at hd;cases hd;exact⟨z,uD bc rfl,kA (nb h1),k _ lQ H3 cU Step.refl (.str _)⟩
 ·rw[if_neg h1]at hd;cases hd
def e8(C:O)(f:Str):D->Option D
 | .ins dp fs=>if dp=C then fs.lookup f else none
 | _=>none
def jw{C:O}{f:Str}(cl:jG K C)(n:fv K C f)(af:b8 E aP bf):b8 E (E3 K aP f) (bg (e8 C f) bf):=λT ω H σ ε Q e q=>by
 refine af T ω H σ ε _ e (q.then λx aC v a0 H1 _ ag s1 bc ao=>?_);obtain⟨d,hd,k⟩:=ao.opt;cases x<;>try (cases hd;done)
 rename_i dp fs _;change(if dp=C then fs.lookup f else none)=some d at hd
 by_cases aL:dp=C
 ·subst aL;rw[if_pos rfl]at hd;obtain⟨a,dx,vs,rfl,h1,h2⟩:=EF (.inl bc);obtain⟨w,aN,h4⟩:=h2.look d hd;exact⟨a,dp,dx,vs,w,rfl,h1,cl,n,aN,k w a0 H1 ag Step.refl h4⟩
 ·rw[if_neg aL]at hd;cases hd
def aev:D->Option Bool
 | .bb=>some false
 | .aG b=>some b
 | .int i=>some (i !=0)
 | .str y=>if y.length<=1000 then some ((y.length:Int) !=0)else none
 | .lst ds=>some (!ds.isEmpty)
 | .tup ds=>some (!ds.isEmpty)
 | _=>none
def vV(δ:aq->aJ D):aq->aJ Bool:=λε=>(δ ε).bind λa aC=>dv (aev a) aC
def cP.isEmpty(r:cP H vs ds):vs.isEmpty=ds.isEmpty:=by cases r<;>rfl
def KU(af:mF E aP bf):jK E (λσ H Q=>aP σ H λx H'=>∃k,Cu K x H' k/\Q k H') (vV bf):=λT ω H σ ε Q e q=>by
 refine af T ω H σ ε _ e (q.then λx aC v a0 H1 _ ag s1 bc ao=>?_);obtain⟨d,hd,k⟩:=ao.opt;cases x<;>try (cases hd;done)
 ·cases hd;obtain rfl:=iX bc rfl;exact⟨false,rfl,k _ a0 H1 ag Step.refl rfl⟩
 ·cases hd;obtain rfl:=iX bc rfl;exact⟨_,rfl,k _ a0 H1 ag Step.refl rfl⟩
 ·cases hd;obtain rfl:=iX bc rfl;exact⟨_,rfl,k _ a0 H1 ag Step.refl rfl⟩
 ·rename_i y _;change(if y.length<=1000 then some ((y.length:Int) !=0)else none)=some d at hd
  by_cases h:y.length<=1000
  ·rw[if_pos h]at hd;cases hd;obtain rfl:=iX bc rfl;exact⟨_,⟨kA (nb h),rfl⟩,k _ a0 H1 ag Step.refl rfl⟩
  ·rw[if_neg h]at hd;cases hd
 ·cases hd;obtain⟨a,vs,rfl,h1,h2⟩:=jX bc;exact⟨_,.inl ⟨vs,cS.of h1,by rw[h2.isEmpty]⟩,k _ a0 H1 ag Step.refl rfl⟩
 ·cases hd;obtain⟨a,vs,rfl,h1,h2⟩:=p4 bc;exact⟨_,.inr (.inl ⟨vs,gL.of h1,by rw[h2.isEmpty]⟩),k _ a0 H1 ag Step.refl rfl⟩
end
def lG(ω:cs)(pick:Nat->Option Nat):cs:=λj=>match pick j with
 | some i=>ω i
 | none=>[]
def gk(T:O->Prop)(ω:cs)(pick:Nat->Option Nat):O->Prop:=λa=>a5 T ω a/\¬∃j,a∈lG ω pick j
def sF{pick:Nat->Option Nat}{a:O}(h:a∈lG ω pick j):∃i,pick j=some i/\a∈ω i:=by
 unfold lG at h;cases aB:pick j with
 | none=>rw[aB]at h;cases h
 | some i=>rw[aB]at h;exact⟨i,rfl,h⟩
def xb{pick:Nat->Option Nat}:a5 (gk T ω pick) (lG ω pick)=a5 T ω:=by
 funext a;refine propext ⟨λh=>?_,λh=>?_⟩
 ·rcases h with h | ⟨j,h⟩
  ·exact h.1
  ·obtain⟨i,_,h2⟩:=sF h;exact .inr ⟨i,h2⟩
 ·by_cases z:∃j,a∈lG ω pick j
  ·exact .inr z
  ·exact .inl ⟨h,z⟩
section
variable{T:O->Prop}{ω cN:cs}{H H2:ak}{σ s5:St}{ε uV oa ε':aq}{pick:Nat->Option Nat}
def bh.sub(e:bh T ω H σ ε)(inj:∀j j' i,pick j=some i->pick j'=some i->j=j')(len:s5.length=uV.length)
  (own:∀(j:Nat)(d:D),uV[j]? =some (some (true,d))->∃i,pick j=some i/\ε[i]? =some (some (true,d))/\s5[j]? =σ[i]?)
  (pl:∀(j:Nat)(d:D),uV[j]? =some (G d)->∃v,s5[j]? =some (some v)/\cn (cut (a5 T ω) H) v d):bh (gk T ω pick) (lG ω pick) H s5 uV:=by
 refine⟨len,λj j' a h h'=>?_,λj a h z=>z.2 ⟨j,h⟩,λa h=>e.al a (by rw[<- xb (pick:=pick)];exact h),λj d h=>?_,λj d h=>?_,λa h=>⟨.inl (e.c7 a h),λ⟨j,z⟩=>(by
  obtain⟨i,_,h2⟩:=sF z;exact e.ee i a h2 (e.c7 a h))⟩,e.bB⟩
 ·obtain⟨i,h1,h2⟩:=sF h;obtain⟨ua,aN,h4⟩:=sF h';have:=e.jl i ua a h2 h4;subst this;exact inj j j' i h1 aN
 ·obtain⟨i,h1,h2,aN⟩:=own j d h;obtain⟨v,h4,cE⟩:=e.own i d h2;refine⟨v,by rw[aN];exact h4,?_⟩
  rw[xb,show lG ω pick j=ω i by unfold lG;rw[h1]]
  exact cE
 ·obtain⟨v,h1,h2⟩:=pl j d h;exact⟨v,h1,by rw[xb];exact h2⟩
open Classical in
noncomputable def km (ω cN:cs) (pick:Nat->Option Nat):cs:=λi=>if h:∃j,pick j=some i then cN h.choose else ω i
def wC(inj:∀j j' i,pick j=some i->pick j'=some i->j=j'){i j:Nat}(h:pick j=some i):km ω cN pick i=cN j:=by
 have z:∃j,pick j=some i:=⟨j,h⟩;unfold km;rw[dif_pos z,inj _ _ _ z.choose_spec h]
def wB(h:¬∃j,pick j=some i):km ω cN pick i=ω i:=dif_neg h
def gk.Kq(e:bh T ω H σ ε)(h:T a):gk T ω pick a:=⟨.inl h,λ⟨j,z⟩=>by
 obtain⟨i,_,h2⟩:=sF z;exact e.ee i a h2 h⟩
def gk.D'(e:bh T ω H σ ε){a:O}{i:Nat}(h:a∈ω i)(n:¬∃j,pick j=some i):gk T ω pick a:=⟨.inr ⟨i,h⟩,λ⟨j,z⟩=>by
 obtain⟨ua,h1,h2⟩:=sF z;have:=e.jl i ua a h h2;subst this;exact n ⟨j,h1⟩⟩
def an_(e:bh T ω H σ ε)(inj:∀j j' i,pick j=some i->pick j'=some i->j=j')(h:a5 T (km ω cN pick) a):a5 (gk T ω pick) cN a:=by
 rcases h with h | ⟨i,h⟩
 ·exact .inl (gk.Kq e h)
 ·by_cases z:∃j,pick j=some i
  ·obtain⟨j,a2⟩:=z;rw[wC inj a2]at h;exact .inr ⟨j,h⟩
  ·rw[wB z]at h;exact .inl (gk.D' e h z)
def bh.out(e:bh T ω H σ ε)(inj:∀j j' i,pick j=some i->pick j'=some i->j=j')(aF:bh (gk T ω pick) cN H2 aoN oa)(s:Step (gk T ω pick) (lG ω pick) H cN H2)(len:ε'.length=ε.length)
  (un:∀(i:Nat),(¬∃j,pick j=some i)->ε'[i]? =ε[i]?)(T_:∀(i j:Nat),pick j=some i->aoN[j]? =σ[i]? /\∃d,oa[j]? =some (some (true,d))/\ε'[i]? =some (some (true,d))):
  bh T (km ω cN pick) H2 σ ε'/\Step T ω H (km ω cN pick) H2/\∀v d,cn (cut (a5 (gk T ω pick) cN) H2) v d->cn (cut (a5 T (km ω cN pick)) H2) v d:=by
 have sq:∀a,a5 T (km ω cN pick) a->a5 (gk T ω pick) cN a:=λa=>an_ e inj;have Jg:=s.le;rw[xb]at Jg;refine⟨⟨by rw[len];exact e.len,λi ua a h h'=>?_,λi a h z=>?_,λa h=>aF.al a (sq a h),λi d h=>?_,λi d h=>?_,e.c7,aF.bB⟩,⟨λa o h q=>?_,λa h=>s.same a (gk.Kq e h),s.c8⟩,λv d r=>r.mono (gE sq)⟩
 ·by_cases z:∃j,pick j=some i
  ·obtain⟨j,a2⟩:=z;rw[wC inj a2]at h;by_cases z':∃j,pick j=some ua
   ·obtain⟨j',sm⟩:=z';rw[wC inj sm]at h';have:=aF.jl j j' a h h';subst this;rw[a2]at sm;exact hW sm
   ·rw[wB z']at h';exact absurd (gk.D' e h' z') (aF.ee j a h)
  ·rw[wB z]at h;by_cases z':∃j,pick j=some ua
   ·obtain⟨j',sm⟩:=z';rw[wC inj sm]at h';exact absurd (gk.D' e h z) (aF.ee j' a h')
   ·rw[wB z']at h';exact e.jl i ua a h h'
 ·by_cases z':∃j,pick j=some i
  ·obtain⟨j,a2⟩:=z';rw[wC inj a2]at h;exact aF.ee j a h (gk.Kq e z)
  ·rw[wB z']at h;exact e.ee i a h z
 ·by_cases z:∃j,pick j=some i
  ·obtain⟨j,a2⟩:=z;obtain⟨h1,d',h2,aN⟩:=T_ i j a2;rw[aN]at h;cases h;obtain⟨v,h4,cE⟩:=aF.own j d h2;rw[h1]at h4;exact⟨v,h4,by rw[wC inj a2];exact cE.mono (gE sq) λ_ _=>rfl⟩
  ·rw[un i z]at h;obtain⟨v,h4,cE⟩:=e.own i d h;refine⟨v,h4,?_⟩;rw[wB z];exact(cE.mono Jg λa af=>s.same a (gk.D' e af z) (λbm=>e.ee i a af (e.c7 a bm))).mono (gE sq) λ_ _=>rfl
 ·by_cases z:∃j,pick j=some i
  ·obtain⟨j,a2⟩:=z;obtain⟨h1,d',h2,aN⟩:=T_ i j a2;rw[aN]at h;cases h
  ·rw[un i z]at h;obtain⟨v,h4,cE⟩:=e.pl i d h;exact⟨v,h4,(cE.mono Jg).mono (gE sq)⟩
 ·have h':¬a5 (gk T ω pick) (lG ω pick) a:=by rw[xb];exact h
  obtain⟨h1,h2⟩:=s.keep a o h' q;exact⟨λz=>h1 (sq a z),h2⟩
end
inductive b' where
 | no | ok(d:D) | cp(C:O)(fs:List (Str×V))
inductive k7 where
 | no | ok(d b:D) | cp(C:O)(fs:List (Str×V))
structure fO(H H':ak):Prop where
 keep:∀a o,¬bk.v a->H a=some o->H' a=some o
 c8:∀a,H' a=none->H a=none
 bB:bk.i H'
structure tB(b:O)(H H':ak):Prop where
 keep:∀a o,¬bk.v a->a≠b->H a=some o->H' a=some o
 c8:∀a,H' a=none->H a=none
 bB:bk.i H'
def bV(F:List D->b'):e4:=λvs H Q E=>∃(U:O->Prop)(ds:List D),cP (cut U H) vs ds/\(∀a,U a->H a≠none)/\(∀a,bk.v a->U a)/\bk.i H/\(match F ds with
 | .no=>False
 | .ok d=>∀v H',fO H H'->cn (cut U H') v d->Q v H'
 | .cp C fs=>∀x H',fO H H'->H' x=some (jH x fs)->E (.ref C) (some x) H')
def mj(F:D->List D->k7):e4:=λvs H Q E=>∃(U:O->Prop)(b:O)(cJ:List V)(eJ:D)(ds:List D),vs= .ref b::cJ/\¬U b/\eI (λa=>U a∨a=b) H (.ref b) eJ [b]/\cP (cut (λa=>U a∨a=b) H) cJ ds/\(∀a,U a->H a≠none)/\(∀a,bk.v a->U a)/\bk.i H/\(match F eJ ds with
 | .no=>False
 | .ok d hN=>∀v H',tB b H H'->eI (λa=>U a∨a=b) H' (.ref b) hN [b]->cn (cut (λa=>U a∨a=b) H') v d->Q v H'
 | .cp C fs=>∀x H',tB b H H'->H' x=some (jH x fs)->E (.ref C) (some x) H')
section
variable{E:e5}{aP:TE}{bf:aq->aJ D}{t:fi}{cy:aq->aJ (List D)}
def bh.w2{H H':ak}{ε:aq}(e:bh T ω H σ ε)(s:fO H H'):Step T ω H ω H':=⟨λa o n aR=>⟨n,s.keep a o (λz=>n (.inl (e.c7 a z))) aR⟩,λa af cm=>(by
 cases aR:H a with
 | none=>exact absurd aR (e.al a (.inl af))
 | some o=>exact s.keep a o cm aR),s.c8⟩
def bh.zG{H H':ak}{ε:aq}(e:bh T ω H σ ε)(s:fO H H'):bh T ω H' σ ε:=e.grow (e.w2 s) (λi a af=>(by
 cases aR:H a with
 | none=>exact absurd aR (e.al a (.inr ⟨i,af⟩))
 | some o=>exact s.keep a o (λz=>e.ee i a af (e.c7 a z)) aR)) s.bB
def call_plain{F:List D->b'}{H:ak}{ε:aq}(e:bh T ω H σ ε)(r:cP (cut (a5 T ω) H) vs ds)
  (q:dJ E T ω H σ (match F ds with | .no=>.no | .ok d=>.ok d ε | .cp C fs=>.cp C fs) (kb T) Q):bV F vs H Q E.k:=by
 refine⟨a5 T ω,ds,r,e.al,λa h=>.inl (e.c7 a h),e.bB,?_⟩;cases h:F ds with
 | no=>rw[h]at q;exact q
 | ok d=>
  rw[h]at q;intro v H' s cf;have st:Step T ω H ω H':=e.w2 s;exact q v ω H' (e.zG s) st cf
 | cp C fs=>
  rw[h]at q;exact λx H' s ex=>q.2 x H' (λa o cm _ aR=>s.keep a o cm aR) s.bB s.c8 ex
def l0(C:O)(m:Str)(F:List D->b')(δ:aq->aJ D)(cy:aq->aJ (List D)):aq->aJ D:=λε=>(δ ε).bind λo aC=>match o with
 | .ins dp fs=>if dp=C/\fs.lookup m=none then(cy aC).bind λds bD=>(match F (o::ds)with
  | .no=>.no
  | .ok d=>.ok d bD
  | .cp C fs=>.cp C fs)else .no
 | _=>.no
def sP(af:b8 E aP bf)(aS:k6 E t cy):b8 E (AQ C m (bV F) [] E.k aP t) (l0 C m F bf cy):=λT ω H σ ε Q e q=>by
 refine af T ω H σ ε _ e (q.then λx aC v a0 H1 _ ag s1 bc ao=>?_);cases x<;>try (exact ao.elim)
 rename_i dp fs _;by_cases aL:dp=C/\fs.lookup m=none
 ·obtain⟨rfl,ba⟩:=aL;dsimp only at ao;rw[if_pos ⟨rfl,ba⟩]at ao;obtain⟨a,dx,vs,rfl,h1,h2⟩:=EF (.inl bc);refine⟨a,dx,vs,rfl,h1,h2.no ba,?_⟩;refine aS T a0 H1 σ aC _ ag (dJ.then ao λy bD u cN H2 _ aF s2 cL bZ=>?_);rw[mu];exact call_plain aF (.cons (bc.mono s2.le) cL) bZ
 ·dsimp only at ao;rw[if_neg aL]at ao;exact ao.elim
def gs(F:D->List D->k7)(i:Nat)(cy:aq->aJ (List D)):aq->aJ D:=λε=>match ε[i]? with
 | some (some (true,_))=>(cy ε).bind λds aC=>(match aC[i]? with
  | some (some (true,eJ))=>(match F eJ ds with
   | .no=>.no
   | .ok d hN=>.ok d (aC.set i (some (true,hN)))
   | .cp C fs=>.cp C fs)
  | _=>.no)
 | _=>.no
def bh.sI{H:ak}{ε:aq}(e:bh T ω H σ ε){i:Nat}{d:D}(h:ε[i]? =some (some (true,d))):∃b,σ[i]? =some (some (.ref b))/\ω i=[b]/\eI (a5 T ω) H (.ref b) d [b]:=by
 obtain⟨v,h1,h2⟩:=e.own i d h;generalize cZ:ω i=F at h2;cases h2 with
 | lst a b=>exact⟨_,h1,rfl,.lst a b⟩
 | aK a b=>exact⟨_,h1,rfl,.aK a b⟩
 | ins a b=>exact⟨_,h1,rfl,.ins a b⟩
def Ug{sp:e4}(kO:∀vs H Q,mj F vs H Q E.k->sp vs H Q E')(aS:k6 E t cy):b8 E (o7 sp [] E' (gd (dP i) t)) (gs F i cy):=λT ω H σ ε Q e q=>by
 unfold gs at q;split at q
 ·rename_i ap1 af';obtain⟨b,ab,_,_⟩:=e.sI af';refine⟨.ref b,ab,?_⟩;refine aS T ω H σ ε _ e (dJ.then q λds aC cJ a0 H1 _ ag s1 bc ao=>?_);show sp ((V.ref b::cJ)++[]) H1 Q E';rw[mu];refine kO _ _ _ ?_;split at ao
  ·rename_i eJ bE;obtain⟨jN,tX,tK,aZ⟩:=ag.sI bE;rw[ab]at tX;cases tX;have fR:a5 T a0=λa=>(a5 T a0 a/\a≠b)∨a=b:=by
    funext a;refine propext ⟨λh=>?_,λh=>?_⟩
    ·by_cases z:a=b
     ·exact .inr z
     ·exact .inl ⟨h,z⟩
    ·rcases h with h | h
     ·exact h.1
     ·exact .inr ⟨i,by rw[tK,h];simp⟩
   have D6:¬bk.v b:=λz=>ag.ee i b (by rw[tK];simp) (ag.c7 b z)
   refine⟨λa=>a5 T a0 a/\a≠b,b,cJ,eJ,ds,rfl,λz=>z.2 rfl,by rw[<- fR];exact aZ,by rw[<- fR];exact bc,λa h=>ag.al a h.1,λa h=>⟨.inl (ag.c7 a h),λz=>D6 (by rw[<- z];exact h)⟩,ag.bB,?_⟩
   cases aH:F eJ ds with
   | no=>rw[aH]at ao;exact ao
   | cp C fs=>
    rw[aH]at ao;exact λx H' s ex=>ao.2 x H' (λa o cm n aR=>s.keep a o cm (λz=>n ⟨i,by rw[tK,z];simp⟩) aR) s.bB s.c8 ex
   | ok d hN=>
    rw[aH]at ao;intro v H' s o1 cf;rw[<- fR]at o1 cf;have st:Step T a0 H1 a0 H':=⟨λa o n aR=>⟨n,s.keep a o (λz=>n (.inl (ag.c7 a z))) (λz=>n (.inr ⟨i,by rw[tK,z];simp⟩)) aR⟩,λa af cm=>(by
     cases aR:H1 a with
     | none=>exact absurd aR (ag.al a (.inl af))
     | some o=>exact s.keep a o cm (λz=>ag.ee i a (by rw[tK,z];simp) af) aR),s.c8⟩
    have au:i < aC.length:=(hf.mp bE).1;refine ao v a0 H' ⟨by rw[rC];exact ag.len,ag.jl,ag.ee,λa af z=>ag.al a af (s.c8 a z),λj c a2=>?_,λj c a2=>?_,ag.c7,s.bB⟩ st cf
    ·by_cases z:j=i
     ·subst z;rw[j1 au]at a2;cases a2;exact⟨.ref b,ab,by rw[tK];exact o1⟩
     ·rw[j0 (Ne.symm z)]at a2;obtain⟨u,h1,h2⟩:=ag.own j c a2;refine⟨u,h1,h2.mono st.le λa af=>?_⟩;cases aR:H1 a with
      | none=>exact absurd aR (ag.al a (.inr ⟨j,af⟩))
      | some o=>exact s.keep a o (λy=>ag.ee j a af (ag.c7 a y)) (λy=>z (ag.jl j i a af (by rw[tK,y];simp))) aR
    ·by_cases z:j=i
     ·subst z;rw[j1 au]at a2;cases a2
     ·rw[j0 (Ne.symm z)]at a2;obtain⟨u,h1,h2⟩:=ag.pl j c a2;exact⟨u,h1,h2.mono st.le⟩
  ·exact ao.elim
 ·exact q.elim
def e'(F:D->List D->k7):D->List D->k7:=λb ds=>match F b ds with
 | .ok d jN=>.ok d jN
 | _=>.no
def uB(aS:k6 E t cy):b8 E (o7 (mj F) [] E' (gd (dP i) t)) (gs (e' F) i cy):=Ug (λvs H Q ⟨U,b,cJ,eJ,ds,h1,h2,aN,h4,cE,l7,zI,dY⟩=>by
 refine⟨U,b,cJ,eJ,ds,h1,h2,aN,h4,cE,l7,zI,?_⟩;unfold e' at dY;cases aH:F eJ ds with
 | no=>rw[aH]at dY;exact dY
 | cp C fs=>rw[aH]at dY;exact dY.elim
 | ok d hN=>rw[aH]at dY;exact dY) aS
end
inductive Out where
 | no | nx(ε:aq) | ey(d:D)(ε:aq) | f7(ε:aq) | ct(ε:aq) | cp(C:O)(fs:List (Str×V))
structure jh(ro:List Nat)(T:O->Prop)(ω:cs)(H:ak)(σ:St)(ε':aq)(σ':St)(aO:cs)(H':ak):Prop where
 env:bh T aO H' σ' ε'
 step:Step T ω H aO H'
 ro:∀i∈ro,σ'[i]? =σ[i]?
def g0(E:e5)(ro:List Nat)(T:O->Prop)(ω:cs)(H:ak)(σ:St)(o:Out)(Y:Ends):Prop:=match o with
 | .no=>False
 | .nx ε'=>∀σ' aO H',jh ro T ω H σ ε' σ' aO H'->Y.nx σ' H'
 | .ey d ε'=>∀v σ' aO H',jh ro T ω H σ ε' σ' aO H'->cn (cut (a5 T aO) H') v d->Y.ey v H'
 | .f7 ε'=>∀σ' aO H',jh ro T ω H σ ε' σ' aO H'->Y.f7 σ' H'
 | .ct ε'=>∀σ' aO H',jh ro T ω H σ ε' σ' aO H'->Y.ct σ' H'
 | .cp C fs=>(∀a,H a=none->E.h a=none)/\∀x H',(∀a o,¬bk.v a->¬(∃i,a∈ω i)->H a=some o->H' a=some o)->bk.i H'->(∀a,H' a=none->H a=none)->H' x=some (jH x fs)->E.k (.ref C) (some x) H'
def fh(E:e5)(ro:List Nat)(t:d8)(β:aq->Out):Prop:=∀(T:O->Prop)(ω:cs)(H:ak)(σ:St)(ε:aq)(Y:Ends),bh T ω H σ ε->g0 E ro T ω H σ (β ε) Y->t Y σ H
def zp{H H' H2:ak}{ε:aq}(e:bh T aO H' σ ε)(s:Step T ω H aO H')(k:∀a o,¬bk.v a->¬(∃i,a∈aO i)->H' a=some o->H2 a=some o):∀a o,¬bk.v a->¬(∃i,a∈ω i)->H a=some o->H2 a=some o:=λa o cm na aR=>by
 by_cases cj:T a
 ·exact k a o cm (λ⟨i,z⟩=>e.ee i a z cj) ((s.same a cj cm).trans aR)
 ·have aD:¬a5 T ω a:=λz=>z.elim cj na;obtain⟨h1,h2⟩:=s.keep a o aD aR;exact k a o cm (λz=>h1 (.inr z)) h2
section
variable{E:e5}{ro:List Nat}{T:O->Prop}{ω a0:cs}{H H1:ak}{σ ni:St}{ε aC:aq}{Y:Ends}
def g0.back{o:Out}(h:g0 E ro T ω H σ o Y)(a:jh ro T ω H σ aC ni a0 H1):g0 E ro T a0 H1 ni o Y:=by
 have hb:∀{ε' σ' aO H'},jh ro T a0 H1 ni ε' σ' aO H'->jh ro T ω H σ ε' σ' aO H':=λb=>⟨b.env,a.step.trans b.step,λi au=>(b.ro i au).trans (a.ro i au)⟩;cases o with
 | no=>exact h
 | nx ε'=>exact λσ' aO H' b=>h σ' aO H' (hb b)
 | ey d ε'=>exact λv σ' aO H' b=>h v σ' aO H' (hb b)
 | f7 ε'=>exact λσ' aO H' b=>h σ' aO H' (hb b)
 | ct ε'=>exact λσ' aO H' b=>h σ' aO H' (hb b)
 | cp C fs=>exact⟨λiu af=>h.1 iu (a.step.c8 iu af),λx H' k bB kd ex=>h.2 x H' (zp a.env a.step k) bB (λiu af=>a.step.c8 iu (kd iu af)) ex⟩
def aJ.out{α:Type}(r:aJ α)(f:α->aq->Out):Out:=match r with
 | .no=>.no
 | .ok x ε=>f x ε
 | .cp C fs=>.cp C fs
def g0.then {α β:Type}{r:aJ α}{f:α->aq->Out}{kG:α->cs->ak->β->Prop}{Q1:β->ak->Prop}(h:g0 E ro T ω H σ (r.out f) Y)
  (k:∀x ε' v aO H',bh T aO H' σ ε'->Step T ω H aO H'->kG x aO H' v->g0 E ro T aO H' σ (f x ε') Y->Q1 v H'):dJ E T ω H σ r kG Q1:=by
 cases r with
 | no=>exact h
 | ok x ε'=>exact λv aO H' e s p=>k x ε' v aO H' e s p (g0.back (show g0 E ro T ω H σ (f x ε') Y from h) ⟨e,s,λ_ _=>rfl⟩)
 | cp C fs=>exact h
def bK(β γ:aq->Out):aq->Out:=λε=>match β ε with
 | .nx ε'=>γ ε'
 | o=>o
variable{t u:d8}{β γ:aq->Out}{aP:TE}{bf:aq->aJ D}
def cq(af:fh E ro t β)(ab:fh E ro u γ):fh E ro (e1 t u) (bK β γ):=λT ω H σ ε Y e q=>by
 refine af T ω H σ ε _ e ?_;unfold bK at q;cases h:β ε with
 | no=>rw[h]at q;exact q
 | nx ε'=>rw[h]at q;exact λσ' aO H' a=>ab T aO H' σ' ε' Y a.env (q.back a)
 | ey d ε'=>rw[h]at q;exact q
 | f7 ε'=>rw[h]at q;exact q
 | ct ε'=>rw[h]at q;exact q
 | cp C fs=>rw[h]at q;exact q
def jh.here(e:bh T ω H σ ε):jh ro T ω H σ ε σ ω H:=⟨e,Step.refl,λ_ _=>rfl⟩
def fK:fh E ro AR (λε=>.nx ε):=λT ω H σ ε Y e q=>q σ ω H (.here e)
def uM:fh E ro Mz (λ_=>.no):=λT ω H σ ε Y e q=>q
def cM(δ:aq->aJ D):aq->Out:=λε=>(δ ε).out λd ε'=>.ey d ε'
def d7(af:b8 E aP bf):fh E ro (w8 aP) (cM bf):=λT ω H σ ε Y e q=>af T ω H σ ε _ e (g0.then q λx aC v a0 H1 ag s1 bc ao=>ao v σ a0 H1 (.here ag) bc)
def mf(δ:aq->aJ D):aq->Out:=λε=>(δ ε).out λ_ ε'=>.nx ε'
def sX(af:mF E aP bf):fh E ro (sY aP) (mf bf):=λT ω H σ ε Y e q=>af T ω H σ ε _ e (g0.then q λx aC v a0 H1 ag s1 bc ao=>ao σ a0 H1 (.here ag))
def ef(δ:aq->aJ Bool)(β γ:aq->Out):aq->Out:=λε=>(δ ε).out λb ε'=>if b=true then β ε' else γ ε'
def fJ(aL:jK E hT aoI)(af:fh E ro t β)(ab:fh E ro u γ):fh E ro (w7 hT t u) (ef aoI β γ):=λT ω H σ ε Y e q=>aL T ω H σ ε _ e (g0.then q λx aC v a0 H1 ag s1 bc ao=>by
 obtain rfl:v=x:=bc;cases v with
 | true=>exact af T a0 H1 σ aC Y ag ao
 | false=>exact ab T a0 H1 σ aC Y ag ao)
def nE(E:e5)(ro:List Nat)(g:gM)(γ:D->aq->Option aq):Prop:=∀(T:O->Prop)(ω:cs)(H:ak)(σ:St)(ε ε':aq)(d:D)(v:V)(Q:St->ak->Prop),bh T ω H σ ε->cn (cut (a5 T ω) H) v d->γ d ε=some ε'->
 (∀σ' aO,bh T aO H σ' ε'->Step T ω H aO H->(∀i∈ro,σ'[i]? =σ[i]?)->Q σ' H)->g v σ H Q
def Cr(E:e5)(ro:List Nat)(g:rY)(γ:List D->aq->Option aq):Prop:=∀(T:O->Prop)(ω:cs)(H:ak)(σ:St)(ε ε':aq)(d:List D)(v:List V)(Q:St->ak->Prop),bh T ω H σ ε->cP (cut (a5 T ω) H) v d->γ d ε=some ε'->
 (∀σ' aO,bh T aO H σ' ε'->Step T ω H aO H->(∀i∈ro,σ'[i]? =σ[i]?)->Q σ' H)->g v σ H Q
def bo(i:Nat):D->aq->Option aq:=λd ε=>if i < ε.length then some (ε.set i (G d))else none
def cG{i:Nat}(au:i∉ro:=by decide):nE E ro (lr i) (bo i):=λT ω H σ ε ε' d v Q e r h k=>by
 unfold bo at h;by_cases ar:i < ε.length
 ·rw[if_pos ar]at h;cases h;exact k _ _ (e.set ar (r.mono (gE λa=>a5.off))) Step.refl.off λj a2=>by rw[j0 (λz=>au (by rw[z];exact a2))]
 ·rw[if_neg ar]at h;cases h
def zH:List D->aq->Option aq:=λds ε=>match ds with
 | []=>some ε
 | _=>none
def qM(γ:D->aq->Option aq)(rz:List D->aq->Option aq):List D->aq->Option aq:=λds ε=>match ds with
 | d::r=>(γ d ε).bind λaC=>rz r aC
 | []=>none
def Dm:Cr E ro Rk zH:=λT ω H σ ε ε' d v Q e r h k=>by
 cases r with
 | nil=>cases h;exact⟨rfl,k σ ω e Step.refl λ_ _=>rfl⟩
 | cons _ _=>cases h
def sh{g:gM}{Dl:rY}{γ:D->aq->Option aq}{rz:List D->aq->Option aq}(h1:nE E ro g γ)(h2:Cr E ro Dl rz):Cr E ro (Rj g Dl) (qM γ rz):=λT ω H σ ε ε' d v Q e r h k=>by
 cases r with
 | nil=>cases h
 | cons a r=>
  obtain⟨aC,af,ab⟩:=nt.mp h;refine⟨_,_,rfl,h1 T ω H σ ε aC _ _ _ e a af λni a0 ag s1 b4=>?_⟩;refine h2 T a0 H ni aC ε' _ _ _ ag (r.mono s1.le) ab λfX cN aF s2 da=>k fX cN aF (s1.trans s2) λi au=>(da i au).trans (b4 i au)
def zF(n:Nat)(rz:List D->aq->Option aq):D->aq->Option aq:=λd ε=>match d with
 | .tup ds=>if ds.length=n then rz ds ε else none
 | _=>none
def Dn{K:b5}(h1:Cr E ro Dl rz):nE E ro (Rl K n Dl) (zF n rz):=λT ω H σ ε ε' d v Q e r h k=>by
 cases d<;>try (cases h;done)
 rename_i ds;change(if ds.length=n then rz ds ε else none)=some ε' at h
 by_cases ar:ds.length=n
 ·rw[if_pos ar]at h;obtain⟨a,vs,rfl,h2,aN⟩:=p4 (.inl r);exact⟨a,vs,rfl,gL.of h2,by rw[aN.length];exact ar,h1 T ω H σ ε ε' ds vs Q e aN h k⟩
 ·rw[if_neg ar]at h;cases h
def Ko(o:Option aq):Out:=match o with
 | some ε=>.nx ε
 | none=>.no
def c1(δ:aq->aJ D)(γ:D->aq->Option aq):aq->Out:=λε=>(δ ε).out λd aC=>Ko (γ d aC)
def fb(af:b8 E aP bf)(bl:nE E ro g VT):fh E ro (ml aP g) (c1 bf VT):=λT ω H σ ε Y e q=>af T ω H σ ε _ e (g0.then q λx aC v a0 H1 ag s1 bc ao=>by
 cases h:VT x aC with
 | none=>rw[h]at ao;exact ao.elim
 | some bD=>
  rw[h]at ao;exact bl T a0 H1 σ aC bD x v _ ag bc h λσ' aO bQ s' dA=>ao σ' aO H1 ⟨bQ,s',dA⟩)
def rV(E:e5)(t:TE)(δ:aq->aJ D):Prop:=∀(T:O->Prop)(ω:cs)(H:ak)(σ:St)(ε:aq)(Q:c3),bh T ω H σ ε->dJ E T ω H σ (δ ε) (λd aO H' v=>∃p,v= .ref p/\H p=none/\bh (λa=>T a∨a=p) aO H' σ (match δ ε with | .ok _ ε'=>ε' | _=>[])/\eI (a5 (λa=>T a∨a=p) aO) H' (.ref p) d [p]) Q->t σ H Q
def cs.on(ω:cs)(i:Nat)(p:O):cs:=λj=>if j=i then [p]else ω j
def cs.Ks{ω:cs}:ω.on i p i=[p]:=if_pos rfl
def cs.Kt{ω:cs}{i j:Nat}(h:j≠i):ω.on i p j=ω j:=if_neg h
def VM{ω:cs}{p a:O}(h:a5 T (ω.on i p) a):a5 (λa=>T a∨a=p) ω a:=by
 rcases h with h | ⟨j,h⟩
 ·exact .inl (.inl h)
 ·by_cases z:j=i
  ·subst z;rw[cs.Ks]at h;exact .inl (.inr (by simpa using h))
  ·rw[cs.Kt z]at h;exact .inr ⟨j,h⟩
def bh.L5{p:O}(e:bh (λa=>T a∨a=p) ω H σ ε)(o:eI (a5 (λa=>T a∨a=p) ω) H (.ref p) d [p])(aB:¬T p)(bm:∀a,bk.v a->T a){i:Nat}(au:i < ε.length):bh T (ω.on i p) H (σ.set i (some (.ref p))) (ε.set i (some (true,d))):=by
 have aD:∀a,a5 T (ω.on i p) a->a5 (λa=>T a∨a=p) ω a:=λa=>VM;have mem:∀{j a},a∈ω.on i p j->(j=i/\a=p)∨(j≠i/\a∈ω j):=λ{j a} h=>by
  by_cases z:j=i
  ·subst z;rw[cs.Ks]at h;exact .inl ⟨rfl,by simpa using h⟩
  ·rw[cs.Kt z]at h;exact .inr ⟨z,h⟩
 refine⟨by rw[rC,rC];exact e.len,λj j' a h h'=>?_,λj a h z=>?_,λa h=>e.al a (aD a h),λj c h=>?_,λj c h=>?_,bm,e.bB⟩
 ·rcases mem h with⟨h1,h2⟩ | ⟨h1,h2⟩<;>rcases mem h' with⟨aN,h4⟩ | ⟨aN,h4⟩
  ·rw[h1,aN]
  ·exact absurd (.inr h2) (e.ee j' a h4)
  ·exact absurd (.inr h4) (e.ee j a h2)
  ·exact e.jl j j' a h2 h4
 ·rcases mem h with⟨h1,h2⟩ | ⟨h1,h2⟩
  ·subst h2;exact aB z
  ·exact e.ee j a h2 (.inl z)
 ·by_cases z:j=i
  ·subst z;rw[j1 au]at h;cases h;refine⟨.ref p,j1 (by rw[e.len];exact au),?_⟩
   rw[cs.Ks];exact o.mono (gE aD) λ_ _=>rfl
  ·rw[j0 (Ne.symm z)]at h ⊢;obtain⟨v,h1,h2⟩:=e.own j c h;refine⟨v,h1,?_⟩;rw[cs.Kt z];exact h2.mono (gE aD) λ_ _=>rfl
 ·by_cases z:j=i
  ·subst z;rw[j1 au]at h;cases h
  ·rw[j0 (Ne.symm z)]at h ⊢;obtain⟨v,h1,h2⟩:=e.pl j c h;exact⟨v,h1,h2.mono (gE aD)⟩
def ko(δ:aq->aJ D)(i:Nat):aq->Out:=λε=>(δ ε).out λd aC=>if i < aC.length then .nx (aC.set i (some (true,d)))else .no
def p9{i:Nat}(af:rV E aP bf)(au:i∉ro:=by decide):fh E ro (ml aP (lr i)) (ko bf i):=λT ω H σ ε Y e q=>by
 refine af T ω H σ ε _ e ?_;unfold ko at q;cases h:bf ε with
 | no=>rw[h]at q;exact q
 | cp C fs=>rw[h]at q;exact q
 | ok d aC=>
  rw[h]at q;intro v aO H' bQ s' ⟨p,qH,aB,ep,o⟩;subst qH;by_cases ar:i < aC.length
  ·have bZ:g0 E ro T ω H σ (if i < aC.length then .nx (aC.set i (some (true,d)))else .no) Y:=q
   rw[if_pos ar]at bZ;have de:¬T p:=λz=>e.al p (.inl z) aB;refine bZ _ (aO.on i p) H' ⟨ep.L5 o de e.c7 ar,⟨λa u n aR=>⟨λz=>?_,(s'.keep a u n aR).2⟩,s'.same,s'.c8⟩,λj a2=>by rw[j0 (λz=>au (by rw[z];exact a2))]⟩
   rcases VM z with(z | z) | z
   ·exact n (.inl z)
   ·subst z;rw[aB]at aR;cases aR
   ·exact(s'.keep a u n aR).1 (.inr z)
  ·have bZ:g0 E ro T ω H σ (if i < aC.length then .nx (aC.set i (some (true,d)))else .no) Y:=q
   rw[if_neg ar]at bZ;exact bZ.elim
def qK(e:bh T ω H σ ε)(aB:H p=none):bh (λa=>T a∨a=p) ω (a1 H p o) σ ε:=by
 have bQ:=e.new (o:=o) aB;have le:fu (cut (a5 T ω) H) (cut (a5 (λa=>T a∨a=p) ω) (a1 H p o)):=λa u h=>.inl (by
  obtain⟨h1,h2⟩:=cB.mp h;have na:a≠p:=eK h2 aB;refine cB.mpr ⟨λz=>?_,by rw[bj na];exact h2⟩
  rcases z with(z | z) | z
  ·exact h1 (.inl z)
  ·exact na z
  ·exact h1 (.inr z))
 refine⟨e.len,e.jl,λi a h z=>?_,λa h=>?_,λi d h=>?_,λi d h=>?_,λa h=>.inl (e.c7 a h),e.Tc aB⟩
 ·rcases z with z | z
  ·exact e.ee i a h z
  ·exact e.ne aB (.inr ⟨i,h⟩) z
 ·rcases h with(h | h) | h
  ·exact bQ.al a (.inl h)
  ·rw[h,cw];simp
  ·exact bQ.al a (.inr h)
 ·obtain⟨v,h1,h2⟩:=e.own i d h;exact⟨v,h1,h2.mono le λa af=>bj (e.ne aB (.inr ⟨i,af⟩))⟩
 ·obtain⟨v,h1,h2⟩:=e.pl i d h;exact⟨v,h1,h2.mono le⟩
def v7:rV E Mv (aT (.aK [])):=λT ω H σ ε Q e q=>λp aB=>q _ ω _ (e.new aB) (e.hl aB) ⟨p,rfl,aB,qK e aB,.aK cw .nil⟩
def Rg:rV E (Mx gy) (aT (.lst [])):=λT ω H σ ε Q e q=>⟨j2 _,λp aB=>q _ ω _ (e.new aB) (e.hl aB) ⟨p,rfl,aB,qK e aB,.lst cw .nil⟩⟩
end
def Vk(eS ty:TE):TE:=λσ H Q=>eS σ H λx H1=>∃a,x= .ref a/\Cf H1 a/\ty σ H1 λy H2=>∃(b:O)(kvs more:List (bM×V)),y= .ref b/\a≠b/\H2 a=some (.a7 kvs)/\ec H2 b (.a7 more)/\kvs.length+more.length<=sizeLine/\Q .bb (a1 H2 a (.a7 (nY kvs more)))
section
variable{X:bp}{o e:ck}{e6 f8:d1}{eS ty:TE}
def acD{H:ak}{Q:aj->aM->Prop}(I:Inv X aa σ H s)(aR:H a=some (.a7 kvs))(cC:ec H b (.a7 more))(ne:a≠b)(ar:kvs.length+more.length<=sizeLine)
  (h:∀s',Inv X aa σ (a1 H a (.a7 (nY kvs more))) s'->Q .none s'):wpAny (model X.prog X.w) A (call (.builtin "dict.update") [.ref a,.ref b]) Q E s:=by
 obtain⟨eH,RL,s4,UD,PC⟩:=CX I.a' aR;obtain⟨ek,agJ,MK,UE,HH⟩:=lZ I.a' cC;refine xN Xf PC.typeIs PySem.F.entry_dict_update (PySem.F.args_dict_update_2 _ _) (meets_dict_update (fG X.prog X.w) a b ne agJ)
  ⟨s4,MK,PC,HH,(by rw[<- UD.length, <- UE.length];exact ar),λh' nL _ aS=>h _ ?_⟩
 have he:∃q,h'.get? a=some q:=let⟨q,_,_,a9,_⟩:=nL;⟨q,a9⟩
 exact CW (t':=s.toks) I (by rw[aR];exact True.intro) aS he (zd (gX (JY more kvs) ar) RL (UE.merge UD) nL)
def Ep(aZ:bz X o eS)(he:bz X e ty)(m:OQ X o "update" e6 e f8):bz X (.Call (.Attribute o "update" e6) [e] [] f8) (Vk eS ty):=by
 intro aa s σ H Q I h;refine NU m.base m.c_ m.line FN Xf PySem.F.type_dict_update (bJ (aZ aa s σ H _ I h) λu s1 ⟨x,H1,aW,bt,a,ex,d,ao⟩=>?_);subst ex;obtain rfl:u=Value.ref a:=bt;obtain⟨fm,dw,_⟩:=DG aW d;refine⟨fm,dw,?_⟩;rw[m.trees];refine A7 rfl (Ft (uW (bJ (he aa s1 σ H1 _ aW ao) λiU s2 ⟨y,H2,bU,br,b,kvs,more,fP,ne,aR,cC,ar,bZ⟩=>xn ?_)));subst fP;obtain rfl:iU=Value.ref b:=br;exact acD bU aR cC ne ar λs3 b9=>⟨.bb,_,b9,rfl,bZ⟩
end
def k'{U:O->Prop}(h:U b):cut U (a1 H b o)=cut U H:=by
 funext a;unfold cut;by_cases z:a=b
 ·subst z;simp[h]
 ·rw[bj z]
section
variable{E:e5}{ro:List Nat}{T:O->Prop}{ω:cs}{H:ak}{σ:St}{ε:aq}{Y:Ends}{K:b5}
def bh.put(e:bh T ω H σ ε){i:Nat}{d d':D}(h:ε[i]? =some (some (true,d)))(aS:σ[i]? =some (some (.ref b)))(ab:ω i=[b])(o:eI (a5 T ω) (a1 H b o') (.ref b) d' [b]):
  bh T ω (a1 H b o') σ (ε.set i (some (true,d')))/\Step T ω H ω (a1 H b o'):=by
 have kQ:b∈ω i:=by rw[ab];simp
 have fR:a5 T ω b:=.inr ⟨i,kQ⟩;have au:i < ε.length:=(hf.mp h).1;have nx:∀φ,H b≠some (.ext φ):=λφ z=>by
  obtain⟨v,h1,h2⟩:=e.own i d h;rw[aS]at h1;cases h1;generalize ω i=F at h2;cases h2 with
  | lst q _=>rw[z]at q;cases q
  | aK q _=>rw[z]at q;cases q
  | ins q _=>rw[z]at q;cases q
 have st:Step T ω H ω (a1 H b o'):=⟨λa u n aR=>⟨n,by rw[bj (λz=>n (by rw[z];exact fR))];exact aR⟩,λa af _=>bj (λz=>e.ee i b kQ (by rw[<- z];exact af)),λa af=>(by
  by_cases z:a=b
  ·rw[z,cw]at af;cases af
  ·rw[bj z]at af;exact af)⟩
 refine⟨⟨by rw[rC];exact e.len,e.jl,e.ee,λa af=>?_,λj c a2=>?_,λj c a2=>?_,e.c7,bk.st H _ (λa φ af=>by rw[bj (λz=>nx φ (by rw[<- z];exact af))];exact af) (λa af=>bj λz=>e.ee i b kQ (e.c7 b (by rw[<- z];exact af))) e.bB⟩,st⟩
 ·by_cases z:a=b
  ·rw[z,cw];simp
  ·rw[bj z];exact e.al a af
 ·by_cases z:j=i
  ·subst z;rw[j1 au]at a2;cases a2;exact⟨.ref b,aS,by rw[ab];exact o⟩
  ·rw[j0 (Ne.symm z)]at a2;obtain⟨u,h1,h2⟩:=e.own j c a2;exact⟨u,h1,h2.mono st.le λa af=>bj λy=>z (e.jl j i a af (by rw[y];exact kQ))⟩
 ·by_cases z:j=i
  ·subst z;rw[j1 au]at a2;cases a2
  ·rw[j0 (Ne.symm z)]at a2;obtain⟨u,h1,h2⟩:=e.pl j c a2;exact⟨u,h1,h2.mono st.le⟩
def bh.TQ(e:bh T ω H σ ε){i:Nat}(h:ε[i]? =some (some (true,.lst ds))):∃b vs,σ[i]? =some (some (.ref b))/\ω i=[b]/\H b=some (.lst vs)/\cP (cut (a5 T ω) H) vs ds:=by
 obtain⟨b,h1,h2,aN⟩:=e.sI h;cases aN with
 | lst a r=>exact⟨b,_,h1,h2,a,r⟩
def bh.Ef(e:bh T ω H σ ε){i:Nat}(h:ε[i]? =some (some (true,.aK ds))):∃b vs,σ[i]? =some (some (.ref b))/\ω i=[b]/\H b=some (.a7 vs)/\dS (cut (a5 T ω) H) vs ds:=by
 obtain⟨b,h1,h2,aN⟩:=e.sI h;cases aN with
 | aK a r=>exact⟨b,_,h1,h2,a,r⟩
def bh.putL(e:bh T ω H σ ε){i:Nat}(h:ε[i]? =some (some (true,.lst ds)))(aS:σ[i]? =some (some (.ref b)))(ab:ω i=[b])(r:cP (cut (a5 T ω) H) ih HL):
  bh T ω (a1 H b (.lst ih)) σ (ε.set i (some (true,.lst HL)))/\Step T ω H ω (a1 H b (.lst ih)):=
 e.put h aS ab (.lst cw (by rw[k' (.inr ⟨i,by rw[ab];simp⟩)];exact r))
def bh.Up(e:bh T ω H σ ε){i:Nat}(h:ε[i]? =some (some (true,.aK ds)))(aS:σ[i]? =some (some (.ref b)))(ab:ω i=[b])(r:dS (cut (a5 T ω) H) ih HL):
  bh T ω (a1 H b (.a7 ih)) σ (ε.set i (some (true,.aK HL)))/\Step T ω H ω (a1 H b (.a7 ih)):=
 e.put h aS ab (.aK cw (by rw[k' (.inr ⟨i,by rw[ab];simp⟩)];exact r))
variable{aP tb:TE}{bf cR:aq->aJ D}
def rk(i:Nat)(δ:aq->aJ D):aq->Out:=λε=>match ε[i]? with
 | some (some (true,.lst _))=>(δ ε).out λd aC=>(match aC[i]? with
  | some (some (true,.lst ds))=>if ds.length < 1000 then .nx (aC.set i (some (true,.lst (ds++[d]))))else .no
  | _=>.no)
 | _=>.no
def Vb(af:b8 E aP bf):fh E ro (sY (Mu K "list" K2 (dP i) (gd aP gy))) (rk i bf):=λT ω H σ ε Y e q=>by
 unfold rk at q;split at q
 ·rename_i PS bE;obtain⟨b,vs,h1,h2,aN,h4⟩:=e.TQ bE;refine⟨.ref b,h1,.inl ⟨rfl,vs,cS.of aN⟩,?_⟩;refine af T ω H σ ε _ e (g0.then q λd aC v a0 H1 ag s1 bc ao=>?_);split at ao
  ·rename_i ds cE;obtain⟨jN,s4,en,ev,hj,lD⟩:=ag.TQ cE;rw[h1]at en;cases en;by_cases ar:ds.length < 1000
   ·rw[if_pos ar]at ao;obtain⟨aF,s2⟩:=ag.putL cE h1 ev (lD.append (.cons bc .nil));refine⟨b,s4,v,rfl,rfl,hj,?_,ao σ a0 _ ⟨aF,s2,λ_ _=>rfl⟩⟩;rw[lD.length];exact nb (kA ar)
   ·rw[if_neg ar]at ao;exact ao.elim
  ·exact ao.elim
 ·exact q.elim
def Lf(i:Nat)(xh xi:aq->aJ D):aq->Out:=λε=>(xi ε).out λd aC=>match aC[i]? with
 | some (some (true,.aK _))=>(xh aC).out λy bD=>(match bD[i]?,mV y with
  | some (some (true,.aK bR)),some k=>if bR.length < 1000 then .nx (bD.set i (some (true,.aK (md bR k d))))else .no
  | _,_=>.no)
 | _=>.no
def Vc(aw:b8 E aP bf)(bm:b8 E tb cR):fh E ro (uF (dP i) aP tb) (Lf i bf cR):=λT ω H σ ε Y e q=>by
 refine bm T ω H σ ε _ e (g0.then q λd aC v a0 H1 ag s1 bc ao=>?_);split at ao
 ·rename_i aqw bE;obtain⟨b,vs,h1,h2,aN,h4⟩:=ag.Ef bE;refine⟨.ref b,h1,?_⟩;refine aw T a0 H1 σ aC _ ag (g0.then ao λy bD u cN H2 aF s2 cL bZ=>?_);split at bZ
  ·rename_i bR k cE dY;obtain⟨jN,s4,en,ev,hj,lD⟩:=aF.Ef cE;rw[h1]at en;cases en;by_cases ar:bR.length < 1000
   ·rw[if_pos ar]at bZ;obtain⟨cU,s3⟩:=aF.Up cE h1 ev (lD.put (k:=k) (bc.mono s2.le));refine⟨b,_,rfl,.inl ⟨s4,k,hj,ri (.inl cL) dY,?_,rfl⟩,bZ σ cN _ ⟨cU,s3,λ_ _=>rfl⟩⟩;rw[lD.length];exact nb (kA ar)
   ·rw[if_neg ar]at bZ;exact bZ.elim
  ·exact bZ.elim
 ·exact ao.elim
def qZ(bR more:List (bM×D)):List (bM×D):=more.foldl (λacc cO=>md acc cO.1 cO.2) bR
def dS.merge:∀{cJ:List (bM×V)}{es:List (bM×D)}{vs:List (bM×V)}{ds:List (bM×D)},dS H cJ es->dS H vs ds->dS H (nY vs cJ) (qZ ds es)
 | _,_,_,_,.nil,r=>r
 | _,_,_,_,.cons (k:=eE) a s,r=>by have q:=dS.merge s (dS.put (k:=eE) a r);exact q
def n7(i:Nat)(δ:aq->aJ D):aq->Out:=λε=>match ε[i]? with
 | some (some (true,.aK _))=>(δ ε).out λd aC=>(match aC[i]?,d with
  | some (some (true,.aK bR)),.aK more=>if bR.length+more.length<=1000 then .nx (aC.set i (some (true,.aK (qZ bR more))))else .no
  | _,_=>.no)
 | _=>.no
def E0(af:b8 E aP bf):fh E ro (sY (Vk (dP i) aP)) (n7 i bf):=λT ω H σ ε Y e q=>by
 unfold n7 at q;split at q
 ·rename_i PS bE;obtain⟨b,vs,h1,h2,aN,h4⟩:=e.Ef bE;refine⟨.ref b,h1,b,rfl,.inl ⟨vs,.inl aN⟩,?_⟩;refine af T ω H σ ε _ e (g0.then q λd aC v a0 H1 ag s1 bc ao=>?_);split at ao
  ·rename_i bR more cE;obtain⟨jN,s4,en,ev,hj,lD⟩:=ag.Ef cE;rw[h1]at en;cases en;by_cases ar:bR.length+more.length<=1000
   ·rw[if_pos ar]at ao;obtain⟨a,cJ,rfl,g8,hB⟩:=m8 (.inl bc);obtain⟨aF,s2⟩:=ag.Up cE h1 ev (hB.merge lD);have na:b≠a:=λz=>by
     cases bc with
     | aK r _=>exact(oF r).1 (.inr ⟨i,by rw[ev,z];simp⟩)
    refine⟨a,s4,cJ,rfl,na,hj,g8,?_,ao σ a0 _ ⟨aF,s2,λ_ _=>rfl⟩⟩;rw[lD.length,hB.length];exact kA (nb ar)
   ·rw[if_neg ar]at ao;exact ao.elim
  ·exact ao.elim
 ·exact q.elim
end
def vy(bP:It)(T:O->Prop)(ω:cs)(H:ak)(ds:List D):Prop:=∀T' aO H' σ ε,bh T' aO H' σ ε->(∀a o,¬a5 T ω a->H a=some o->¬a5 T' aO a/\H' a=some o)->(∀i,i < ds.length->bP.go i H')/\bP.stop ds.length H'/\
 ∀i x pC d,bP.rx i H' x pC->ds[i]? =some d->bh T' aO pC σ ε/\Step T' aO H' aO pC/\cn (cut (a5 T' aO) pC) x d
def JW{H H':ak}(k:∀a o,¬a5 T ω a->H a=some o->¬a5 T' aO a/\H' a=some o):fu (cut (a5 T ω) H) (cut (a5 T' aO) H'):=λa o h=>.inl (by
 obtain⟨h1,h2⟩:=cB.mp h;exact cB.mpr (k a o h1 h2))
def rW(E:e5)(ez:TI)(δ:aq->aJ (List D)):Prop:=∀(T:O->Prop)(ω:cs)(H:ak)(σ:St)(ε:aq)(R:It->ak->Prop),bh T ω H σ ε->dJ E T ω H σ (δ ε) (λds aO H' bP=>vy bP T aO H' ds) R->ez σ H R
section
variable{E:e5}{ro:List Nat}{T:O->Prop}{ω:cs}{H:ak}{σ:St}{ε:aq}{Y:Ends}{K:b5}{aP tb:TE}{bf:aq->aJ D}
def d2:D->Option (List D)
 | .lst ds=>some ds
 | _=>none
def di(f:D->Option (List D))(δ:aq->aJ D):aq->aJ (List D):=λε=>(δ ε).bind λa aC=>dv (f a) aC
def g6(af:b8 E aP bf):rW E (Sd K aP) (di d2 bf):=λT ω H σ ε Q e q=>by
 refine af T ω H σ ε _ e (q.then λx aC v a0 H1 _ ag s1 bc ao=>?_);obtain⟨ds,hd,k⟩:=ao.opt;cases x<;>try (cases hd;done)
 cases hd;cases bc with
 | lst h1 h2=>
  rename_i a vs;obtain⟨aN,h4⟩:=cB.mp h1;refine⟨a,rfl,⟨vs,cS.of h4⟩,k _ a0 H1 ag Step.refl λT' aO H' σ' ε' bQ s'=>?_⟩;have cE:=(s' a _ aN h4).2;refine⟨λi au=>⟨vs,vs[i]'(by rw[h2.length];exact au),cS.of cE,by simp[h2.length,au]⟩,⟨vs,cS.of cE,by rw[h2.length];exact c9 _⟩,λi x pC d y hd=>?_⟩
  obtain⟨rfl,y⟩:=y;obtain⟨w,dY,l7⟩:=h2.get hd;rw[y vs (cS.of cE)]at dY;cases dY;exact⟨bQ,Step.refl,l7.mono (JW s')⟩
def oC(x:Str):List D:=x.cps.toList.map λc=>.str ⟨#[c]⟩
def Cx:D->Option (List D)
 | .str x=>some (oC x)
 | _=>none
def Sn(af:b8 E aP bf):rW E (Sf aP) (di Cx bf):=λT ω H σ ε Q e q=>by
 refine af T ω H σ ε _ e (q.then λx aC v a0 H1 _ ag s1 bc ao=>?_);obtain⟨ds,hd,k⟩:=ao.opt;cases x<;>try (cases hd;done)
 cases hd;obtain rfl:=uD bc rfl;rename_i x _;refine⟨x,rfl,k _ a0 H1 ag Step.refl λT' aO H' σ' ε' bQ s'=>⟨λi au=>(by show i < x.cps.size;simpa[oC]using au),by simp[oC,GG],λi y pC d z hd=>?_⟩⟩
 obtain⟨rfl,c,h1,rfl⟩:=z;unfold oC at hd;rw[ft,xm,h1]at hd;cases hd;exact⟨bQ,Step.refl,.str _⟩
def m9(lo:Int)(n:Nat):List D:=(List.range n).map λ(i:Nat)=>.int (lo+i)
def aaB:List D->Option (List D)
 | [.int j]=>if -1000<=j/\j<=1000 then some (m9 0 j.toNat)else none
 | [.int i,.int j]=>if -1000<=i/\i<=1000/\-1000<=j/\j<=1000 then some (m9 i (j - i).toNat)else none
 | _=>none
def aok{lo:Int}:vy (yk lo n) T ω H (m9 lo n):=λT' aO H' σ' ε' bQ s'=>⟨λi au=>(by show i < n;simpa[m9]using au),by simp[m9,yk],λi y pC d z hd=>by
 obtain⟨rfl,rfl⟩:=z;unfold m9 at hd;rw[ft]at hd;obtain⟨k,h1,rfl⟩:=jD.mp hd;obtain⟨_,rfl⟩:i < n/\i=k:=by simpa[WJ]using hf.mp h1
 exact⟨bQ,Step.refl,.int _⟩⟩
def aaC(a:List D):Option (List D):=match a with
 | [_]=>aaB a
 | _=>none
def vU(cy:aq->aJ (List D)):aq->aJ (List D):=λε=>(cy ε).bind λa aC=>dv (aaC a) aC
def Sm(af:k6 E t cy):rW E (Se t) (vU cy):=λT ω H σ ε Q e q=>by
 refine af T ω H σ ε _ e (q.then λx aC v a0 H1 _ ag s1 bc ao=>?_);cases bc with
 | nil=>exact ao.elim
 | cons a r=>
  cases r with
  | cons _ _=>exact ao.elim
  | nil=>
   rename_i v d _;obtain⟨ds,hd,k⟩:=dJ.opt ao;cases d<;>try (cases hd;done)
   rename_i j _;change(if -1000<=j/\j<=1000 then some (m9 0 j.toNat)else none)=some ds at hd
   by_cases a2: -1000<=j/\j<=1000
   ·rw[if_pos a2]at hd;cases hd;exact⟨j,by rw[uD a rfl],by omega,by omega,k _ a0 H1 ag Step.refl aok⟩
   ·rw[if_neg a2]at hd;cases hd
def jP(γ:D->aq->Option aq)(β:aq->Out):List D->aq->Out
 | [],ε=>.nx ε
 | d::ds,ε=>match γ d ε with
  | none=>.no
  | some aC=>match β aC with
   | .nx bD=>jP γ β ds bD
   | .ct bD=>jP γ β ds bD
   | .f7 bD=>.nx bD
   | o=>o
def fa(δ:aq->aJ (List D))(γ:D->aq->Option aq)(β:aq->Out):aq->Out:=λε=>(δ ε).out λds aC=>jP γ β ds aC
def IG{g:gM}{tb:d8}{γ:D->aq->Option aq}{β:aq->Out}(bl:nE E ro g γ)(ab:fh E ro tb β){bP:It}{ds:List D}{a0:cs}{H1:ak}{aC:aq}(ag:bh T a0 H1 σ aC)(w:vy bP T a0 H1 ds)(ao:g0 E ro T a0 H1 σ (jP γ β ds aC) Y):
  ∃W:Nat->Nat->St->ak->Prop,(∃m,W 0 m σ H1)/\∀i m σ H,W i m σ H->(bP.stop i H/\Y.nx σ H)∨(bP.go i H/\∃N:St->ak->Prop,(∀σ' H',N σ' H'->∃e_,e_ < m/\W (i+1) e_ σ' H')/\∀x H',bP.rx i H x H'->g x σ H' λfX H2=>tb {Y with nx:=N,ct:=N,f7:=Y.nx} fX H2):=by
 refine⟨λi m σ' H'=>m=ds.length - i/\i<=ds.length/\∃aO ε',jh ro T a0 H1 σ ε' σ' aO H'/\g0 E ro T a0 H1 σ (jP γ β (ds.drop i) ε') Y,⟨ds.length,rfl,j2 _,a0,aC,.here ag,ao⟩,?_⟩;rintro i m σ' H' ⟨rfl,au,aO,ε',a,q'⟩;obtain⟨n',qd,AX⟩:=w T aO H' σ' ε' a.env a.step.keep;by_cases eD:i < ds.length
 ·refine .inr ⟨n' i eD,λfX H2=>∃cN bD,jh ro T a0 H1 σ bD fX cN H2/\g0 E ro T a0 H1 σ (jP γ β (ds.drop (i+1)) bD) Y,λfX H2 ⟨cN,bD,dy,bZ⟩=>⟨ds.length - (i+1),by omega,rfl,eD,cN,bD,dy,bZ⟩,λx H2 y=>?_⟩
  obtain⟨aF,s2,da⟩:=AX i x H2 ds[i] y (by simp[eD])
  rw[Ww eD]at q';unfold jP at q';cases t_:γ ds[i] ε' with
  | none=>rw[t_]at q';exact q'.elim
  | some gW=>
   rw[t_]at q';dsimp only at q';refine bl T aO H2 σ' ε' gW ds[i] x _ aF da t_ λob lQ cU s3 aml=>?_;have fD:jh ro T a0 H1 σ gW ob lQ H2:=⟨cU,(a.step.trans s2).trans s3,λj a2=>(aml j a2).trans (a.ro j a2)⟩;refine ab T lQ H2 ob gW _ cU ?_;have hb:∀{ε' σ' aO H'},jh ro T lQ H2 ob ε' σ' aO H'->jh ro T a0 H1 σ ε' σ' aO H':=λb=>⟨b.env,fD.step.trans b.step,λi au=>(b.ro i au).trans (fD.ro i au)⟩;cases eZ:β gW with
   | no=>rw[eZ]at q';exact q'
   | nx ng=>rw[eZ]at q';exact λxj pd H4 gD=>⟨pd,ng,hb gD,q'⟩
   | ct ng=>rw[eZ]at q';exact λxj pd H4 gD=>⟨pd,ng,hb gD,q'⟩
   | f7 ng=>rw[eZ]at q';exact λxj pd H4 gD=>q' xj pd H4 (hb gD)
   | ey d ng=>rw[eZ]at q';exact λv xj pd H4 gD=>q' v xj pd H4 (hb gD)
   | cp C fs=>rw[eZ]at q';exact⟨λiu af=>q'.1 iu (fD.step.c8 iu af),λx H4 lD bB kd ex=>q'.2 x H4 (zp fD.env fD.step lD) bB (λiu af=>fD.step.c8 iu (kd iu af)) ex⟩
 ·have Je:i=ds.length:=by omega
  subst Je;rw[Wx]at q';exact .inl ⟨qd,q' σ' aO H' a⟩
def jz{ez:TI}{g:gM}{tb:d8}{δ:aq->aJ (List D)}{γ:D->aq->Option aq}{β:aq->Out}(au:rW E ez δ)(bl:nE E ro g γ)(ab:fh E ro tb β):fh E ro (w6 ez g tb) (fa δ γ β):=λT ω H σ ε Y e q=>by
 refine au T ω H σ ε _ e (g0.then q λds aC bP a0 H1 ag s1 w ao=>?_);exact IG bl ab ag w ao
end
def pZ(ε:aq)(i:Nat):Bool:=match ε[i]? with
 | some (some (true,_))=>true
 | _=>false
def Kz{i:Nat}:pZ ε i=true↔∃d,ε[i]? =some (some (true,d)):=by
 unfold pZ;constructor
 ·intro h;split at h
  ·rename_i d hd;exact⟨d,hd⟩
  ·cases h
 ·rintro⟨d,h⟩;rw[h]
def h3(n:Nat)(cap:List Nat)(ε:aq):aq:=u0 n none++cap.map λi=>(ε[i]?).getD none
def tE(cA:Option (Nat×Nat))(uV:aq):Bool:=(List.range uV.length).all λj=>!pZ uV j || (match cA with
 | some (_,j')=>decide (j=j')
 | none=>false)
def qB(cA:Option (Nat×Nat))(ε oa:aq):Option aq:=match cA with
 | none=>some ε
 | some (i,j)=>if pZ ε i=true then(match oa[j]? with
  | some (some (true,d))=>some (ε.set i (some (true,d)))
  | _=>none)else some ε
def fw(cA:Option (Nat×Nat))(ε:aq):Nat->Option Nat:=λj=>match cA with
 | none=>none
 | some (i,j')=>if j=j'/\pZ ε i=true then some i else none
def iD(γ:D->aq->Option aq)(f3:aq->aJ Bool)(e2:aq->aJ D)(n:Nat)(cap:List Nat)(cA:Option (Nat×Nat)):List D->List D->aq->aJ (List D)
 | [],acc,ε=>.ok acc ε
 | d::ds,acc,ε=>if tE cA (h3 n cap ε)=true then(match γ d (h3 n cap ε)with
  | none=>.no
  | some aC=>(f3 aC).bind λb bD=>if b=true then(e2 bD).bind λx gW=>(match qB cA ε gW with
    | some ε'=>iD γ f3 e2 n cap cA ds (acc++[x]) ε'
    | none=>.no)
   else(match qB cA ε bD with
    | some ε'=>iD γ f3 e2 n cap cA ds acc ε'
    | none=>.no))else .no
def gP(mq:aq->aJ (List D))(γ:D->aq->Option aq)(f3:aq->aJ Bool)(e2:aq->aJ D)(n:Nat)(cap:List Nat)(cA:Option (Nat×Nat)):aq->aJ D:=λε=>(mq ε).bind λds aC=>if ds.length<=1000 then(iD γ f3 e2 n cap cA ds [] aC).bind λxs bD=>.ok (.lst xs) bD else .no
def O':∀j j' i,fw cA ε j=some i->fw cA ε j'=some i->j=j':=by
 intro j j' i h h';unfold fw at h h';cases cA with
 | none=>cases h
 | some p=>
  obtain⟨a,b⟩:=p;dsimp only at h h';by_cases c:j=b/\pZ ε a=true
  ·by_cases c':j'=b/\pZ ε a=true
   ·rw[c.1,c'.1]
   ·rw[if_neg c']at h';cases h'
  ·rw[if_neg c]at h;cases h
section
variable{E:e5}{T:O->Prop}{ω cN:cs}{H H2:ak}{σ:St}{ε ε' oa:aq}{n:Nat}{cap:List Nat}{cA:Option (Nat×Nat)}
def aaO{own:List Str}:(g1 (own.map λ_=>none) cap σ).length=(h3 own.length cap ε).length:=by simp[g1,h3]
def Hh{own:List Str}{j:Nat}(h:own.length<=j)(aL:cap[j - own.length]? =some i):(g1 (own.map λ_=>none) cap σ)[j]? =some ((σ[i]?).getD none):=by
 unfold g1;rw[mx (by simpa using h),dV,ft,aL]
 rfl
def O_{j:Nat}(h:n<=j)(aL:cap[j - n]? =some i):(h3 n cap ε)[j]? =some ((ε[i]?).getD none):=by
 unfold h3;rw[mx (by simpa using h),Ng,ft,aL]
 rfl
def aaH{j:Nat}(h:(h3 n cap ε)[j]? =some (some x)):n<=j/\∃i,cap[j - n]? =some i/\ε[i]? =some (some x):=by
 by_cases a2:n<=j
 ·refine⟨a2,?_⟩;cases aL:cap[j - n]? with
  | none=>
   unfold h3 at h;rw[mx (by simpa using a2),Ng,ft,aL]at h
   cases h
  | some i=>
   rw[O_ a2 aL]at h;refine⟨i,rfl,?_⟩;cases he:ε[i]? with
   | none=>rw[he]at h;cases h
   | some y=>rw[he]at h;simpa using h
 ·unfold h3 at h;rw[mw (by simpa using Nat.lt_of_not_le a2),xw]at h
  split at h<;>cases h
def bh.aaT{own:List Str}(e:bh T ω H σ ε)(ba:own.length=n)(ab:tE cA (h3 n cap ε)=true)(kN:∀i j,cA=some (i,j)->n<=j/\cap[j - n]? =some i):
  bh (gk T ω (fw cA ε)) (lG ω (fw cA ε)) H (g1 (own.map λ_=>none) cap σ) (h3 n cap ε):=by
 subst ba;refine e.sub O' aaO (λj d h=>?_) λj d h=>?_
 ·have a2:j < (h3 own.length cap ε).length:=(hf.mp h).1;have aZ:pZ (h3 own.length cap ε) j=true:=Kz.mpr ⟨d,h⟩;have a9:=pg.mp ab j (oi.mpr a2);rw[aZ]at a9;cases au:cA with
  | none=>rw[au]at a9;cases a9
  | some p=>
   obtain⟨i,j'⟩:=p;rw[au]at a9;have jq:j=j':=by simpa using a9
   subst jq;obtain⟨h1,h2⟩:=kN i j au;rw[O_ h1 h2]at h;have he:ε[i]? =some (some (true,d)):=by
    cases z:ε[i]? with
    | none=>rw[z]at h;cases h
    | some y=>rw[z]at h;simpa using h
   refine⟨i,?_,he,?_⟩
   ·unfold fw;dsimp only;rw[if_pos ⟨rfl,Kz.mpr ⟨d,he⟩⟩]
   ·rw[Hh h1 h2];obtain⟨v,aN,_⟩:=e.own i d he;rw[aN];rfl
 ·obtain⟨h1,i,h2,aN⟩:=aaH h;obtain⟨v,h4,cE⟩:=e.pl i d aN;refine⟨v,?_,cE⟩;rw[Hh h1 h2,h4];rfl
def bh.an7{own:List Str}{s5:St}(e:bh T ω H σ ε)(ba:own.length=n)(kN:∀i j,cA=some (i,j)->n<=j/\cap[j - n]? =some i)(qS:∀j i,n<=j->cap[j - n]? =some i->s5[j]? =(g1 (own.map λ_=>none) cap σ)[j]?)
  (aF:bh (gk T ω (fw cA ε)) cN H2 s5 oa)(s:Step (gk T ω (fw cA ε)) (lG ω (fw cA ε)) H cN H2)(ab:qB cA ε oa=some ε'):
  bh T (km ω cN (fw cA ε)) H2 σ ε'/\Step T ω H (km ω cN (fw cA ε)) H2/\∀v d,cn (cut (a5 (gk T ω (fw cA ε)) cN) H2) v d->cn (cut (a5 T (km ω cN (fw cA ε))) H2) v d:=by
 subst ba;have key:ε'.length=ε.length/\(∀(i:Nat),(¬∃j,fw cA ε j=some i)->ε'[i]? =ε[i]?)/\∀(i j:Nat),fw cA ε j=some i->s5[j]? =σ[i]? /\∃d,oa[j]? =some (some (true,d))/\ε'[i]? =some (some (true,d)):=by
  unfold qB at ab;cases au:cA with
  | none=>
   rw[au]at ab;cases ab;exact⟨rfl,λ_ _=>rfl,λi j h=>by unfold fw at h;cases h⟩
  | some p=>
   obtain⟨i,j⟩:=p;rw[au]at ab;dsimp only at ab;by_cases aZ:pZ ε i=true
   ·rw[if_pos aZ]at ab;split at ab
    ·rename_i d hd;cases ab;obtain⟨eJ,bE⟩:=Kz.mp aZ;have ar:i < ε.length:=(hf.mp bE).1;refine⟨rC,λi2 h2=>?_,λi2 lC h2=>?_⟩
     ·have:i≠i2:=λz=>h2 ⟨j,by unfold fw;dsimp only;rw[if_pos ⟨rfl,aZ⟩,z]⟩
      rw[j0 this]
     ·unfold fw at h2;dsimp only at h2;by_cases c:lC=j/\pZ ε i=true
      ·rw[if_pos c]at h2;cases h2;obtain⟨rfl,_⟩:=c;obtain⟨cY,dC⟩:=kN i lC au;refine⟨?_,d,hd,j1 ar⟩;rw[qS lC i cY dC,Hh cY dC];obtain⟨v,aN,_⟩:=e.own i eJ bE;rw[aN];rfl
      ·rw[if_neg c]at h2;cases h2
    ·cases ab
   ·rw[if_neg aZ]at ab;cases ab;refine⟨rfl,λ_ _=>rfl,λi2 lC h2=>?_⟩;unfold fw at h2;dsimp only at h2;rw[if_neg (λc=>aZ c.2)]at h2;cases h2
 exact e.out O' aF s key.1 key.2.1 key.2.2
def bh.rt(e:bh T ω H σ ε)(h:T P)(cm:¬bk.v P)(nx:∀φ,H P≠some (.ext φ)):bh T ω (a1 H P o) σ ε:=by
 have fR:a5 T ω P:=.inl h;have ne:∀{i a},a∈ω i->a≠P:=λbx z=>e.ee _ _ bx (by rw[z];exact h)
 refine⟨e.len,e.jl,e.ee,λa af=>?_,λi d au=>?_,λi d au=>?_,e.c7,bk.st H _ (λa φ af=>by rw[bj (λz=>nx φ (by rw[<- z];exact af))];exact af) (λa af=>bj λz=>cm (by rw[<- z];exact af)) e.bB⟩
 ·by_cases z:a=P
  ·rw[z,cw];simp
  ·rw[bj z];exact e.al a af
 ·obtain⟨v,h1,h2⟩:=e.own i d au;exact⟨v,h1,h2.mono (by rw[k' fR];exact λa o h=>.inl h) λa af=>bj (ne af)⟩
 ·obtain⟨v,h1,h2⟩:=e.pl i d au;exact⟨v,h1,by rw[k' fR];exact h2⟩
def HK{H:ak}(h:H P=some u):∀a,a1 H P o a=none->H a=none:=λa af=>by
 by_cases z:a=P
 ·rw[z,cw]at af;cases af
 ·rw[bj z]at af;exact af
def vM{own:List Str}(cA:Option (Nat×Nat))(bl:nE E ((List.range cap.length).map λk=>own.length+k) g γ)(cj:jK E f2 f3)(he:b8 E te e2)
  (kN:∀i j,cA=some (i,j)->own.length<=j/\cap[j - own.length]? =some i){aC:aq}(ag:bh T a0 H1 σ aC)(w:vy bP T a0 H1 ds)(hz:ds.length<=1000)
  (ao:dJ E T a0 H1 σ ((iD γ f3 e2 own.length cap cA ds [] aC).bind λxs bD=>.ok (.lst xs) bD) (kb T) Q)(dj:H1 P=none):vd bP g f2 te (g1 (own.map λ_=>none) cap σ) P H1 Q:=by
 have zj:bh (λa=>T a∨a=P) a0 (a1 H1 P (.lst [])) σ aC:=qK ag dj;let Inv:Nat->List V->ak->Prop:=λi ys dW=>∃aO ε' acc,bh (λa=>T a∨a=P) aO dW σ ε'/\Step T a0 H1 aO dW/\dW P=some (.lst ys)/\cP (cut (a5 (λa=>T a∨a=P) aO) dW) ys acc/\acc.length<=i/\
  dJ E T a0 H1 σ ((iD γ f3 e2 own.length cap cA (ds.drop i) acc ε').bind λxs bD=>.ok (.lst xs) bD) (kb T) Q
 refine aba ds.length Inv (nb hz) ⟨a0,aC,[],zj,ag.hl dj,cw,.nil,j2 _,ao⟩ (λi ys dW au ⟨aO,ε',acc,dK,dy,fD,gD,kc,eB⟩=>⟨fD,by rw[gD.length];exact kc⟩) (λi ys dW au ⟨aO,ε',acc,dK,dy,fD,gD,kc,eB⟩=>?_) (λys dW ⟨aO,ε',acc,dK,dy,fD,gD,kc,eB⟩=>?_) ?_
 ·have cD:∀a o,¬a5 T a0 a->H1 a=some o->¬a5 (λa=>T a∨a=P) aO a/\dW a=some o:=λa o n aR=>by
   obtain⟨h1,h2⟩:=dy.keep a o n aR;refine⟨λz=>?_,h2⟩;rcases z with(z | z) | z
   ·exact h1 (.inl z)
   ·subst z;rw[dj]at aR;cases aR
   ·exact h1 (.inr z)
  exact(w _ aO dW σ ε' dK cD).1 i au
 ·have cD:∀a o,¬a5 T a0 a->H1 a=some o->¬a5 (λa=>T a∨a=P) aO a/\dW a=some o:=λa o n aR=>by
   obtain⟨h1,h2⟩:=dy.keep a o n aR;refine⟨λz=>?_,h2⟩;rcases z with(z | z) | z
   ·exact h1 (.inl z)
   ·subst z;rw[dj]at aR;cases aR
   ·exact h1 (.inr z)
  refine⟨(w _ aO dW σ ε' dK cD).2.1,?_⟩;rw[Wx]at eB;have eB:dJ E T a0 H1 σ (.ok (.lst acc) ε') (kb T) Q:=eB;refine eB (.ref P) aO dW (dK.weak (λa z=>.inl z) ag.c7) dy ?_;refine .lst (cB.mpr ⟨λz=>?_,fD⟩) (gD.mono (gE λa z=>z.imp .inl id));rcases z with z | ⟨j,z⟩
  ·exact ag.al P (.inl z) dj
  ·exact dK.ee j P z (.inr rfl)
 ·rintro i ys dW x H' au ⟨aO,ε',acc,dK,dy,fD,gD,kc,eB⟩ y;have cD:∀a o,¬a5 T a0 a->H1 a=some o->¬a5 (λa=>T a∨a=P) aO a/\dW a=some o:=λa o n aR=>by
   obtain⟨h1,h2⟩:=dy.keep a o n aR;refine⟨λz=>?_,h2⟩;rcases z with(z | z) | z
   ·exact h1 (.inl z)
   ·subst z;rw[dj]at aR;cases aR
   ·exact h1 (.inr z)
  obtain⟨dI,em,iP⟩:=(w _ aO dW σ ε' dK cD).2.2 i x H' ds[i] y (by simp[au])
  rw[Ww au]at eB;unfold iD at eB;by_cases ab:tE cA (h3 own.length cap ε')=true
  ·rw[if_pos ab]at eB;have cC:=dI.aaT (own:=own) rfl ab kN;cases t_:γ ds[i] (h3 own.length cap ε')with
   | none=>rw[t_]at eB;exact eB.elim
   | some MS=>
    rw[t_]at eB;dsimp only at eB;have uH:Step T a0 H1 aO H':=⟨λa o n aR=>by
      obtain⟨h1,h2⟩:=cD a o n aR;obtain⟨aN,h4⟩:=em.keep a o h1 h2;exact⟨λz=>aN (z.imp .inl id),h4⟩,λa af cm=>(em.same a (.inl af) cm).trans (dy.same a af cm),λa af=>dy.c8 a (em.c8 a af)⟩
    have ah7:∀(H3:ak),(∀a o,¬bk.v a->¬(∃i,a∈aO i)->H' a=some o->H3 a=some o)->∀a o,¬bk.v a->¬(∃i,a∈a0 i)->H1 a=some o->H3 a=some o:=λH3 k=>zp (dI.weak (λa z=>.inl z) ag.c7) uH k;have agj:∀{j},P∉aO j:=λh=>dK.ee _ P h (.inr rfl);have apO:gk (λa=>T a∨a=P) aO (fw cA ε') P:=⟨.inl (.inr rfl),λ⟨j,z⟩=>by
     obtain⟨i,_,h2⟩:=sF z;exact agj h2⟩
    have IZ:¬T P:=λz=>ag.al P (.inl z) dj;have Km:¬bk.v P:=λz=>IZ (ag.c7 P z);refine bl (gk (λa=>T a∨a=P) aO (fw cA ε')) (lG aO (fw cA ε')) H' _ _ MS ds[i] x _ cC (by rw[xb];exact iP) t_ λfX aoR aF s2 da=>?_
    have qS:∀j i,own.length<=j->cap[j - own.length]? =some i->fX[j]? =(g1 (own.map λ_=>none) cap σ)[j]? :=λj i a2 aL=>da j (fB.mpr ⟨j - own.length,oi.mpr (hf.mp aL).1,by omega⟩)
    have P6:∀{MV GC aoO aoK}(pD:ak),bh (gk (λa=>T a∨a=P) aO (fw cA ε')) MV GC aoO aoK->Step (gk (λa=>T a∨a=P) aO (fw cA ε')) (lG aO (fw cA ε')) H' MV GC->(∀a o,¬bk.v a->¬(∃i,a∈MV i)->GC a=some o->pD a=some o)->∀a o,¬bk.v a->¬(∃i,a∈a0 i)->H1 a=some o->pD a=some o:=λpD Ik lO k=>ah7 pD λa o cm n aR=>zp Ik lO k a o cm (λ⟨j,z⟩=>by
     obtain⟨i,_,h2⟩:=sF z;exact n ⟨i,h2⟩) aR
    have dq:∀{qg He Fo qf},bh (gk (λa=>T a∨a=P) aO (fw cA ε')) qg He fX Fo->Step (gk (λa=>T a∨a=P) aO (fw cA ε')) (lG aO (fw cA ε')) H' qg He->qB cA ε' Fo=some qf->
      bh (λa=>T a∨a=P) (km aO qg (fw cA ε')) He σ qf/\Step (λa=>T a∨a=P) aO H' (km aO qg (fw cA ε')) He/\He P=some (.lst ys)/\cP (cut (a5 (λa=>T a∨a=P) (km aO qg (fw cA ε'))) He) ys acc/\
      (∀v d,cn (cut (a5 (gk (λa=>T a∨a=P) aO (fw cA ε')) qg) He) v d->cn (cut (a5 (λa=>T a∨a=P) (km aO qg (fw cA ε'))) He) v d)/\Step T a0 H1 (km aO qg (fw cA ε')) He:=λIa L2 qR=>by
     obtain⟨f1,fF,dc⟩:=dI.an7 (own:=own) rfl kN qS Ia L2 qR;refine⟨f1,fF,?_,(gD.mono em.le).mono fF.le,dc,⟨λa o n aR=>?_,λa af cm=>(fF.same a (.inl af) cm).trans (uH.same a af cm),λa af=>uH.c8 a (fF.c8 a af)⟩⟩
     ·rw[fF.same P (.inr rfl) Km,em.same P (.inr rfl) Km];exact fD
     ·obtain⟨h1,h2⟩:=cD a o n aR;obtain⟨aN,h4⟩:=em.keep a o h1 h2;obtain⟨cE,dY⟩:=fF.keep a o aN h4;exact⟨λz=>cE (z.imp .inl id),dY⟩
    refine cj _ aoR H' fX MS _ aF ?_;cases eZ:f3 MS with
    | no=>rw[eZ]at eB;exact eB
    | cp C fs=>rw[eZ]at eB;exact⟨λa af=>eB.1 a (uH.c8 a (s2.c8 a af)),λMP pD k bB kd ex=>eB.2 MP pD (P6 pD aF s2 k) bB (λa af=>uH.c8 a (s2.c8 a (kd a af))) ex⟩
    | ok b oa=>
     rw[eZ]at eB;intro jN aoS GB zr st adV;obtain rfl:jN=b:=adV;have iZ:=s2.trans st;cases jN with
     | true=>
      show te fX GB _;refine he _ aoS GB fX oa _ zr ?_;cases jt:e2 oa with
      | no=>simp only[aJ.bind,jt,if_true]at eB;exact eB
      | cp C fs=>
       simp only[aJ.bind,jt,if_true]at eB;exact⟨λa af=>eB.1 a (uH.c8 a (iZ.c8 a af)),λMP pD k bB kd ex=>eB.2 MP pD (P6 pD zr iZ k) bB (λa af=>uH.c8 a (iZ.c8 a (kd a af))) ex⟩
      | ok A2 Fo=>
       simp only[aJ.bind,jt,if_true]at eB;intro v qg He Ia L2 cf;cases qR:qB cA ε' Fo with
       | none=>rw[qR]at eB;exact eB.elim
       | some qf=>
        rw[qR]at eB;obtain⟨f1,fF,dc,hh,hx,tL⟩:=dq Ia (iZ.trans L2) qR;have fR:a5 (λa=>T a∨a=P) (km aO qg (fw cA ε')) P:=.inl (.inr rfl);refine⟨dc,_,qf,acc++[A2],f1.rt (.inr rfl) Km (λφ z=>by rw[dc]at z;cases z),⟨λa o n aR=>?_,λa af cm=>?_,λa af=>tL.c8 a (HK dc a af)⟩,cw,?_,by simp;omega,eB⟩
        ·obtain⟨h1,h2⟩:=tL.keep a o n aR;exact⟨h1,by rw[bj (λz=>by subst z;rw[dj]at aR;cases aR)];exact h2⟩
        ·rw[bj (λz=>by subst z;exact IZ af)]
         exact tL.same a af cm
        ·rw[k' fR];exact hh.append (.cons (hx _ _ cf) .nil)
     | false=>
      show Inv (i+1) ys GB;simp only[aJ.bind,if_false,nj]at eB;cases qR:qB cA ε' oa with
      | none=>rw[qR]at eB;exact eB.elim
      | some qf=>
       rw[qR]at eB;obtain⟨f1,fF,dc,hh,hx,tL⟩:=dq zr iZ qR;exact⟨_,qf,acc,f1,tL,dc,hh,by omega,eB⟩
  ·rw[if_neg ab]at eB;exact eB.elim
def Aw{own:List Str}(cA:Option (Nat×Nat))(au:rW E ez mq)(bl:nE E ((List.range cap.length).map λk=>own.length+k) g γ)(cj:jK E f2 f3)(he:b8 E te e2)
  (kN:∀i j,cA=some (i,j)->own.length<=j/\cap[j - own.length]? =some i):b8 E (AO own ez g f2 te cap) (gP mq γ f3 e2 own.length cap cA):=λT ω H σ ε Q e q=>by
 refine au T ω H σ ε _ e (q.then λds aC bP a0 H1 _ ag s1 w ao=>?_);by_cases hz:ds.length<=1000
 ·rw[if_pos hz]at ao;exact λP dj=>vM cA bl cj he kN ag w hz ao dj
 ·rw[if_neg hz]at ao;exact ao.elim
def wO{own:List Str}(cA:Option (Nat×Nat))(au:rW E ez mq)(bl:nE E ((List.range cap.length).map λk=>own.length+k) g γ)(he:b8 E te e2)
  (kN:∀i j,cA=some (i,j)->own.length<=j/\cap[j - own.length]? =some i):b8 E (E2 own ez g te cap) (gP mq γ (λε=>.ok true ε) e2 own.length cap cA):=λT ω H σ ε Q e q=>by
 refine au T ω H σ ε _ e (q.then λds aC bP a0 H1 _ ag s1 w ao=>?_);by_cases hz:ds.length<=1000
 ·rw[if_pos hz]at ao;intro P dj;have cj:jK E (λ_ H Q=>Q true H) (λε=>.ok true ε):=λT ω H σ ε Q e q=>q true ω H e Step.refl rfl;obtain⟨W,o8,turn⟩:=vM cA bl cj he kN ag w hz ao dj;refine⟨W,o8,λi m ys dW b0=>?_⟩;obtain⟨fm,dw⟩:=turn i m ys dW b0;refine⟨fm,?_⟩;rcases dw with dw | ⟨cY,dC,N,yr,dD,fH,jQ⟩
  ·exact .inl dw
  ·exact .inr ⟨cY,dC,N,dD,jQ⟩
 ·rw[if_neg hz]at ao;exact ao.elim
end
section
variable{E:e5}{aP:TE}{bf:aq->aJ D}{t:fi}{cy:aq->aJ (List D)}{E':eP}
def c4(F:List D->b')(cy:aq->aJ (List D)):aq->aJ D:=λε=>(cy ε).bind λds aC=>match F ds with
 | .ok d=>.ok d aC
 | _=>.no
def Hr{F:List D->b'}{H:ak}{ε:aq}(e:bh T ω H σ ε)(r:cP (cut (a5 T ω) H) vs ds)
  (q:dJ E T ω H σ (match F ds with | .ok d=>.ok d ε | _=>.no) (kb T) Q):bV F vs H Q E':=by
 cases h:F ds with
 | no=>rw[h]at q;exact q.elim
 | cp C fs=>rw[h]at q;exact q.elim
 | ok d=>
  rw[h]at q;refine⟨a5 T ω,ds,r,e.al,λa h=>.inl (e.c7 a h),e.bB,?_⟩;rw[h];intro v H' s cf;exact q v ω H' (e.zG s) (e.w2 s) cf
def gb(aS:k6 E t cy):b8 E (o7 (bV F) [] E' t) (c4 F cy):=λT ω H σ ε Q e q=>by
 refine aS T ω H σ ε _ e (q.then λx aC v a0 H1 _ ag s1 bc ao=>?_);rw[mu];exact Hr ag bc ao
def gu(C:O)(m:Str)(F:List D->b')(δ:aq->aJ D)(cy:aq->aJ (List D)):aq->aJ D:=λε=>(δ ε).bind λo aC=>match o with
 | .ins dp fs=>if dp=C/\fs.lookup m=none then(cy aC).bind λds bD=>(match F (.ins dp fs::ds)with
  | .ok d=>.ok d bD
  | _=>.no)else .no
 | _=>.no
def m7(af:b8 E aP bf)(aS:k6 E t cy):b8 E (AQ C m (bV F) [] E' aP t) (gu C m F bf cy):=λT ω H σ ε Q e q=>by
 refine af T ω H σ ε _ e (q.then λx aC v a0 H1 _ ag s1 bc ao=>?_);cases x<;>try (exact ao.elim)
 rename_i dp fs _;by_cases aL:dp=C/\fs.lookup m=none
 ·obtain⟨rfl,ba⟩:=aL;dsimp only at ao;rw[if_pos ⟨rfl,ba⟩]at ao;obtain⟨a,dx,vs,rfl,h1,h2⟩:=EF (.inl bc);refine⟨a,dx,vs,rfl,h1,h2.no ba,?_⟩;refine aS T a0 H1 σ aC _ ag (dJ.then ao λy bD u cN H2 _ aF s2 cL bZ=>?_);rw[mu];exact Hr aF (.cons (bc.mono s2.le) cL) bZ
 ·dsimp only at ao;rw[if_neg aL]at ao;exact ao.elim
end
def eR(n:Nat)(ds:List D):aq:=ds.map (λd=>G d)++u0 (n - ds.length) none
def sH:Out->b'
 | .ey d _=>.ok d
 | .nx _=>.ok .bb
 | .cp C fs=>.cp C fs
 | _=>.no
def bS(β:aq->Out)(np n:Nat):List D->b':=λds=>if ds.length=np then sH (β (eR n ds))else .no
def C2(r:cP (cut U H) vs ds)(al:∀a,U a->H a≠none)(bm:∀a,bk.v a->U a)(bB:bk.i H):bh U (λ_=>[]) H (start N vs) (eR N.length ds):=by
 have fR:a5 U (λ_=>[])=U:=by
  funext a;exact propext ⟨λh=>h.elim id λ⟨i,z⟩=>(by cases z),.inl⟩
 refine⟨by simp[start,eR,r.length],λi j a h=>(by cases h),λi a h=>(by cases h),λa h=>al a (by rw[<- fR];exact h),λi d h=>?_,λi d h=>?_,bm,bB⟩
 ·exfalso;unfold eR at h;by_cases au:i < ds.length
  ·rw[mw (by simpa using au),ft]at h
   obtain⟨x,_,ah⟩:=jD.mp h;cases ah
  ·rw[mx (by simpa using Bf au),xw]at h
   split at h<;>cases h
 ·unfold eR at h;by_cases au:i < ds.length
  ·rw[mw (by simpa using au),ft]at h
   obtain⟨x,ah,he⟩:=jD.mp h;cases he;obtain⟨v,h1,h2⟩:=r.get ah;refine⟨v,?_,by rw[fR];exact h2⟩
   unfold start;rw[mw (by rw[dV,r.length];exact au),ft,h1]
   rfl
  ·rw[mx (by simpa using Bf au),xw]at h
   split at h<;>cases h
section
variable{P:dn}{w:cH}{K:b5}{mg:Str->Option aj}{base:cg}{x qual:Str}{st:cc}{f:O}{aE:f4}{N ps:List Str}{k:Nat}{β:aq->Out}{ro:List Nat}
def Hn{E:eP}{H:ak}(ab:fh ⟨E,H⟩ ro t β)(h:bV (bS β ps.length N.length) vs H Q E):t {nx:=λ_ H'=>Q .bb H',ey:=Q} (start N vs) H:=by
 obtain⟨U,ds,r,al,bm,bB,q⟩:=h;have fR:a5 U (λ_=>[])=U:=by
  funext a;exact propext ⟨λh=>h.elim id λ⟨i,z⟩=>(by cases z),.inl⟩
 have m':∀{aO H'},Step U (λ_=>[]) H aO H'->bk.i H'->fO H H':=λs AW=>⟨λa o cm aR=>by
  by_cases z:U a
  ·rw[s.same a z cm];exact aR
  ·exact(s.keep a o (by rw[fR];exact z) aR).2,s.c8,AW⟩
 refine ab U (λ_=>[]) H (start N vs) (eR N.length ds) _ (C2 r al bm bB) ?_;unfold bS at q;by_cases ar:ds.length=ps.length
 ·rw[if_pos ar]at q;cases eZ:β (eR N.length ds)with
  | no=>rw[eZ]at q;exact q
  | f7 ε=>rw[eZ]at q;exact q.elim
  | ct ε=>rw[eZ]at q;exact q.elim
  | nx ε=>rw[eZ]at q;exact λσ' aO H' a=>q .bb H' (m' a.step a.env.bB) .bb
  | ey d ε=>rw[eZ]at q;exact λv σ' aO H' a cf=>q v H' (m' a.step a.env.bB) (cf.mono (gE λa z=>.inl z))
  | cp C fs=>rw[eZ]at q;exact⟨λ_ h=>h,λx H' kk AW kd ex=>q x H' ⟨λa o cm aR=>kk a o cm (λ⟨i,z⟩=>by cases z) aR,kd,AW⟩ ex⟩
 ·rw[if_neg ar]at q;exact q.elim
def Mc{F:List D->b'}{n:Nat}(cZ:∀ds,F ds= .no∨ds.length=n)(h:bV F vs H Q E):vs.length=n:=by
 obtain⟨U,ds,r,al,bm,bB,q⟩:=h;rcases cZ ds with z | z
 ·rw[z]at q;exact q.elim
 ·rw[r.length];exact z
def HI{np n:Nat}(ds:List D):bS β np n ds= .no∨ds.length=np:=by
 unfold bS;by_cases h:ds.length=np
 ·exact .inr h
 ·rw[if_neg h];exact .inl rfl
def bT.den(F:bT K x qual st f aE)(S:cX N ps (bY st))
  (ab:∀(bA:aj)(A:d0)(a3:List fL)(s:aM)(H:ak)(E:eP),dT k (A.deeper (envOfC qual (bY st) s.heap.objs.size f bA))->
   ∃t,hw (jk bq P w K mg base N qual (bY st) f bA A a3 s H E).nZ (fE st) t/\fh ⟨E,H⟩ ro t β):aY P w K mg base bq (k+1) f aE ps (bV (bS β ps.length N.length)):=
 F.ok S (λvs H Q E h=>Mc HI h) λbA A a3 s H vs Q E aA h=>by
  obtain⟨t,h1,h2⟩:=ab bA A a3 s H E aA;exact⟨t,h1,Hn h2 h⟩
def bT.oI(F:bT K x qual st f aE)(S:cX N ps (bY st))
  (ab:∀(bA:aj)(A:d0)(a3:List fL)(s:aM)(H:ak)(E:eP),dT k (A.deeper (envOfC qual (bY st) s.heap.objs.size f bA))->
   ∃t,hw (jk (eb P w) P w K mg base N qual (bY st) f bA A a3 s H E) (fE st) t/\fh ⟨E,H⟩ ro t β):aY P w K mg base (eb P w) (k+1) f aE ps (bV (bS β ps.length N.length)):=
 F.TB S (λvs H Q E h=>Mc HI h) λbA A a3 s H vs Q E aA h=>by
  obtain⟨t,h1,h2⟩:=ab bA A a3 s H E aA;exact⟨t,h1,Hn h2 h⟩
end
section
variable{E:e5}{ro:List Nat}{T:O->Prop}{ω a0:cs}{H H1:ak}{σ:St}{ε aC:aq}{Y:Ends}{K:b5}{aP tb hT:TE}{bf cR kz:aq->aJ D}
def dJ.back{α β:Type}{r:aJ α}{kG:α->cs->ak->β->Prop}{Q:β->ak->Prop}(h:dJ E T ω H σ r kG Q)(e:bh T a0 H1 σ aC)(s:Step T ω H a0 H1):dJ E T a0 H1 σ r kG Q:=by
 cases r with
 | no=>exact h
 | ok x ε'=>exact λv aO H' bQ s' p=>h v aO H' bQ (s.trans s') p
 | cp C fs=>exact⟨λa af=>h.1 a (s.c8 a af),λx H' k bB kd ex=>h.2 x H' (zp e s k) bB (λa af=>s.c8 a (kd a af)) ex⟩
def CY(f g:D->D->Option D)(bf cR kz:aq->aJ D):aq->aJ D:=λε=>(bf ε).bind λa aC=>(cR aC).bind λb bD=>(dv ((f a b).bind hL) bD).bind λk gW=>if k=true then(kz gW).bind λc ng=>dv (g b c) ng else .ok (.aG false) gW
def Ui{r dA:iJ}{f g:D->D->Option D}(aA:iq r f)(ahr:iq dA g)(af:b8 E aP bf)(ab:b8 E tb cR)(aL:b8 E hT kz):b8 E (Vf r dA aP tb hT) (CY f g bf cR kz):=λT ω H σ ε Q e q=>by
 refine af T ω H σ ε _ e (q.then λx aC v a0 H1 _ ag s1 bc ao=>?_);refine ab T a0 H1 σ aC _ ag (ao.then λy bD u cN H2 _ aF s2 cL bZ=>?_);cases aH:f x y with
 | none=>rw[aH]at bZ;exact bZ.elim
 | some d=>
  rw[aH]at bZ;cases aw:hL d with
  | none=>rw[om,aw]at bZ;exact bZ.elim
  | some k=>
   rw[om,aw]at bZ;refine aA T cN H2 σ bD v u x y d _ aF (.inl (bc.mono s2.le)) (.inl cL) aH λw H3 cU s3 iV=>?_;refine⟨k,EG iV aw,?_⟩;have fk:dJ E T cN H2 σ (if k=true then(kz bD).bind λc ng=>dv (g y c) ng else .ok (.aG false) bD) (kb T) Q:=bZ
   cases k with
   | false=>exact fk _ cN H3 cU s3 (.aG false)
   | true=>
    rw[if_pos rfl]at fk;refine aL T cN H3 σ bD _ cU ((fk.back cU s3).then λz ng fq pd H4 _ jn fI m5 alU=>?_);obtain⟨d',oR,kk⟩:=alU.opt;exact ahr T pd H4 σ ng u fq y z d' Q jn (.inl ((cL.mono s3.le).mono fI.le)) (.inl m5) oR λqd H5 ke ha alc=>kk qd pd H5 ke ha alc
def C8(i j:Str):Bool:=!(Wb j i 0 j.length 1).isEmpty
def DF(H0:ak)(gz:TE):TI:=λσ H R=>gz σ H λx H1=>∃d kvs,x= .ref d/\((H1 d=some (.a7 kvs)/\∀o,(∀o' fg,H0 d≠some (.eQ o' fg))->R (Cg d o kvs) (a1 H1 d (.eQ o (.a7 kvs))))∨∃o,H1 d=some (.eQ o (.a7 kvs))/\R (Cg d o kvs) H1)
def uz(ar:bz X l gz):mE X dH l (DF X.H₀ gz):=by
 intro aa s σ H R I h;refine bJ (ar aa s σ H _ I h) λv s1 ⟨x,H1,aW,b4,ao⟩=>?_;obtain⟨d,kvs,e,ao⟩:=ao;subst e;cases b4;rcases ao with⟨hd,q⟩ | ⟨o,hd,q⟩
 ·have aH:=aW.To hd λ_ _ z=>nomatch z;obtain⟨z,aS,vs,rel,o,es,ep,bQ,c,bN,dG⟩:=CX aW.a' hd;refine Yb (knd:=fG X.prog X.w) (kvs:=vs) (ep:=ep) aS ⟨o,es,bQ,c,bN,dG⟩ ?_;have bU:=(aW.freeze hd bQ).kept (t':=s1.toks) (h':=s1.heap.push {cls:=.type "dict_keyiterator",data:=.fields #[.ref d,.int 0 0,.int vs.length 0,.int ep 0]}) λb o e=>cV _ e;refine⟨s1.heap.objs.size,[s1.heap.objs.size],_,_,_,rfl,bU,VG (o:=o) (kvs:=kvs) (d:=d) _ bN,⟨_,eT _ rfl,rfl,?_⟩,λb ab=>?_,q o aH⟩
  ·rw[show kvs.length=vs.length from rel.length]
   rfl
  ·have e:b=s1.heap.objs.size:=by simpa using ab
   subst e;exact aW.qJ (c9 _) ((bj (ph (aW.a'.lt hd))).trans (aW.a'.fresh (c9 _)))
 ·have aZ:s1.heap.get? d=some o:=(aW.a' d _ hd).1;obtain⟨z,aS,vs,rel,o',es,ep,bQ,c,bN,dG⟩:=lZ aW.a' (.inr ⟨o,hd⟩);rw[aZ]at bQ;cases bQ;refine Yb (knd:=fG X.prog X.w) (kvs:=vs) (ep:=ep) aS ⟨o,es,aZ,c,bN,dG⟩ ?_;have bU:=aW.kept (t':=s1.toks) (h':=s1.heap.push {cls:=.type "dict_keyiterator",data:=.fields #[.ref d,.int 0 0,.int vs.length 0,.int ep 0]}) λb o e=>cV _ e;refine⟨s1.heap.objs.size,[s1.heap.objs.size],_,_,_,rfl,bU,VG (o:=o) (kvs:=kvs) (d:=d) _ bN,⟨_,eT _ rfl,rfl,?_⟩,λb ab=>?_,q⟩
  ·rw[show kvs.length=vs.length from rel.length]
   rfl
  ·have e:b=s1.heap.objs.size:=by simpa using ab
   subst e;exact aW.qJ (c9 _) (aW.a'.fresh (c9 _))
def rZ(H0:ak)(H:ak)(Q:ak->Prop):Prop:=(∃d o kvs,H d=some (.eQ o (.a7 kvs))/\(∀o' fg,H0 d≠some (.eQ o' fg))/\Q (a1 H d (.a7 kvs)))∨Q H
def Ends.MC(Y:Ends)(H0:ak):Ends:=⟨λσ H=>rZ H0 H (Y.nx σ),λv H=>rZ H0 H (Y.ey v),λσ H=>rZ H0 H (Y.f7 σ),λσ H=>rZ H0 H (Y.ct σ)⟩
def wM{st:cc}(h:hZ X st t):hZ X st (λD σ H=>t (D.MC X.H₀) σ H):=by
 intro aa s σ H D I q;refine bJ (h aa s σ H _ I q) λf s1 ao=>?_;cases f with
 | next=>obtain⟨σ',H',dX,⟨d,o,kvs,e,aH,q⟩ | q⟩:=ao;exact⟨σ',_,dX.AS e aH,q⟩;exact⟨σ',_,dX,q⟩
 | brk=>obtain⟨σ',H',dX,⟨d,o,kvs,e,aH,q⟩ | q⟩:=ao;exact⟨σ',_,dX.AS e aH,q⟩;exact⟨σ',_,dX,q⟩
 | cont=>obtain⟨σ',H',dX,⟨d,o,kvs,e,aH,q⟩ | q⟩:=ao;exact⟨σ',_,dX.AS e aH,q⟩;exact⟨σ',_,dX,q⟩
 | ret u=>obtain⟨v,σ',H',dX,r,⟨d,o,kvs,e,aH,q⟩ | q⟩:=ao;exact⟨v,σ',_,dX.AS e aH,r,q⟩;exact⟨v,σ',_,dX,r,q⟩
def als(h:bz X e t):bz X e (λσ H Q=>t σ H λv H'=>rZ X.H₀ H' (Q v)):=by
 intro aa s σ H Q I q;refine bJ (h aa s σ H _ I q) λu s1 ⟨v,H',dX,r,q⟩=>?_;rcases q with⟨d,o,kvs,e,aH,q⟩ | q
 ·exact⟨v,_,dX.AS e aH,r,q⟩
 ·exact⟨v,_,dX,r,q⟩
def bh.turn{d:O}(e:bh T ω H σ ε)(n:¬a5 T ω d)(l:fu (cut (a5 T ω) H) (cut (a5 T ω) (a1 H d o)))(nx:∀φ,H d≠some (.ext φ)):bh T ω (a1 H d o) σ ε:=
 ⟨e.len,e.jl,e.ee,λa h=>by rw[bj (λz=>n (by rw[<- z];exact h))];exact e.al a h,λi c h=>by
   obtain⟨v,h1,h2⟩:=e.own i c h;exact⟨v,h1,h2.mono l λa af=>bj λz=>n (by rw[<- z];exact .inr ⟨i,af⟩)⟩,
  λi c h=>by
   obtain⟨v,h1,h2⟩:=e.pl i c h;exact⟨v,h1,h2.mono l⟩,e.c7,bk.st H _ (λa φ af=>by rw[bj (λz=>nx φ (by rw[<- z];exact af))];exact af) (λa af=>bj λz=>n (by rw[<- z];exact .inl (e.c7 a af))) e.bB⟩
def JV{U:O->Prop}(h:H d=some (.a7 kvs))(n:¬U d):fu (cut U H) (cut U (a1 H d (.eQ bW (.a7 kvs)))):=λa o aR=>by
 obtain⟨h1,h2⟩:=cB.mp aR;by_cases z:a=d
 ·subst z;rw[h]at h2;cases h2;exact .inr (.inl ⟨kvs,bW,rfl,cB.mpr ⟨h1,cw⟩⟩)
 ·exact .inl (cB.mpr ⟨h1,by rw[bj z];exact h2⟩)
def ws{U:O->Prop}(h:H d=some (.eQ bW (.a7 kvs)))(n:¬U d):fu (cut U H) (cut U (a1 H d (.a7 kvs))):=λa o aR=>by
 obtain⟨h1,h2⟩:=cB.mp aR;by_cases z:a=d
 ·subst z;rw[h]at h2;cases h2;exact .inr (.inr ⟨kvs,bW,rfl,cB.mpr ⟨h1,cw⟩⟩)
 ·exact .inl (cB.mpr ⟨h1,by rw[bj z];exact h2⟩)
def Ml(h:H d=some (.a7 kvs))(n:¬a5 T ω d)(s:Step T ω (a1 H d (.eQ bW (.a7 kvs))) cN H2):H2 d=some (.eQ bW (.a7 kvs))/\¬a5 T cN d/\Step T ω H cN (a1 H2 d (.a7 kvs)):=by
 obtain⟨h1,h2⟩:=s.keep d _ n cw;refine⟨h2,h1,⟨λa o na aR=>?_,λa af cm=>?_,λa af=>?_⟩⟩
 ·by_cases z:a=d
  ·subst z;rw[h]at aR;cases aR;exact⟨h1,cw⟩
  ·rw[bj z];exact s.keep a o na (by rw[bj z];exact aR)
 ·have z:a≠d:=λz=>n (by rw[<- z];exact .inl af)
  rw[bj z,s.same a af cm,bj z]
 ·by_cases z:a=d
  ·rw[z,cw]at af;cases af
  ·rw[bj z]at af;have:=s.c8 a af
   rwa [bj z]at this
def hA(bR:List (bM×D)):List D:=bR.map λcO=>match cO.1 with
 | .inl i=>.int i
 | .inr x=>.str x
def ah9:cn H (dF k) (match k with | .inl i=>D.int i | .inr x=>D.str x):=by
 cases k
 ·exact .int _
 ·exact .str _
def xf{bR:List (bM×D)}(h:H d=some (.eQ bW (.a7 kvs)))(n:¬a5 T ω d)(nN:kvs.map (·.1)=bR.map (·.1)):vy (Cg d bW kvs) T ω H (hA bR):=λT' aO H' σ' ε' bQ sx=>by
 have hd:=(sx d _ n h).2;have ar:(hA bR).length=kvs.length:=by
  have:=congrArg List.length nN;simp[hA]at this ⊢;exact this.symm
 refine⟨λi au=>⟨hd,by omega⟩,⟨hd,by omega⟩,λi x pC c y aL=>?_⟩
 obtain⟨rfl,k,v,h1,rfl⟩:=y;unfold hA at aL;rw[ft]at aL;obtain⟨cO,h2,rfl⟩:=jD.mp aL;have aN:(kvs.map (·.1))[i]? =(bR.map (·.1))[i]? :=by rw[nN]
 rw[ft,ft,h1,h2]at aN;have h4:k=cO.1:=by simpa using aN
 subst h4;exact⟨bQ,Step.refl,ah9⟩
def Tj:Out->Out
 | .cp _ _=>.no
 | o=>o
def O7:D->Option (List (bM×D))
 | .aK bR=>some bR
 | _=>none
def p5(δ:aq->aJ D)(γ:D->aq->Option aq)(β:aq->Out):aq->Out:=λε=>(δ ε).out λa aC=>match O7 a with
 | some bR=>Tj (jP γ β (hA bR) aC)
 | none=>.no
def AN{g:gM}{tb:d8}{γ:D->aq->Option aq}{β:aq->Out}{H0:ak}(af:b8 E aP bf)(bl:nE E ro g γ)(ab:fh E ro tb β):fh E ro (λY σ H=>w6 (DF H0 aP) g tb (Y.MC H0) σ H) (p5 bf γ β):=λT ω H σ ε Y e q=>by
 refine af T ω H σ ε _ e (g0.then q λx aC v a0 H1 ag s1 bc ao=>?_);cases x<;>try (exact ao.elim)
 rename_i bR;have ao:g0 E ro T a0 H1 σ (Tj (jP γ β (hA bR) aC)) Y:=ao;cases bc with
 | aK r hF=>
  rename_i d kvs;obtain⟨a4,r⟩:=oF r;rcases r with r | ⟨bW,r⟩
  ·refine⟨d,kvs,rfl,.inl ⟨r,λbW aH=>?_⟩⟩;have aF:bh T a0 (a1 H1 d (.eQ bW (.a7 kvs))) σ aC:=ag.turn a4 (JV r a4) (λφ z=>by rw[r]at z;cases z)
   refine IG bl ab aF (xf (bR:=bR) cw a4 hF.keys) ?_;have qA:∀{ε' σ' aO H'},jh ro T a0 (a1 H1 d (.eQ bW (.a7 kvs))) σ ε' σ' aO H'->H' d=some (.eQ bW (.a7 kvs))/\jh ro T a0 H1 σ ε' σ' aO (a1 H' d (.a7 kvs))/\fu (cut (a5 T aO) H') (cut (a5 T aO) (a1 H' d (.a7 kvs))):=λa=>by
    obtain⟨h1,h2,aN⟩:=Ml r a4 a.step;exact⟨h1,⟨a.env.turn h2 (ws h1 h2) (λφ z=>by rw[h1]at z;cases z),aN,a.ro⟩,ws h1 h2⟩
   cases ar:jP γ β (hA bR) aC with
   | no=>rw[ar]at ao;exact ao
   | cp C fs=>rw[ar]at ao;exact ao.elim
   | nx ε'=>rw[ar]at ao;exact λσ' aO H' a=>.inl ⟨d,bW,kvs,(qA a).1,aH,ao σ' aO _ (qA a).2.1⟩
   | f7 ε'=>rw[ar]at ao;exact λσ' aO H' a=>.inl ⟨d,bW,kvs,(qA a).1,aH,ao σ' aO _ (qA a).2.1⟩
   | ct ε'=>rw[ar]at ao;exact λσ' aO H' a=>.inl ⟨d,bW,kvs,(qA a).1,aH,ao σ' aO _ (qA a).2.1⟩
   | ey c ε'=>rw[ar]at ao;exact λv σ' aO H' a cf=>.inl ⟨d,bW,kvs,(qA a).1,aH,ao v σ' aO _ (qA a).2.1 (cf.mono (qA a).2.2)⟩
  ·refine⟨d,kvs,rfl,.inr ⟨bW,r,?_⟩⟩;refine IG bl ab ag (xf (bR:=bR) r a4 hF.keys) ?_;cases ar:jP γ β (hA bR) aC with
   | no=>rw[ar]at ao;exact ao
   | cp C fs=>rw[ar]at ao;exact ao.elim
   | nx ε'=>rw[ar]at ao;exact λσ' aO H' a=>.inr (ao σ' aO H' a)
   | f7 ε'=>rw[ar]at ao;exact λσ' aO H' a=>.inr (ao σ' aO H' a)
   | ct ε'=>rw[ar]at ao;exact λσ' aO H' a=>.inr (ao σ' aO H' a)
   | ey c ε'=>rw[ar]at ao;exact λv σ' aO H' a cf=>.inr (ao v σ' aO H' a cf)
def D3{α:Type}:aJ α->aJ α
 | .cp _ _=>.no
 | r=>r
def tJ(δ:aq->aJ D)(γ:D->aq->Option aq)(f3:aq->aJ Bool)(e2:aq->aJ D)(n:Nat)(cap:List Nat)(cA:Option (Nat×Nat)):aq->aJ D:=λε=>(δ ε).bind λa aC=>match O7 a with
 | some bR=>if(hA bR).length<=1000 then D3 ((iD γ f3 e2 n cap cA (hA bR) [] aC).bind λxs bD=>.ok (.lst xs) bD)else .no
 | none=>.no
def alI{own:List Str}{cap:List Nat}(cA:Option (Nat×Nat))(af:b8 E aP bf)(bl:nE E ((List.range cap.length).map λk=>own.length+k) g γ)(cj:jK E f2 f3)(he:b8 E te e2)
  (kN:∀i j,cA=some (i,j)->own.length<=j/\cap[j - own.length]? =some i):b8 E (λσ H Q=>AO own (DF H0 aP) g f2 te cap σ H λv H'=>rZ H0 H' (Q v)) (tJ bf γ f3 e2 own.length cap cA):=λT ω H σ ε Q e q=>by
 refine af T ω H σ ε _ e (q.then λx aC v a0 H1 _ ag s1 bc ao=>?_);cases x<;>try (exact ao.elim)
 rename_i bR _;have ao:dJ E T a0 H1 σ (if(hA bR).length<=1000 then D3 ((iD γ f3 e2 own.length cap cA (hA bR) [] aC).bind λxs bD=>.ok (.lst xs) bD)else .no) (kb T) Q:=ao
 by_cases hz:(hA bR).length<=1000
 ·rw[if_pos hz]at ao;cases bc with
  | aK r hF=>
   rename_i d kvs;obtain⟨a4,r⟩:=oF r;rcases r with r | ⟨bW,r⟩
   ·refine⟨d,kvs,rfl,.inl ⟨r,λbW aH P dj=>?_⟩⟩;have aF:bh T a0 (a1 H1 d (.eQ bW (.a7 kvs))) σ aC:=ag.turn a4 (JV r a4) (λφ z=>by rw[r]at z;cases z)
    refine vM cA bl cj he kN aF (xf (bR:=bR) cw a4 hF.keys) hz ?_ dj;cases ar:(iD γ f3 e2 own.length cap cA (hA bR) [] aC).bind λxs bD=>aJ.ok (D.lst xs) bD with
    | no=>rw[ar]at ao;exact ao
    | cp C fs=>rw[ar]at ao;exact ao.elim
    | ok c ε'=>
     rw[ar]at ao;intro v aO H' bQ s' cf;obtain⟨h1,h2,aN⟩:=Ml r a4 s';exact .inl ⟨d,bW,kvs,h1,aH,ao v aO _ (bQ.turn h2 (ws h1 h2) (λφ z=>by rw[h1]at z;cases z)) aN (cf.mono (ws h1 h2))⟩
   ·refine⟨d,kvs,rfl,.inr ⟨bW,r,λP dj=>?_⟩⟩;refine vM cA bl cj he kN ag (xf (bR:=bR) r a4 hF.keys) hz ?_ dj;cases ar:(iD γ f3 e2 own.length cap cA (hA bR) [] aC).bind λxs bD=>aJ.ok (D.lst xs) bD with
    | no=>rw[ar]at ao;exact ao
    | cp C fs=>rw[ar]at ao;exact ao.elim
    | ok c ε'=>
     rw[ar]at ao;exact λv aO H' bQ s' cf=>.inr (ao v aO H' bQ s' cf)
 ·rw[if_neg hz]at ao;exact ao.elim
def vW(ds:List D):List D:=(List.range ds.length).map λ(i:Nat)=>.tup [.int i,(ds[i]?).getD .bb]
def aay:D->Option (List D)
 | .lst ds=>some (vW ds)
 | _=>none
def HP(δ:aq->aJ D):aq->aJ (List D):=di aay δ
def ahY(af:b8 E aP bf):rW E (Sb K (gd aP gy)) (HP bf):=λT ω H σ ε Q e q=>by
 refine af T ω H σ ε _ e (q.then λx aC v a0 H1 _ ag s1 bc ao=>?_);obtain⟨ds,hd,k⟩:=ao.opt;cases x<;>try (cases hd;done)
 cases hd;rename_i ds _;cases bc with
 | lst h1 h2=>
  rename_i a vs;obtain⟨aN,h4⟩:=cB.mp h1;have ar:(vW ds).length=vs.length:=by simp[vW,h2.length]
  refine⟨a,rfl,⟨vs,cS.of h4⟩,k _ a0 H1 ag Step.refl λT' aO H' σ' ε' bQ s'=>?_⟩;have cE:=(s' a _ aN h4).2;refine⟨λi au=>⟨vs,vs[i]'(by omega),cS.of cE,by simp⟩,⟨vs,cS.of cE,by omega⟩,λi x pC d y hd=>?_⟩
  obtain⟨p,w,rfl,aB,rfl,y⟩:=y;have b0:=y vs (cS.of cE);unfold vW at hd;rw[ft]at hd;obtain⟨j,a2,rfl⟩:=jD.mp hd;obtain⟨eD,rfl⟩:i < ds.length/\i=j:=by simpa[WJ]using hf.mp a2
  obtain⟨fq,dY,l7⟩:=h2.get (jC eD);rw[b0]at dY;cases dY;refine⟨bQ.new aB,bQ.hl aB,Kh bQ aB (.cons (.int _) (.cons ?_ .nil))⟩;rw[jC eD];exact l7.mono (JW s')
def Rf(af:mF E aP bf):rV E (kp (λxs H Q=>∃(p:O)(kvs:List (bM×V)),xs=[V.ref p]/\ec H p (.a7 kvs)/\∀l,H l=none->Q (.ref l) (a1 H l (.a7 kvs))) (gd aP gy)) (bg zt bf):=λT ω H σ ε Q e q=>by
 unfold bg at q;refine af T ω H σ ε _ e ?_;cases jt:bf ε with
 | no=>rw[jt]at q;exact q
 | cp C fs=>rw[jt]at q;exact q
 | ok x aC=>
  rw[jt]at q;intro v a0 H1 ag s1 bc;cases x<;>try (exact q.elim)
  rename_i bR;obtain⟨a,vs,rfl,h1,h2⟩:=m8 bc;refine⟨a,vs,rfl,h1,λl ar=>?_⟩;have le:fu (cut (a5 T a0) H1) (cut (a5 (λa=>T a∨a=l) a0) (a1 H1 l (.a7 vs))):=λa u h=>.inl (by
   obtain⟨cY,dC⟩:=cB.mp h;have na:a≠l:=eK dC ar;refine cB.mpr ⟨λz=>?_,by rw[bj na];exact dC⟩
   rcases z with(z | z) | z
   ·exact cY (.inl z)
   ·exact na z
   ·exact cY (.inr z))
  exact q _ a0 _ (ag.new ar) (s1.trans (ag.hl ar)) ⟨l,rfl,s1.c8 l ar,qK ag ar,.aK cw (h2.mono le)⟩
def mi(b7:O->Prop)(mI:Str)(fl:List Str):e4:=λvs H Q _=>∃(a C:O)(ys:List Str),vs= .ref a::ys.map V.str/\H a=some (iG C none a)/\b7 C/\(∀y∈ys,y.length<=1000)/\ys.length=fl.length/\
 ∀d H',H d=none->d≠a->H' d=some (jH d (("called",.str mI)::fl.zip (ys.map V.str)))->H' a=some (iG C (some d) a)->(∀b o,H b=some o->b≠a->H' b=some o)->Q .bb H'
def jy(C:O)(mI:Str)(fl:List Str)(cy:aq->aJ (List D)):aq->Out:=λε=>(cy ε).out λds _=>match ds.mapM hr with
 | some ys=>if ys.length=fl.length/\ys.length<=100/\ys.all (λy=>decide (y.length<=1000))=true then .cp C (("called",.str mI)::fl.zip (ys.map V.str))else .no
 | none=>.no
def o6{b7:O->Prop}(M:rP K C f)(g:b7 C)(aS:k6 E t cy):fh E ro (MA E.h K (My C (mi b7 mI fl) [] E' t) E.k) (jy C mI fl cy):=λT ω H σ ε Y e q=>by
 refine aS T ω H σ ε _ e (g0.then q λds aC vs a0 H1 ag s1 bc ao=>?_);cases bx:ds.mapM hr with
 | none=>rw[bx]at ao;exact ao.elim
 | some ys=>
  rw[bx]at ao;dsimp only at ao;by_cases aL:ys.length=fl.length/\ys.length<=100/\ys.all (λy=>decide (y.length<=1000))=true
  ·rw[if_pos aL]at ao;obtain rfl:=rj bc bx;refine⟨by rw[dV];exact aL.2.1,λa af=>?_⟩
   refine⟨a,C,ys,by rw[mu],cw,g,λy b2=>of_decide_eq_true (pg.mp aL.2.2 y b2),aL.1,λd H' hd js h1 h2 aN=>⟨rfl,a,C,d,f,rfl,h2,M,ao.1 a af,?_⟩⟩
   have RL:H1 d=none:=by rw[bj js]at hd;exact hd
   have cD:∀b o,H1 b=some o->a1 H' a (jI C d a) b=some o:=λb o cC=>by
    have Kd:b≠a:=eK cC af;rw[bj Kd];exact aN b o (by rw[bj Kd];exact cC) Kd
   refine ao.2 d _ (λb o _ hC cC=>cD b o cC) (bk.st H1 _ (λx φ ah=>cD x _ ah) (λx ah=>?_) ag.bB) (λx ah=>?_) (by rw[bj js];exact h1)
   ·cases a9:H1 x with
    | none=>exact absurd a9 (ag.al x (.inl (ag.c7 x ah)))
    | some o=>exact cD x o a9
   ·cases a9:H1 x with
    | none=>rfl
    | some o=>rw[cD x o a9]at ah;cases ah
  ·rw[if_neg aL]at ao;exact ao.elim
def pK:D->D->Option D
 | .lst a,.lst b=>match a.mapM hr,b.mapM hr with
  | some x,some y=>some (.aG (!decide (x=y)))
  | _,_=>none
 | _,_=>none
def TA:iq (λx y H Q=>∃(p q:O)(as bs:List Str),x= .ref p/\y= .ref q/\H p=some (.lst (as.map V.str))/\H q=some (.lst (bs.map V.str))/\Q (.aG (!decide (as=bs))) H) pK:=o0 λT ω H x y dx g2 d Q d6 eM aH k=>by
 cases dx<;>cases g2<;>try (cases aH;done)
 rename_i a b;obtain⟨p,vs,rfl,h1,h2⟩:=jX d6;obtain⟨q,cJ,rfl,aN,h4⟩:=jX eM;cases af:a.mapM hr with
 | none=>simp[pK,af]at aH
 | some x=>
  cases ab:b.mapM hr with
  | none=>simp[pK,af,ab]at aH
  | some y=>
   simp only[pK,af,ab,ao3]at aH;subst aH;obtain rfl:=rj h2 af;obtain rfl:=rj h4 ab;exact⟨p,q,x,y,rfl,rfl,h1,aN,k _ (.aG _)⟩
end
def TM{X:bp}(aD:X.A.units+1 < cLine):f6 X (compareOp .NotEq) (λx y H Q=>∃(p q:O)(as bs:List Str),x= .ref p/\y= .ref q/\H p=some (.lst (as.map V.str))/\H q=some (.lst (bs.map V.str))/\Q (.aG (!decide (as=bs))) H):=ak3 (Nm aD)
def abg{X:bp}{aX:gh}{own caps:List Str}{cl:List (Str×O)}{kk:Str}(kind:aX.kind= .function)(one:∀y∈aX.names,y.2= .cell->y.1=kk)
  (names:∀y∈aX.names,y.2= .local->aX.names.lookup y.1=some .local)(only:∀y∈aX.names,y.2= .free->y.1∈caps)(nJ:closureFor aX X.env=pure cl)(Mq:∀p∈cl,X.env.cells.lookup p.1=some p.2)
  (ok:ov X aX cl caps cap)(apart:kk∉caps)(IH:∀n acc,cellsFrom n aX.names acc=(kk,n)::acc)(push:∀h,pushCells h aX.names=h.push {cls:=.type "cell",data:=.cell none}):Gp X aX cl kk own caps cap:=
 ⟨kind,one,names,nJ,λx c h=>Mq (x,c) (op h),λy b2 h=>by
  obtain⟨j,a2,e⟩:=FE.mp (only y b2 h);obtain⟨_,_,_,_,_,c⟩:=ok.get (j:=j) (x:=y.1) (by rw[jC a2,e])
  exact c,ok,apart,IH,push⟩
structure el(mg:Str->Option aj):Prop where
 len:mg "len"=none
 list:mg "list"=none
 dict:mg "dict"=none
 all:mg "all"=none
 any:mg "any"=none
 sorted:mg "sorted"=none
 set:mg "set"=none
 isinstance:mg "isinstance"=none
 tuple:mg "tuple"=none
 bool:mg "bool"=none
 int:mg "int"=none
 str:mg "str"=none
 range:mg "range"=none
 enumerate:mg "enumerate"=none
 min:mg "min"=none
structure e3(K:b5)(mg:Str->Option aj)(x:Str)(f:O)(aE:f4)(ps:List Str):Prop where
 kR:mg x=some (.ref f)
 cD:jE K (.ref f)=true
 bs:Binds K aE ps []
def eF{X:bp}{e:ck}{es:List ck}(F:aY X.prog X.w X.K X.mg X.base bq k f aE ps sp)(aA:dT n X.A)(A:e3 X.K X.mg x f aE ps)(af:jJ X (e::es) t)(h:k<=n:=by decide)(bl:fd X x:=by rfl)
  (hd:fC x:=by decide)(he:oz X e es:=by rfl)(aB:qn X pos es:=by rfl):bz X (.Call (.Name x p) (e::es) [] pos) (o7 sp [] BB t):=
 TY F (aA.mono h) bl A.kR A.cD A.bs .nil er af hd he aB
section
variable{E:e5}{ro:List Nat}{t:TE}{δ:aq->aJ D}{H0:ak}{i:Nat}
def ant(h:b8 E (λσ H Q=>t σ H λv H'=>rZ H0 H' (Q v)) δ)(au:i∉ro:=by decide):fh E ro (λY σ H=>ml t (lr i) (Y.MC H0) σ H) (c1 δ (bo i)):=λT ω H σ ε Y e q=>fb h (cG (i:=i) au) T ω H σ ε Y e q
end
def q5:Out->k7
 | .ey d ε=>match ε[0]? with
  | some (some (true,b))=>.ok d b
  | _=>.no
 | .nx ε=>match ε[0]? with
  | some (some (true,b))=>.ok .bb b
  | _=>.no
 | .cp C fs=>.cp C fs
 | _=>.no
def stI(n:Nat)(b:D)(ds:List D):aq:=some (true,b)::(ds.map (λd=>G d)++u0 (n - (ds.length+1)) none)
def pG(β:aq->Out)(np n:Nat):D->List D->k7:=λb ds=>if ds.length+1=np then q5 (β (stI n b ds))else .no
def uu(b:O):cs:=λi=>if i=0 then [b]else []
def akX:uu b 0=[b]:=rfl
def Al{b a:O}(z:a∈uu b i):i=0/\a=b:=by
 unfold uu at z;by_cases au:i=0
 ·rw[if_pos au]at z;exact⟨au,by simpa using z⟩
 ·rw[if_neg au]at z;cases z
section
variable{P:dn}{w:cH}{K:b5}{mg:Str->Option aj}{base:cg}{x qual:Str}{st:cc}{f:O}{aE:f4}{N ps:List Str}{k:Nat}{β:aq->Out}
def ad1{U:O->Prop}(hC:¬U b)(o:eI (λa=>U a∨a=b) H (.ref b) eJ [b])(r:cP (cut (λa=>U a∨a=b) H) cJ ds)(al:∀a,U a->H a≠none)(bm:∀a,bk.v a->U a)(bB:bk.i H):
  bh U (uu b) H (start N (.ref b::cJ)) (stI N.length eJ ds)/\a5 U (uu b)=λa=>U a∨a=b:=by
 have fR:a5 U (uu b)=λa=>U a∨a=b:=by
  funext a;exact propext ⟨λh=>h.imp id λ⟨i,z⟩=>(Al z).2,λh=>h.imp id λz=>⟨0,by rw[akX,z];simp⟩⟩
 refine⟨⟨by simp[start,stI,r.length],λi j a h h'=>?_,λi a h z=>?_,λa h=>?_,λi d h=>?_,λi d h=>?_,bm,bB⟩,fR⟩
 ·rw[(Al h).1,(Al h').1]
 ·obtain⟨_,rfl⟩:=Al h;exact hC z
 ·rw[fR]at h;rcases h with h | h
  ·exact al a h
  ·subst h;cases o with
   | lst q _=>rw[q];simp
   | aK q _=>rw[q];simp
   | ins q _=>rw[q];simp
 ·cases i with
  | zero=>
   have h:some (true,eJ)=some (true,d):=by simpa[stI]using h
   cases h;exact⟨.ref b,rfl,by rw[fR];exact o⟩
  | succ i=>
   exfalso;have h:(ds.map (λd=>G d)++u0 (N.length - (ds.length+1)) none)[i]? =some (some (true,d)):=by simpa[stI]using h
   by_cases au:i < ds.length
   ·rw[mw (by simpa using au),ft]at h
    obtain⟨x,_,ah⟩:=jD.mp h;cases ah
   ·rw[mx (by simpa using Bf au),xw]at h
    split at h<;>cases h
 ·cases i with
  | zero=>
   have h:some (true,eJ)=G d:=by simpa[stI]using h
   cases h
  | succ i=>
   have h:(ds.map (λd=>G d)++u0 (N.length - (ds.length+1)) none)[i]? =some (G d):=by simpa[stI]using h
   by_cases au:i < ds.length
   ·rw[mw (by simpa using au),ft]at h
    obtain⟨x,ah,he⟩:=jD.mp h;cases he;obtain⟨v,h1,h2⟩:=r.get ah;refine⟨v,?_,by rw[fR];exact h2⟩
    unfold start;rw[fM,M',hU,mw (by rw[dV,r.length];exact au),ft,h1]
    rfl
   ·rw[mx (by simpa using Bf au),xw]at h
    split at h<;>cases h
def aaV{E:eP}{H:ak}(ab:fh ⟨E,H⟩ [0] t β)(h:mj (pG β ps.length N.length) vs H Q E):t {nx:=λ_ H'=>Q .bb H',ey:=Q} (start N vs) H:=by
 obtain⟨U,b,cJ,eJ,ds,rfl,hC,o,r,al,bm,bB,q⟩:=h;obtain⟨e,fR⟩:=ad1 (N:=N) hC o r al bm bB;refine ab U _ H _ _ _ e ?_;have D6:¬bk.v b:=λz=>hC (bm b z);have dq:∀{ε' σ' aO H' jN},jh [0] U (uu b) H (start N (.ref b::cJ)) ε' σ' aO H'->ε'[0]? =some (some (true,jN))->tB b H H'/\eI (λa=>U a∨a=b) H' (.ref b) jN [b]/\∀v d,cn (cut (a5 U aO) H') v d->cn (cut (λa=>U a∨a=b) H') v d:=λ{ε' σ' aO H' jN} a bE=>by
  obtain⟨c,h1,h2,aN⟩:=a.env.sI bE;have h4:=a.ro 0 (by simp)
  rw[h1]at h4;have cE:(start N (.ref b::cJ))[0]? =some (some (.ref b)):=rfl;rw[cE]at h4;cases h4;have sub:∀a,(U a∨a=b)->a5 U aO a:=λa z=>z.imp id λz=>⟨0,by rw[h2,z];simp⟩
  refine⟨⟨λx o cm na aR=>?_,a.step.c8,a.env.bB⟩,aN.mono (gE sub) λ_ _=>rfl,λv d cf=>cf.mono (gE sub)⟩;by_cases z:U x
  ·rw[a.step.same x z cm];exact aR
  ·exact(a.step.keep x o (by rw[fR];exact λy=>y.elim z na) aR).2
 unfold pG at q;by_cases ar:ds.length+1=ps.length
 ·rw[if_pos ar]at q;cases eZ:β (stI N.length eJ ds)with
  | no=>rw[eZ]at q;exact q
  | f7 ε=>rw[eZ]at q;exact q.elim
  | ct ε=>rw[eZ]at q;exact q.elim
  | cp C fs=>
   rw[eZ]at q;exact⟨λ_ h=>h,λx H' kk AW kd ex=>q x H' ⟨λa o cm na aR=>kk a o cm (λ⟨i,z⟩=>na (Al z).2) aR,kd,AW⟩ ex⟩
  | nx ε=>
   rw[eZ]at q;intro σ' aO H' a;cases bE:ε[0]? with
   | none=>simp only[q5,bE]at q
   | some wz=>
    cases wz with
    | none=>simp only[q5,bE]at q
    | some m4=>
     obtain⟨c,jN⟩:=m4;cases c with
     | false=>simp only[q5,bE]at q
     | true=>
      simp only[q5,bE]at q;obtain⟨f1,fF,dc⟩:=dq a bE;exact q .bb H' f1 fF .bb
  | ey d ε=>
   rw[eZ]at q;intro v σ' aO H' a cf;cases bE:ε[0]? with
   | none=>simp only[q5,bE]at q
   | some wz=>
    cases wz with
    | none=>simp only[q5,bE]at q
    | some m4=>
     obtain⟨c,jN⟩:=m4;cases c with
     | false=>simp only[q5,bE]at q
     | true=>
      simp only[q5,bE]at q;obtain⟨f1,fF,dc⟩:=dq a bE;exact q v H' f1 fF (dc _ _ cf)
 ·rw[if_neg ar]at q;exact q.elim
def bT.pG(F:bT K x qual st f aE)(S:cX N ps (bY st))
  (ab:∀(bA:aj)(A:d0)(a3:List fL)(s:aM)(H:ak)(E:eP),dT k (A.deeper (envOfC qual (bY st) s.heap.objs.size f bA))->
   ∃t,hw (jk bq P w K mg base N qual (bY st) f bA A a3 s H E).nZ (fE st) t/\fh ⟨E,H⟩ [0] t β):aY P w K mg base bq (k+1) f aE ps (mj (pG β ps.length N.length)):=
 F.ok S (λvs H Q E h=>by
  obtain⟨U,b,cJ,eJ,ds,rfl,hC,o,r,al,bm,bB,q⟩:=h;unfold bu.pG at q;by_cases ar:ds.length+1=ps.length
  ·rw[hH,r.length,ar]
  ·rw[if_neg ar]at q;exact q.elim) λbA A a3 s H vs Q E aA h=>by
  obtain⟨t,h1,h2⟩:=ab bA A a3 s H E aA;exact⟨t,h1,aaV h2 h⟩
structure vn(K:b5)(x qual:Str)(st:cc)(f:O)(aE:f4)(c:O):Prop where
 ex:∃(jd:aj)(od:Option O)(oH dF fj dM:aj)(an:Option O)(ct:aj)(kT:Array (Option aj)),
  aE=ht x qual (hO st) (fE st) (bY st) oH dF fj dM an (.ref c) ct/\K.lookup f=some ⟨jd,od,.func aE,kT⟩/\qk K (.ref c) qual=true
 cD:jE K (.ref f)=true
def vn.den{c:O}{ro:List Nat}(F:vn K x qual st f aE c)(S:cX N ps (bY st))
  (ab:∀(A:d0)(a3:List fL)(s:aM)(H:ak)(E:eP),dT k (A.deeper (envOfC qual (bY st) s.heap.objs.size f (.ref c)))->
   ∃t,hw (jk bq P w K mg base N qual (bY st) f (.ref c) A a3 s H E).nZ (fE st) t/\fh ⟨E,H⟩ ro t β):aY P w K mg base bq (k+1) f aE ps (bV (bS β ps.length N.length)):=by
 obtain⟨jd,od,oH,dF,fj,dM,an,ct,kT,rfl,lk,kL⟩:=F.ex;refine IE lk kL S (λvs H Q E h=>Mc HI h) λA a3 s H vs Q E aA kO=>?_;obtain⟨t,h1,h2⟩:=ab A a3 s H E aA;exact⟨t,h1.nZ,Hn h2 kO⟩
end
end bu
namespace bu
open PySem PySem.W PySem.Spec PyProof.Rows
variable[bk]
def qW(bR:List (bM×D))(k:Str):Option Nat:=match fo bR (.inr k)with
 | some (.aK x)=>some x.length
 | _=>none
def pW(ky:Str->Int)(s:Str)(ss:List Str):Str:=ss.foldl (λb x=>if ky x < ky b then x else b) s
def IF{ky:Str->Int}:∀(ss pre:List Str)(b:Str)(qT:Nat),pre[qT]? =some b->(∀(j:Nat) w,pre[j]? =some w->ky b<=ky w/\(j < qT->ky b < ky w))->
  ∃pU,(pre++ss)[pU]? =some (ss.foldl (λb x=>if ky x < ky b then x else b) b)/\∀(j:Nat) w,(pre++ss)[j]? =some w->ky (ss.foldl (λb x=>if ky x < ky b then x else b) b)<=ky w/\(j < pU->ky (ss.foldl (λb x=>if ky x < ky b then x else b) b)< ky w)
 | [],pre,b,qT,h1,h2=>⟨qT,by simpa using h1,by simpa using h2⟩
 | x::ss,pre,b,qT,h1,h2=>by
  rw[show pre++x::ss=(pre++[x])++ss by simp,Fy]
  have ag3:qT < pre.length:=(hf.mp h1).1;by_cases ah:ky x < ky b
  ·rw[if_pos ah];refine IF ss (pre++[x]) x pre.length (by simp) λj w b0=>?_
   by_cases a2:j < pre.length
   ·rw[mw a2]at b0;have:=(h2 j w b0).1;exact⟨by omega,λ_=>by omega⟩
   ·rw[mx (by omega)]at b0
    have:j - pre.length=0:=by
     have:=(hf.mp b0).1;simp at this;omega
    rw[this]at b0;have:x=w:=by simpa using b0
    subst this;exact⟨Fv _,λz=>by omega⟩
  ·rw[if_neg ah];refine IF ss (pre++[x]) b qT (by rw[mw ag3];exact h1) λj w b0=>?_
   by_cases a2:j < pre.length
   ·rw[mw a2]at b0;exact h2 j w b0
   ·rw[mx (by omega)]at b0
    have:j - pre.length=0:=by
     have:=(hf.mp b0).1;simp at this;omega
    rw[this]at b0;have:x=w:=by simpa using b0
    subst this;exact⟨by omega,λz=>by omega⟩
def S6(ky:Str->Int)(s:Str)(ss:List Str):∃pU,(s::ss)[pU]? =some (pW ky s ss)/\∀(j:Nat) w,(s::ss)[j]? =some w->ky (pW ky s ss)<=ky w/\(j < pU->ky (pW ky s ss)< ky w):=by
 have:=IF (ky:=ky) ss [s] s 0 rfl λj w b0=>by
  have:j=0:=by
   have:=(hf.mp b0).1;simp at this;omega
  subst this;have:s=w:=by simpa using b0
  subst this;exact⟨Fv _,λz=>by omega⟩
 exact this
def aiK{L:List (Str×O)}(h:L.lookup q=some c):∀x c',[(q,c)].lookup x=some c'->L.lookup x=some c':=λx c' z=>by
 rw[k0]at z;cases e:x==q with
 | true=>rw[e]at z;cases z;rw[eq_of_beq e];exact h
 | false=>rw[e]at z;cases z
def aiL{q:Str}{c:O}{ns:List (Str×xC)}(h:∀y∈ns,y.2= .free->y.1=q):∀y∈ns,y.2= .free->∃c',[(q,c)].lookup y.1=some c':=λy b2 aH=>⟨c,by rw[h y b2 aH];simp⟩
def kP(bR:List (bM×D))(k:Str):Int:=(((qW bR k).getD 0:Nat):Int)
def HT(Fn:aq->aJ D)(i:Nat):aq->aJ D:=λε=>(Fn ε).bind λa aC=>match a,aC[i]? with
 | .lst ds,some (some (false,.aK bR))=>(match ds.mapM hr with
  | some (s::ss)=>if(s::ss).all (λk=>(qW bR k).isSome)=true then .ok (.str (pW (kP bR) s ss)) aC else .no
  | _=>.no)
 | _,_=>.no
def JP(bR:List (bM×D)):V->Int
 | .str k=>kP bR k
 | _=>0
abbrev Uw:List V->ak->c3->Prop:=λxs H Q=>∃a kvs,xs=[V.ref a]/\ec H a (.a7 kvs)/\Q (.int kvs.length) H
section
variable{E:e5}{X:bp}{gz:TE}{Fn:aq->aJ D}{P:O}{params:xk}{body:ck}{aX:gh}{cl:List (Str×O)}{J7:d1}{p q:Str}{i k:Nat}
def alN(bm:∀a,bk.v a↔a=P)(au:∀H,bk.i H↔pE P J7 (X.env.qual++"<lambda>") H)(aA:dT (k+1) X.A)(S:GI X aX cl p q i)
  (ab:∀(dM oE u:aj)(c':O),bindArgs (kla_fn "<lambda>" (X.env.qual++"<lambda>") params body aX cl dM (.ref c') oE) ⟨[u],[]⟩=pure [(p,u)])
  (he:∀(A:d0)(f c':O)(s:aM)(H:ak),A.units+10 < cLine->bz (CR X A [p,q] (X.env.qual++"<lambda>") aX cl f (.ref c') s H) body (kp Uw (gd (p_ (dP 1) (dP 0)) gy)))
  (af:b8 E gz Fn):b8 E (Vp X (gd gz gy) (gd (Vn X P params body aX cl J7) gy)) (HT Fn i):=λT ω H σ ε Q e me=>by
 refine af T ω H σ ε _ e (me.then λx aC v a0 H1 _ ag s1 bc ao=>?_);cases x<;>try (exact ao.elim)
 rename_i ds _;cases hd:aC[i]? with
 | none=>rw[hd]at ao;exact ao.elim
 | some o=>
  cases o with
  | none=>rw[hd]at ao;exact ao.elim
  | some o=>
   obtain⟨fl,bN⟩:=o;cases fl with
   | true=>rw[hd]at ao;exact ao.elim
   | false=>
    cases bN<;>try (rw[hd]at ao;exact ao.elim)
    rename_i bR;rw[hd]at ao;dsimp only at ao;cases bx:ds.mapM hr with
    | none=>rw[bx]at ao;exact ao.elim
    | some fy=>
     cases fy with
     | nil=>rw[bx]at ao;exact ao.elim
     | cons hR ss=>
      rw[bx]at ao;dsimp only at ao;by_cases oQ:(hR::ss).all (λk=>(qW bR k).isSome)=true
      ·rw[if_pos oQ]at ao;have tb:pE P J7 (X.env.qual++"<lambda>") H1:=(au H1).mp ag.bB;have IZ:T P:=ag.c7 P ((bm P).mpr rfl);obtain⟨apR,agt,al'⟩:=ag.pl i _ hd;refine⟨tb,λf c' H2 cD aH v' sZ eg=>?_⟩;have Vd:fO H1 H2:=⟨λb o cm cC=>cD b o cC λz=>cm ((bm b).mpr z),λb ab=>(by
         cases a9:H1 b with
         | none=>rfl
         | some o=>
          by_cases z:b=P
          ·subst z;obtain⟨ps,h1,_⟩:=sZ;rw[h1]at ab;cases ab
          ·rw[cD b o a9 z]at ab;cases ab),(au H2).mpr sZ⟩
       have aF:=ag.zG Vd;have st:=ag.w2 Vd;obtain⟨l,vs,rfl,h1,h2⟩:=jX (.inl (bc.mono st.le));obtain rfl:=rj h2 bx;obtain⟨a,kvs,rfl,aN,h4⟩:=m8 (.inl (al'.mono st.le));have at_:∀kk∈hR::ss,∃b cJ,kr kvs (.inr kk)=some (.ref b)/\ec H2 b (.a7 cJ)/\((cJ.length:Nat):Int)=kP bR kk:=λkk aw=>by
        have z:=pg.mp oQ kk aw;unfold qW at z;cases hz:fo bR (.inr kk)with
        | none=>rw[hz]at z;cases z
        | some dx=>
         obtain⟨w,cY,dC⟩:=(h4.val (k:=.inr kk)).2 dx hz;cases dx<;>try (rw[hz]at z;cases z;done)
         obtain⟨b,cJ,rfl,eX,gR⟩:=m8 (T:=T) (ω:=a0) (.inl dC);refine⟨b,cJ,cY,eX,?_⟩;unfold kP qW;rw[hz,gR.length];rfl
       refine⟨l,f,(hR::ss).map V.str,JP bR,rfl,rfl,h1,by simp,λv ahF lI s' u dX dA=>?_,λj v a2 ahg=>?_⟩
       ·obtain⟨kk,aw,rfl⟩:=fB.mp ahF;obtain⟨b,cJ,cY,dC,eX⟩:=at_ kk aw;obtain⟨⟨oE,aZ⟩,_,_⟩:=dX.a' f _ aH;have Ju:=aa8 dX.a' v';refine bJ (ams (A:=X.A.in1) (te:=kp Uw (gd (p_ (dP 1) (dP 0)) gy)) S dX.ok.frames aA.in1 dX dA aZ Ju (ab _ _ _ _) (λs H=>he X.A.in1 f c' s H (by have:=aA.in1.un;omega)) ?_) λ_ _ z=>z
        show p_ (dP 1) (dP 0) [some (V.str kk),(σ[i]?).getD none] H2 _;refine⟨.ref a,by rw[agt];rfl,.str kk,rfl,a,.ref b,rfl,.inl ⟨kvs,.inr kk,aN,rfl,cY.symm⟩,?_⟩
        exact⟨b,cJ,rfl,dC,by rw[eX];rfl,rfl⟩
       ·obtain⟨pU,g8,hB⟩:=S6 (kP bR) hR ss;rw[ft]at a2;obtain⟨kk,aw,rfl⟩:=jD.mp a2;have jq:j=pU:=by
         have dK:=ahg pU (.str (pW (kP bR) hR ss)) (by rw[ft,g8];rfl)
         have dy:=hB j kk aw;have dI:JP bR (.str kk)=kP bR kk:=rfl;have em:JP bR (.str (pW (kP bR) hR ss))=kP bR (pW (kP bR) hR ss):=rfl;rcases Nat.lt_trichotomy j pU with z | z | z
         ·have:=dy.2 z;omega
         ·exact z
         ·have:=dK.2 z;omega
        subst jq;rw[g8]at aw;cases aw;exact ao _ a0 H2 aF st (.str _)
      ·rw[if_neg oQ]at ao;exact ao.elim
end
end bu
namespace bu
open PySem PySem.Spec PyProof.Rows
variable[bk]
def Pt{Q:c3}(h:vd bP g (λ_ H Q=>Q true H) te S P H1 Q):BA bP g te S P H1 Q:=by
 obtain⟨W,o8,turn⟩:=h;refine⟨W,o8,λi m ys dW b0=>?_⟩;obtain⟨fm,dw⟩:=turn i m ys dW b0;refine⟨fm,?_⟩;rcases dw with dw | ⟨cY,dC,N,yr,dD,fH,jQ⟩
 ·exact .inl dw
 ·exact .inr ⟨cY,dC,N,dD,jQ⟩
section
variable{E:e5}{aP:TE}{bf:aq->aJ D}
def alH{own:List Str}{cap:List Nat}(cA:Option (Nat×Nat))(af:b8 E aP bf)(bl:nE E ((List.range cap.length).map λk=>own.length+k) g γ)(he:b8 E te e2)
  (kN:∀i j,cA=some (i,j)->own.length<=j/\cap[j - own.length]? =some i):b8 E (λσ H Q=>E2 own (DF H0 aP) g te cap σ H λv H'=>rZ H0 H' (Q v)) (tJ bf γ (λε=>.ok true ε) e2 own.length cap cA):=λT ω H σ ε Q e q=>by
 have cj:jK E (λ_ H Q=>Q true H) (λε=>.ok true ε):=λT ω H σ ε Q e q=>q true ω H e Step.refl rfl;refine af T ω H σ ε _ e (q.then λx aC v a0 H1 _ ag s1 bc ao=>?_);cases x<;>try (exact ao.elim)
 rename_i bR _;have ao:dJ E T a0 H1 σ (if(hA bR).length<=1000 then D3 ((iD γ (λε=>.ok true ε) e2 own.length cap cA (hA bR) [] aC).bind λxs bD=>.ok (.lst xs) bD)else .no) (kb T) Q:=ao
 by_cases hz:(hA bR).length<=1000
 ·rw[if_pos hz]at ao;cases bc with
  | aK r hF=>
   rename_i d kvs;obtain⟨a4,r⟩:=oF r;rcases r with r | ⟨bW,r⟩
   ·refine⟨d,kvs,rfl,.inl ⟨r,λbW aH P dj=>?_⟩⟩;have aF:bh T a0 (a1 H1 d (.eQ bW (.a7 kvs))) σ aC:=ag.turn a4 (JV r a4) (λφ z=>by rw[r]at z;cases z)
    refine Pt (vM cA bl cj he kN aF (xf (bR:=bR) cw a4 hF.keys) hz ?_ dj);cases ar:(iD γ (λε=>.ok true ε) e2 own.length cap cA (hA bR) [] aC).bind λxs bD=>aJ.ok (D.lst xs) bD with
    | no=>rw[ar]at ao;exact ao
    | cp C fs=>rw[ar]at ao;exact ao.elim
    | ok c ε'=>
     rw[ar]at ao;intro v aO H' bQ s' cf;obtain⟨h1,h2,aN⟩:=Ml r a4 s';exact .inl ⟨d,bW,kvs,h1,aH,ao v aO _ (bQ.turn h2 (ws h1 h2) (λφ z=>by rw[h1]at z;cases z)) aN (cf.mono (ws h1 h2))⟩
   ·refine⟨d,kvs,rfl,.inr ⟨bW,r,λP dj=>?_⟩⟩;refine Pt (vM cA bl cj he kN ag (xf (bR:=bR) r a4 hF.keys) hz ?_ dj);cases ar:(iD γ (λε=>.ok true ε) e2 own.length cap cA (hA bR) [] aC).bind λxs bD=>aJ.ok (D.lst xs) bD with
    | no=>rw[ar]at ao;exact ao
    | cp C fs=>rw[ar]at ao;exact ao.elim
    | ok c ε'=>
     rw[ar]at ao;exact λv aO H' bQ s' cf=>.inr (ao v aO H' bQ s' cf)
 ·rw[if_neg hz]at ao;exact ao.elim
end
inductive vu(E:e5):List (TE×TE)->List ((aq->aJ D)×(aq->aJ D))->Prop where
 | nil:vu E [] []
 | cons {tk gU:TE} {r:List (TE×TE)} {xh xi:aq->aJ D} {s:List ((aq->aJ D)×(aq->aJ D))}:b8 E tk xh->b8 E gU xi->vu E r s->vu E ((tk,gU)::r) ((xh,xi)::s)
def zk:List ((aq->aJ D)×(aq->aJ D))->aq->aJ (List (bM×D))
 | [],ε=>.ok [] ε
 | (xh,xi)::r,ε=>(xh ε).bind λk aC=>(dv (mV k) aC).bind λky bD=>(xi bD).bind λv gW=>(zk r gW).bind λps ng=>.ok ((ky,v)::ps) ng
def pH(cy:List ((aq->aJ D)×(aq->aJ D))):aq->aJ D:=λε=>(zk cy ε).bind λps aC=>if ps.length<=15 then .ok (.aK (qZ [] ps)) aC else .no
def KA:∀{mn:List (TE×TE)}{cy:List ((aq->aJ D)×(aq->aJ D))},vu E mn cy->∀(T:O->Prop)(ω:cs)(H:ak)(ε:aq)(Q:List (V×V)->ak->Prop),bh T ω H σ ε->
  dJ E T ω H σ (zk cy ε) (λbR aO H' ps=>∃kvs,ps=kvs.map (λcO=>(dF cO.1,cO.2))/\dS (cut (a5 T aO) H') kvs bR) Q->E5 mn σ H Q
 | _,_,.nil,T,ω,H,ε,Q,e,q=>q [] ω H e Step.refl ⟨[],rfl,.nil⟩
 | _,_,.cons aw bm aA,T,ω,H,ε,Q,e,q=>by
  refine aw T ω H σ ε _ e (q.then λx aC v a0 H1 _ ag s1 bc ao=>?_);cases ah:mV x with
  | none=>rw[ah]at ao;exact ao.elim
  | some ky=>
   rw[ah]at ao;refine bm T a0 H1 σ aC _ ag (dJ.then (show dJ E T a0 H1 σ (aJ.bind _ _) _ Q from ao) λy bD u cN H2 _ aF s2 cL bZ=>?_)
   refine KA aA T cN H2 bD _ aF (dJ.then bZ λbR gW ps lQ H3 _ cU s3 iV fk=>?_);obtain⟨kvs,rfl,hF⟩:=iV;refine fk _ lQ H3 cU Step.refl ⟨(ky,u)::kvs,?_,.cons (cL.mono s3.le) hF⟩;rw[fM,ri (.inl bc) ah]
def Ax(h:vu E mn cy):b8 E (AP mn) (pH cy):=λT ω H σ ε Q e q p aB=>by
 have zj:=qK (o:=.a7 []) e aB;refine KA h (λa=>T a∨a=p) ω (a1 H p (.a7 [])) ε _ zj ?_;unfold pH at q;cases a9:zk cy ε with
 | no=>rw[a9]at q;exact q
 | cp C fs=>
  rw[a9]at q;refine⟨λa af=>q.1 a (r5 aB a af),λx H' k bB kd ex=>q.2 x H' (λa o cm n aR=>k a o cm n (by rw[bj (eK aR aB)];exact aR)) bB (λa af=>r5 aB a (kd a af)) ex⟩
 | ok bR aC=>
  rw[a9]at q;intro ps a0 H1 ag s1 ⟨kvs,t8,hF⟩;by_cases ar:bR.length<=15
  ·have q:dJ E T ω H σ (if bR.length<=15 then .ok (.aK (qZ [] bR)) aC else .no) (kb T) Q:=q
   rw[if_pos ar]at q;have v9:¬T p:=λz=>e.al p (.inl z) aB;have pY:¬bk.v p:=λz=>v9 (e.c7 p z);have tV:H1 p=some (.a7 []):=by rw[s1.same p (.inr rfl) pY,cw]
   refine⟨tV,kvs,t8,by rw[hF.length];exact ar,?_⟩
   have aF:=(ag.rt (o:=.a7 (nY [] kvs)) (.inr rfl) pY (λφ z=>by rw[tV]at z;cases z)).weak (T':=T) (λa z=>.inl z) e.c7
   have fR:a5 (λa=>T a∨a=p) a0 p:=.inl (.inr rfl);have ajh:¬a5 T a0 p:=λz=>by
    rcases z with z | ⟨i,z⟩
    ·exact v9 z
    ·exact ag.ee i p z (.inr rfl)
   refine q (.ref p) a0 _ aF ⟨λa o n aR=>?_,λa af cm=>?_,λa af=>?_⟩ ?_
   ·have na:a≠p:=eK aR aB;obtain⟨h1,h2⟩:=s1.keep a o (λz=>by
     rcases z with(z | z) | z
     ·exact n (.inl z)
     ·exact na z
     ·exact n (.inr z)) (by rw[bj na];exact aR)
    exact⟨λz=>h1 (z.imp .inl id),by rw[bj na];exact h2⟩
   ·have na:a≠p:=λz=>v9 (by rw[<- z];exact af)
    rw[bj na,s1.same a (.inl af) cm,bj na]
   ·exact r5 aB a (s1.c8 a (HK tV a af))
   ·refine .aK (.inl (cB.mpr ⟨ajh,cw⟩)) ?_;have da:dS (cut (a5 (λa=>T a∨a=p) a0) H1) (nY [] kvs) (qZ [] bR):=hF.merge .nil;have le:fu (cut (a5 (λa=>T a∨a=p) a0) H1) (cut (a5 T a0) (a1 H1 p (.a7 (nY [] kvs)))):=λa o h=>.inl (by
     obtain⟨cY,dC⟩:=cB.mp h;have na:a≠p:=λz=>cY (.inl (.inr z));exact cB.mpr ⟨λz=>cY (z.imp .inl id),by rw[bj na];exact dC⟩)
    exact da.mono le
  ·have q:dJ E T ω H σ (if bR.length<=15 then .ok (.aK (qZ [] bR)) aC else .no) (kb T) Q:=q
   rw[if_neg ar]at q;exact q.elim
def afl(h:vu E mn cy):rV E (AP mn) (pH cy):=λT ω H σ ε Q e q p aB=>by
 have zj:=qK (o:=.a7 []) e aB;refine KA h (λa=>T a∨a=p) ω (a1 H p (.a7 [])) ε _ zj ?_;unfold pH at q;cases a9:zk cy ε with
 | no=>rw[a9]at q;exact q
 | cp C fs=>
  rw[a9]at q;refine⟨λa af=>q.1 a (r5 aB a af),λx H' k bB kd ex=>q.2 x H' (λa o cm n aR=>k a o cm n (by rw[bj (eK aR aB)];exact aR)) bB (λa af=>r5 aB a (kd a af)) ex⟩
 | ok bR aC=>
  rw[a9]at q;intro ps a0 H1 ag s1 ⟨kvs,t8,hF⟩;by_cases ar:bR.length<=15
  ·simp only[aJ.bind,if_pos ar]at q;have v9:¬T p:=λz=>e.al p (.inl z) aB;have pY:¬bk.v p:=λz=>v9 (e.c7 p z);have tV:H1 p=some (.a7 []):=by rw[s1.same p (.inr rfl) pY,cw]
   refine⟨tV,kvs,t8,by rw[hF.length];exact ar,?_⟩
   have cU:=ag.rt (o:=.a7 (nY [] kvs)) (.inr rfl) pY (λφ z=>by rw[tV]at z;cases z)
   have aF:=cU.weak (T':=T) (λa z=>.inl z) e.c7;have fR:a5 (λa=>T a∨a=p) a0 p:=.inl (.inr rfl);refine q (.ref p) a0 _ aF ⟨λa o n aR=>?_,λa af cm=>?_,λa af=>?_⟩ ⟨p,rfl,aB,cU,.aK cw ?_⟩
   ·have na:a≠p:=eK aR aB;obtain⟨h1,h2⟩:=s1.keep a o (λz=>by
     rcases z with(z | z) | z
     ·exact n (.inl z)
     ·exact na z
     ·exact n (.inr z)) (by rw[bj na];exact aR)
    exact⟨λz=>h1 (z.imp .inl id),by rw[bj na];exact h2⟩
   ·have na:a≠p:=λz=>v9 (by rw[<- z];exact af)
    rw[bj na,s1.same a (.inl af) cm,bj na]
   ·exact r5 aB a (s1.c8 a (HK tV a af))
   ·rw[k' fR];exact hF.merge .nil
  ·simp only[aJ.bind,if_neg ar]at q;exact q.elim
def T3{X:bp}(M:rP X.K C f)(F:aY X.prog X.w X.K X.mg X.base cW k f aE ps sp)(aA:dT (k+1) X.A)(bl:fd X x)(bx:X.mg x=some (.ref C))(ab:Binds X.K aE ps ds)(hd:cz e7 ds)(ah:kE cW X E)
  (iT:fC x:=by decide):bz X (.Call (.Name x p) [] [] pos) (My C sp e7 E gy):=by
 intro aa s σ H Q I h;refine ql (lF I bl bx ?_ iT);exact FT I.eo M.cD (UK (us:=[]) M F aA ab hd ah I .nil h.1 h.2)
def hm(F:List D->b'):List D->b':=λds=>match F ds with
 | .ok d=>.ok d
 | _=>.no
def aY.calm{K:b5}(h:aY P w K mg base (eb P w) k f aE ps (bV F)):aY P w K mg base bq k f aE ps (bV (hm F)):=by
 have rs:∀{vs H Q E}(E':eP),bV (hm F) vs H Q E->bV F vs H Q E':=λ{vs H Q E} E' ⟨U,ds,r,al,bm,bB,q⟩=>by
  refine⟨U,ds,r,al,bm,bB,?_⟩;unfold hm at q;cases aH:F ds with
  | no=>rw[aH]at q;exact q.elim
  | cp C fs=>rw[aH]at q;exact q.elim
  | ok d=>rw[aH]at q;exact q
 refine⟨λvs H Q E q=>h.len vs H Q E (rs E q),λA a3 s H args us vs Q E aA he ab bm aS=>?_⟩;refine pm (h.run A a3 s H args us vs Q (λ_ _ _=>False) aA he ab bm (rs _ aS)) λr s' z=>?_;cases r with
 | ok fl=>cases fl<;>exact z
 | error e=>
  obtain⟨a,C,d,H',dG⟩:=z;exact dG.2.2.2.2.2.2.2.2
structure iE(P:dn)(w:cH)(K:b5)(mg:Str->Option aj)(base:cg)(x:Str)(C f:O)(aE:f4)(fl:List Str):Prop where
 kR:mg x=some (.ref C)
 iz:rP K C f
 bs:Binds K aE ("self"::fl) []
 ok:aY P w K mg base bq 2 f aE ("self"::fl) (mi (λdp=>dp=C) x fl)
structure hK(K:b5)(C:O):Prop where
 cl:jG K C
 sC:fv K C "order"
 Ag:fv K C "straight"
 m1:fv K C "upward"
 Af:fv K C "own"
 Ae:fv K C "lets"
 wx:fv K C "homes"
 Ad:fv K C "bound"
end bu
namespace bu
open PySem PySem.Spec PyProof.Rows
def tF:aq->Out:=
 (cM (gr (CY v3 v3 (aT (.int 1)) (bg r9 (J 0)) (aT (.int 8))) (bg oL (gP (di Cx (J 0)) (bo 0) (λε=>.ok true ε) (aI (qI C8) (J 0) (aT (.str "abcdefghijklmnopqrstuvwxyz"))) 1 [] none))))
def yU:aq->Out:=
 (bK (c1 (gP (di d2 (aI bw (J 0) (aT (.str "order")))) (bo 0) (g3 (b6 (aI (fQ false) (J 2) (aI bw (aI bw (J 1) (aT (.str "far"))) (J 0)))) (b6 (aI (fQ false) (J 3) (aI bw (aI bw (J 1) (aT (.str "far"))) (J 0))))) (J 0) 1 [0,1,2] none) (bo 3)) (bK (c1 (gP (di d2 (J 3)) (bo 0) (b6 (bg oL (gP (di d2 (J 1)) (bo 0) (λε=>.ok true ε) (aI (fQ false) (J 1) (aI bw (aI bw (J 2) (aT (.str "far"))) (J 0))) 1 [0,2] none))) (J 0) 1 [3,0] none) (bo 4)) (cM (HQ (b6 (aI pK (J 4) (iQ aU))) (aI l3 (J 4) (aT (.int 0))) (aT .bb)))))
def qC:aq->Out:=
 (bK (c1 (iQ aU) (bo 2)) (bK (fa (di d2 (J 1)) (bo 3) (c1 (aI tN (J 2) (gP (di d2 (aI bw (aI bw (J 0) (aT (.str "far"))) (J 3))) (bo 0) (b6 (aI (fQ true) (J 0) (J 1))) (J 0) 1 [2] none)) (bo 2))) (cM (J 2))))
def yS(py:List D->b'):aq->Out:=
 (bK (fa (di d2 (bg mO (J 1))) (bo 2) (fa (di d2 (bg mO (J 1))) (bo 3) (bK (c1 (c4 py (az (J 0) (az (J 2) (az (J 3) aU)))) (bo 4)) (ef (g3 (b6 (aI (qI Tab.d5) (J 2) (J 3))) (g3 (b6 (bg mN (J 4))) (b6 (aI (fQ true) (J 4) (J 1))))) (cM (gv (az (J 2) (az (J 3) aU)))) (λε=>.nx ε))))) (cM (aT .bb)))
def CL:aq->Out:=
 (cM (gP (di d2 (aI bw (J 0) (aT (.str "order")))) (bo 0) (b6 (aI (fQ false) (J 1) (aI bw (aI bw (J 2) (aT (.str "far"))) (J 0)))) (J 0) 1 [1,0] none))
def yY(qu:List D->b')(B3:List D->b'):aq->Out:=
 (bK (ko (aT (.lst [])) 4) (bK (fa (di d2 (J 3)) (zF 2 (qM (bo 5) (qM (bo 6) zH))) (bK (ef (lf (b6 (c4 qu (az (J 5) aU)))) (cM (gv (az (aT (.str "BadName")) (az (J 5) aU)))) (λε=>.nx ε)) (bK (ef (b6 (aI (fQ true) (J 6) (aI bw (J 0) (aT (.str "order"))))) (cM (gv (az (aT (.str "NoKind")) (az (J 6) aU)))) (λε=>.nx ε)) (bK (ef (b6 (aI (fQ false) (J 5) (zl 4))) (cM (gv (az (aT (.str "Twice")) (az (J 5) aU)))) (λε=>.nx ε)) (bK (rk 4 (J 5)) (bK (ef (g3 (b6 (aI (gQ false) (J 5) (aI bw (J 0) (aT (.str "home"))))) (b6 (aI (fQ true) (aI bw (aI bw (J 0) (aT (.str "home"))) (J 5)) (J 1)))) (cM (gv (az (aT (.str "Strange")) (az (J 5) aU)))) (λε=>.nx ε)) (ef (lf (b6 (bg oL (gP (di d2 (r7 (J 2) (J 5) (iQ aU))) (bo 0) (λε=>.ok true ε) (aI (fQ false) (J 0) (aI bw (aI bw (J 2) (aT (.str "far"))) (J 1))) 1 [6,0] none)))) (cM (gv (az (aT (.str "Wider")) (az (J 5) aU)))) (λε=>.nx ε)))))))) (bK (fa (di d2 (bg l4 (J 2))) (bo 5) (ef (g3 (b6 (aI (fQ true) (J 5) (zl 4))) (b6 (bg pJ (c4 B3 (az (J 0) (az (aI bw (J 2) (J 5)) aU)))))) (cM (gv (az (aT (.str "NoFit")) (az (J 5) aU)))) (λε=>.nx ε))) (cM (aT .bb)))))
def CJ:aq->Out:=
 (cM (gr (CY v3 v3 (aT (.int 1)) (bg r9 (J 0)) (aT (.int 8))) (bg oL (gP (di Cx (J 0)) (bo 0) (λε=>.ok true ε) (aI (qI C8) (J 0) (aT (.str "abcdefghijklmnopqrstuvwxyz"))) 1 [] none))))
def yV:aq->Out:=
 (bK (ef (b6 (aI (gQ false) (J 2) (aI bw (J 0) (J 1)))) (cM (J 1)) (λε=>.nx ε)) (bK (ef (b6 (aI (gQ false) (J 1) (aI bw (J 0) (J 2)))) (cM (J 2)) (λε=>.nx ε)) (bK (c1 (tJ (J 0) (bo 0) (g3 (b6 (aI (gQ false) (J 1) (aI bw (J 3) (J 0)))) (b6 (aI (gQ false) (J 2) (aI bw (J 3) (J 0))))) (J 0) 1 [1,2,0] none) (bo 3)) (bK (ef (lf (vV (J 3))) (cM (aT .bb)) (λε=>.nx ε)) (cM (HT (J 3) 0))))))
def yR(pz:List D->b'):aq->Out:=
 (bK (c1 (bg l4 (J 1)) (bo 2)) (bK (fa (HP (J 2)) (zF 2 (qM (bo 3) (qM (bo 4) zH))) (fa (di d2 (jo tS (J 2) (kf (aI ki (J 3) (aT (.int 1)))) (λε=>.ok none ε))) (bo 5) (bK (c1 (c4 pz (az (J 0) (az (J 4) (az (J 5) aU)))) (bo 6)) (ef (g3 (b6 (bg mN (J 6))) (b6 (aI (gQ true) (J 6) (J 1)))) (cM (gv (az (J 4) (az (J 5) aU)))) (λε=>.nx ε))))) (cM (aT .bb))))
def Pa:aq->Out:=
 (bK (ko (aT (.aK [])) 2) (bK (p5 (J 1) (bo 3) (λ_=>.no)) (cM (J 2))))
def CI(B1:List D->b')(BS:List D->b'):aq->Out:=
 (bK (c1 (c4 B1 (az (J 0) (az (J 1) aU))) (bo 2)) (cM (bg Il (tJ (J 2) (bo 0) (λε=>.ok true ε) (c4 BS (az (J 1) (az (J 0) aU))) 1 [2] none))))
def vC(bH:O)(x8:O):aq->Out:=
 (ef (b6 (aI (gQ true) (J 1) (bg (e8 bH "upward") (J 0)))) (jy x8 "NoKind" ["name"] (az (J 1) aU)) (λε=>.nx ε))
def yP(bH:O)(ot:O)(x_:O)(x6:O)(nz:List D->b'):aq->Out:=
 (bK (ef (lf (b6 (c4 nz (az (J 1) aU)))) (jy ot "BadName" ["name"] (az (J 1) aU)) (λε=>.nx ε)) (bK (ef (b6 (aI (gQ false) (J 1) (bg (e8 bH "upward") (J 0)))) (jy x_ "Taken" ["name"] (az (J 1) aU)) (λε=>.nx ε)) (ef (b6 (aI Io (bg g5 (bg (e8 bH "order") (J 0))) (aT (.int 24)))) (jy x6 "Full" [] aU) (λε=>.nx ε))))
def yO(bH:O):aq->Out:=
 (bK (ko (aT (.aK [])) 2) (bK (fa (di d2 (J 1)) (bo 3) (n7 2 (aI bw (bg (e8 bH "upward") (J 0)) (J 3)))) (cM (J 2))))
def yQ(bH:O)(x0:O)(x5:O)(eU:List D->b')(qs:List D->b')(BW:List D->b'):aq->Out:=
 (bK (fa (di d2 (J 1)) (bo 2) (mf (l0 bH "check_kind" eU (J 0) (az (J 2) aU)))) (bK (ef (lf (vV (J 1))) (jy x0 "BadParts" [] aU) (λε=>.nx ε)) (bK (c1 (gu bH "above_all" qs (J 0) (az (J 1) aU)) (bo 3)) (bK (c1 (c4 BW (az (bg (e8 bH "upward") (J 0)) (az (J 3) aU))) (bo 4)) (ef (b6 (bg mN (J 4))) (jy x5 "Forked" ["one","other"] (az (aI v2 (J 4) (aT (.int 0))) (az (aI v2 (J 4) (aT (.int 1))) aU))) (λε=>.nx ε))))))
def CA(bH:O)(ot:O)(x':O)(x9:O)(ya:O)(qs:List D->b')(nz:List D->b')(eU:List D->b')(qt:List D->b')(BL:List D->b'):aq->Out:=
 (bK (c1 (gu bH "above_all" qs (J 0) (az (J 1) aU)) (bo 3)) (bK (ko (aT (.aK [])) 4) (bK (fa (di d2 (J 2)) (zF 2 (qM (bo 5) (qM (bo 6) zH))) (bK (ef (lf (b6 (c4 nz (az (J 5) aU)))) (jy ot "BadName" ["name"] (az (J 5) aU)) (λε=>.nx ε)) (bK (mf (l0 bH "check_kind" eU (J 0) (az (J 6) aU))) (bK (ef (b6 (aI (gQ false) (J 5) (zl 4))) (jy x' "Twice" ["room"] (az (J 5) aU)) (λε=>.nx ε)) (bK (ef (g3 (b6 (aI (gQ false) (J 5) (bg (e8 bH "homes") (J 0)))) (b6 (aI (gQ true) (aI bw (bg (e8 bH "homes") (J 0)) (J 5)) (J 3)))) (jy x9 "Strange" ["room"] (az (J 5) aU)) (λε=>.nx ε)) (bK (ef (lf (b6 (bg oL (gP (di d2 (gu bH "let_by" qt (J 0) (az (J 1) (az (J 5) aU)))) (bo 0) (λε=>.ok true ε) (gu bH "is_below" (hm BL) (J 2) (az (J 1) (az (J 0) aU))) 1 [6,0] none)))) (jy ya "Wider" ["room"] (az (J 5) aU)) (λε=>.nx ε)) (Lf 4 (J 5) (J 6)))))))) (cM (J 4)))))
def CB(bH:O)(x7:O)(qt:List D->b')(B4:List D->b'):aq->Out:=
 (bK (ko (bg zt (J 2)) 3) (bK (fa (di d2 (bg l4 (bg (e8 bH "homes") (J 0)))) (bo 4) (bK (c1 (gu bH "let_by" qt (J 0) (az (J 1) (az (J 4) aU))) (bo 5)) (ef (g3 (vV (J 5)) (b6 (aI (gQ true) (J 4) (J 2)))) (bK (c1 (c4 B4 (az (bg (e8 bH "upward") (J 0)) (az (J 5) aU))) (bo 6)) (bK (ef (b6 (bg pJ (J 6))) (jy x7 "NoFit" ["room"] (az (J 4) aU)) (λε=>.nx ε)) (Lf 3 (J 4) (J 6)))) (λε=>.nx ε)))) (cM (J 3))))
def CD(bH:O):aq->Out:=
 (cM (bg r_ (bg (e8 bH "order") (J 0))))
def CH(bH:O)(eU:List D->b'):aq->Out:=
 (bK (mf (l0 bH "check_kind" eU (J 0) (az (J 1) aU))) (cM (bg r_ (aI bw (bg (e8 bH "straight") (J 0)) (J 1)))))
def Cz(bH:O)(eU:List D->b'):aq->Out:=
 (bK (mf (l0 bH "check_kind" eU (J 0) (az (J 1) aU))) (cM (bg l4 (aI bw (bg (e8 bH "upward") (J 0)) (J 1)))))
def CG(bH:O)(eU:List D->b'):aq->Out:=
 (bK (mf (l0 bH "check_kind" eU (J 0) (az (J 1) aU))) (cM (bg mO (gP (di d2 (bg (e8 bH "order") (J 0))) (bo 0) (b6 (aI (gQ false) (J 1) (aI bw (bg (e8 bH "upward") (J 2)) (J 0)))) (J 0) 1 [1,0] none))))
def CC(bH:O)(eU:List D->b'):aq->Out:=
 (bK (mf (l0 bH "check_kind" eU (J 0) (az (J 1) aU))) (cM (r7 (bg (e8 bH "bound") (J 0)) (J 1) (aT .bb))))
def Cy(bH:O):aq->Out:=
 (cM (bg g5 (bg (e8 bH "order") (J 0))))
def yW(Gr:List D->b'):aq->Out:=
 (bK (fa (di d2 (bg l4 (aI bw (J 0) (aT (.str "musts"))))) (bo 1) (λ_=>.no)) (cM (aT (.aG false))))
def yT:aq->Out:=
 (bK (ko (aT (.aK [])) 2) (bK (fa (di d2 (bg zv (J 1))) (bo 3) (p5 (aI bw (aI bw (J 0) (aT (.str "lets"))) (J 3)) (bo 4) (λ_=>.no))) (cM (J 2))))
def Hk:aq->Out:=
 (bK (ko (pH (((aT (.str "order")),(iQ (az (aT (.str "any")) aU)))::(((aT (.str "ups")),(pH (((aT (.str "any")),(iQ aU))::[])))::(((aT (.str "told")),(pH (((aT (.str "any")),(aT (.aK [])))::[])))::(((aT (.str "lets")),(pH (((aT (.str "any")),(aT (.aK [])))::[])))::[]))))) 0) (bK (n7 0 (pH (((aT (.str "far")),(pH (((aT (.str "any")),(iQ (az (aT (.str "any")) aU)))::[])))::(((aT (.str "home")),(aT (.aK [])))::(((aT (.str "musts")),(aT (.aK [])))::[]))))) (cM (J 0))))
def vD(ti:D->List D->k7):aq->Out:=
 (bK (c1 (aI l3 (iQ (az (aT (.str "")) (az (aT (.str "q")) (az (aT (.str "tor")) (az (aT (.str "mmmmmmm")) (az (aT (.str "gull")) (az (aT (.str "be")) aU))))))) (gs (e' ti) 0 (az (aT (.int 6)) aU))) (bo 2)) (bK (c1 (gs (e' ti) 0 (az (aI ki (bg r9 (J 2)) (aT (.int 1))) aU)) (bo 3)) (bK (c1 (gs (e' ti) 0 (az (aT (.int 26)) aU)) (bo 4)) (bK (c1 (aI l3 (iQ (az (aT (.int 1)) (az (aT (.int 3)) (az (aT (.int 5)) (az (aT (.int 7)) (az (aT (.int 9)) (az (aT (.int 11)) aU))))))) (gs (e' ti) 0 (az (aT (.int 6)) aU))) (bo 5)) (bK (c1 (aT (.str "abcdefghijklmnopqrstuvwxyz")) (bo 6)) (bK (ko (aT (.lst [])) 7) (bK (fa (vU (az (J 1) aU)) (bo 8) (bK (c1 (aI v1 (J 6) (aI v4 (aI ki (J 4) (aI tP (J 5) (J 8))) (aT (.int 26)))) (bo 9)) (rk 7 (aI oK (aI oK (jo oN (J 2) (λε=>.ok none ε) (kf (J 3))) (J 9)) (jo oN (J 2) (kf (J 3)) (λε=>.ok none ε)))))) (cM (J 7)))))))))
def yX(qu:List D->b')(BV:List D->b')(BX:List D->b')(Ce:List D->b')(BZ:List D->b')(B8:List D->b')(BU:List D->b'):aq->Out:=
 (bK (ef (lf (b6 (c4 qu (az (J 1) aU)))) (cM (gv (az (aT (.str "BadName")) (az (J 1) aU)))) (λε=>.nx ε)) (bK (ef (b6 (aI (fQ false) (J 1) (aI bw (J 0) (aT (.str "order"))))) (cM (gv (az (aT (.str "Taken")) (az (J 1) aU)))) (λε=>.nx ε)) (bK (ef (b6 (aI C7 (bg g5 (aI bw (J 0) (aT (.str "order")))) (aT (.int 23)))) (cM (gv (az (aT (.str "Full")) (az (aT (.str "")) aU)))) (λε=>.nx ε)) (bK (fa (di d2 (J 2)) (bo 4) (ef (b6 (aI (fQ true) (J 4) (aI bw (J 0) (aT (.str "order"))))) (cM (gv (az (aT (.str "NoKind")) (az (J 4) aU)))) (λε=>.nx ε))) (bK (ef (b6 (aI vY (bg g5 (J 2)) (aT (.int 0)))) (cM (gv (az (aT (.str "BadParts")) (az (aT (.str "")) aU)))) (λε=>.nx ε)) (bK (c1 (c4 BV (az (J 0) (az (J 2) aU))) (bo 5)) (bK (c1 (c4 BX (az (J 0) (az (J 5) aU))) (bo 6)) (bK (ef (b6 (bg mN (J 6))) (cM (gv (az (aT (.str "Forked")) (az (J 6) aU)))) (λε=>.nx ε)) (bK (c1 (c4 Ce (az (J 0) (az (J 5) (az (c4 BZ (az (J 0) (az (J 2) aU))) (az (J 3) aU))))) (bo 7)) (bK (ef (g3 (b6 (bg pJ (J 7))) (b6 (c4 B8 (az (c4 BU (az (J 0) (az (J 1) (az (J 2) (az (J 3) aU))))) aU)))) (cM (gv (az (aT (.str "Ring")) (az (J 1) aU)))) (λε=>.nx ε)) (cM (J 7))))))))))))
end bu
namespace bu
open PySem PySem.Spec PyProof.Rows
variable[bk]
def MF{γ:D->aq->Option aq}{f3:aq->aJ Bool}{e2:aq->aJ D}(p:D->Bool)(f:D->D)(ab:tE none (h3 n cap ε)=true):∀(ds acc:List D),
  (∀d∈ds,∃aC bD,γ d (h3 n cap ε)=some aC/\f3 aC= .ok (p d) bD/\(p d=true->∃gW,e2 bD= .ok (f d) gW))->iD γ f3 e2 n cap none ds acc ε= .ok (acc++(ds.filter p).map f) ε
 | [],acc,_=>by simp[iD]
 | d::ds,acc,h=>by
  obtain⟨aC,bD,h1,h2,aN⟩:=h d (by simp)
  have b3:=λacc=>MF p f ab ds acc λd hd=>h d (by simp[hd])
  unfold iD;rw[if_pos ab,h1];dsimp only;rw[h2];cases aB:p d with
  | true=>
   obtain⟨gW,h4⟩:=aN aB;simp only[aJ.bind,if_true,h4,qB];rw[b3,WB aB];simp
  | false=>
   simp only[aJ.bind,nj,if_false,qB];rw[b3,WA (by simp[aB])]
def Pu{mq:aq->aJ (List D)}{γ:D->aq->Option aq}{f3:aq->aJ Bool}{e2:aq->aJ D}{ds:List D}(p:D->Bool)(f:D->D)(au:mq ε= .ok ds ε')(ar:ds.length<=1000)(ab:tE none (h3 n cap ε')=true)
  (h:∀d∈ds,∃aC bD,γ d (h3 n cap ε')=some aC/\f3 aC= .ok (p d) bD/\(p d=true->∃gW,e2 bD= .ok (f d) gW)):gP mq γ f3 e2 n cap none ε= .ok (.lst ((ds.filter p).map f)) ε':=by
 unfold gP;rw[au];show(if ds.length<=1000 then(iD γ f3 e2 n cap none ds [] ε').bind _ else _)=_
 rw[if_pos ar,MF p f ab ds [] h];rfl
def vN{mq:aq->aJ (List D)}{γ:D->aq->Option aq}{f3:aq->aJ Bool}{e2:aq->aJ D}{ss:List Str}(p:Str->Bool)(f:Str->D)(au:mq ε= .ok (ss.map D.str) ε')(ar:ss.length<=1000)(ab:tE none (h3 n cap ε')=true)
  (h:∀s∈ss,∃aC bD,γ (.str s) (h3 n cap ε')=some aC/\f3 aC= .ok (p s) bD/\(p s=true->∃gW,e2 bD= .ok (f s) gW)):gP mq γ f3 e2 n cap none ε= .ok (.lst ((ss.filter p).map f)) ε':=by
 rw[Pu (λd=>match d with | .str s=>p s | _=>false) (λd=>match d with | .str s=>f s | _=>d) au (by simpa using ar) ab]
 ·congr 2
  rw[WD,uY];rfl
 ·intro d hd;obtain⟨s,aS,rfl⟩:=fB.mp hd;exact h s aS
structure Md where
 order:List Str
 ups:List (Str×List Str)
 told:List (Str×List (Str×Str))
 lets:List (Str×List (Str×Str))
 ai:List (Str×List Str)
 home:List (Str×Str)
def av(l:List Str):D:=.lst (l.map .str)
def iC(l:List (Str×Str)):D:=.aK (l.map λp=>(.inr p.1,.str p.2))
def a_(M:Md):D:=.aK [(.inr "order",av M.order),(.inr "ups",.aK (M.ups.map λp=>(.inr p.1,av p.2))),(.inr "told",.aK (M.told.map λp=>(.inr p.1,iC p.2))),(.inr "lets",.aK (M.lets.map λp=>(.inr p.1,iC p.2))),
 (.inr "far",.aK (M.ai.map λp=>(.inr p.1,av p.2))),(.inr "home",iC M.home),(.inr "musts",.aK [])]
def v0(x:Str)(ss:List Str):fQ jR (.str x) (av ss)=some (.aG (if jR then !decide (x∈ss)else decide (x∈ss))):=aec x ss
def ajo(l:List Str):pK (av l) (.lst [])=some (.aG (!l.isEmpty)):=by
 unfold av;simp only[pK,rn];cases l<;>rfl
def ah0{l:List Str}{j:Nat}(h:l[j]? =some g):l3 (av l) (.int j)=some (.str g):=yK (by rw[ft,h];rfl)
def ahZ{l:List Str}(h:l[0]? =some g):l3 (av l) (.int 0)=some (.str g):=ah0 (j:=0) h
def uQ{α:Type}(g:α->D)(k:Str):∀(l:List (Str×α)),fo (l.map λp=>(.inr p.1,g p.2)) (.inr k)=(l.lookup k).map g
 | []=>rfl
 | (a,b)::l=>by
  have b3:=uQ g k l;unfold fo at b3 ⊢;rw[fM,mv,k0];by_cases h:a=k
  ·subst h;simp
  ·have h2:(k==a)=false:=by simpa using Ne.symm h
   have aN:¬((hu a:bM)= .inr k):=λz=>h (FY z);rw[h2];simp only[aN,decide_false];exact b3
def bO(M:Md)(k:Str):List Str:=(M.ai.lookup k).getD []
def uk(M:Md):bw (a_ M) (.str "order")=some (av M.order):=rfl
def DV(M:Md):bw (a_ M) (.str "far")=some (.aK (M.ai.map λp=>(.inr p.1,av p.2))):=rfl
def C'(M:Md)(h:(M.ai.lookup k).isSome=true):bw (.aK (M.ai.map λp=>(.inr p.1,av p.2))) (.str k)=some (av (bO M k)):=by
 show fo _ (.inr k)=_;rw[uQ];unfold bO;cases hz:M.ai.lookup k with
 | none=>rw[hz]at h;cases h
 | some l=>rfl
structure Ck(M:Md):Prop where
 c_:M.order.length<=24
 ai:∀k∈M.order,(M.ai.lookup k).isSome=true
def l':Option Str->D
 | some x=>.str x
 | none=>.bb
def Iz(M:Md)(h:(M.ai.lookup k).isSome=true){ε:aq}{i j l:Nat}(au:ε[i]? =some (G (.str a)))(a2:ε[j]? =some (G (a_ M)))(ar:ε[l]? =some (G (.str k))):
  b6 (aI (fQ false) (J i) (aI bw (aI bw (J j) (aT (.str "far"))) (J l))) ε= .ok (decide (a∈bO M k)) ε:=by
 simp only[b6,aI,J,au,a2,ar,aT,aJ.bind,DV,dv,C' M h,v0,hL,nj,if_false]
def acZ(M:Md)(h:Ck M)(a b:Str):bS yU 3 5 [a_ M,.str a,.str b]= .ok (l' (Tab.low M.order (bO M) a b)):=by
 have aH:=h.c_;have ag:gP (di d2 (aI bw (J 0) (aT (.str "order")))) (bo 0) (g3 (b6 (aI (fQ false) (J 2) (aI bw (aI bw (J 1) (aT (.str "far"))) (J 0)))) (b6 (aI (fQ false) (J 3) (aI bw (aI bw (J 1) (aT (.str "far"))) (J 0))))) (J 0) 1 [0,1,2] none (eR 5 [a_ M,.str a,.str b])=
   .ok (av (Tab.both M.order (bO M) a b)) (eR 5 [a_ M,.str a,.str b]):=by
  refine vN (ss:=M.order) (λk=>decide (a∈bO M k) && decide (b∈bO M k)) D.str rfl (by omega) rfl λk aw=>?_
  refine⟨_,[G (.str k),G (a_ M),G (.str a),G (.str b)],rfl,?_,λ_=>⟨_,rfl⟩⟩;show g3 _ _ [G (.str k),G (a_ M),G (.str a),G (.str b)]=_;unfold g3;rw[Iz M (h.ai k aw) (a:=a) (k:=k) rfl rfl rfl];simp only[aJ.bind];cases af:decide (a∈bO M k)with
  | false=>rfl
  | true=>
   rw[if_pos rfl,Iz M (h.ai k aw) (a:=b) (k:=k) rfl rfl rfl];rfl
 have pN:∀k∈Tab.both M.order (bO M) a b,k∈M.order:=λk aw=>(Tab.qY.mp aw).1;have aqy:(Tab.both M.order (bO M) a b).length<=24:=gX (Bb _ _) aH;have aF:gP (di d2 (J 3)) (bo 0) (b6 (bg oL (gP (di d2 (J 1)) (bo 0) (λε=>.ok true ε) (aI (fQ false) (J 1) (aI bw (aI bw (J 2) (aT (.str "far"))) (J 0))) 1 [0,2] none))) (J 0) 1 [3,0] none [G (a_ M),G (.str a),G (.str b),G (av (Tab.both M.order (bO M) a b)),none]=
   .ok (av ((Tab.both M.order (bO M) a b).filter λk=>(Tab.both M.order (bO M) a b).all λf=>decide (k∈bO M f))) [G (a_ M),G (.str a),G (.str b),G (av (Tab.both M.order (bO M) a b)),none]:=by
  refine vN (ss:=Tab.both M.order (bO M) a b) _ D.str rfl (by omega) rfl λk aw=>?_
  refine⟨_,[G (.str k),G (av (Tab.both M.order (bO M) a b)),G (a_ M)],rfl,?_,λ_=>⟨_,rfl⟩⟩;have cU:gP (di d2 (J 1)) (bo 0) (λε=>.ok true ε) (aI (fQ false) (J 1) (aI bw (aI bw (J 2) (aT (.str "far"))) (J 0))) 1 [0,2] none [G (.str k),G (av (Tab.both M.order (bO M) a b)),G (a_ M)]=
    .ok (.lst (((Tab.both M.order (bO M) a b).filter λ_=>true).map λf=>.aG (decide (k∈bO M f)))) [G (.str k),G (av (Tab.both M.order (bO M) a b)),G (a_ M)]:=by
   refine vN (ss:=Tab.both M.order (bO M) a b) (λ_=>true) _ rfl (by omega) rfl λf aH=>?_
   refine⟨_,[G (.str f),G (.str k),G (a_ M)],rfl,rfl,λ_=>⟨[G (.str f),G (.str k),G (a_ M)],?_⟩⟩;simp only[aI,J,aT,aJ.bind,dv,gg,hU,DV,C' M (h.ai f (pN f aH)),v0,nj,if_false]
  show b6 (bg oL _) [G (.str k),G (av (Tab.both M.order (bO M) a b)),G (a_ M)]=_;unfold b6 bg;rw[cU];have jn:oL (.lst (((Tab.both M.order (bO M) a b).filter λ_=>true).map λf=>.aG (decide (k∈bO M f))))=some (.aG ((Tab.both M.order (bO M) a b).all λf=>decide (k∈bO M f))):=by
   rw[WC.mpr (λ_ _=>rfl),show(λf=>D.aG (decide (k∈bO M f)))=D.aG∘(λf=>decide (k∈bO M f))from rfl, <- uY]
   show(xx hL _).map _=_;rw[Ph];simp[xv]
  simp only[aJ.bind,jn,dv,hL]
 unfold bS;rw[if_pos (show [a_ M,.str a,.str b].length=3 from rfl)]
 unfold yU;simp only[bK,c1,ag,aJ.out,bo];rw[if_pos (show 3 < (eR 5 [a_ M,.str a,.str b]).length from by show 3 < 5;decide)]
 simp only[Ko];rw[show(eR 5 [a_ M,.str a,.str b]).set 3 (G (av (Tab.both M.order (bO M) a b)))=[G (a_ M),G (.str a),G (.str b),G (av (Tab.both M.order (bO M) a b)),none]from rfl,aF]
 simp only[hH,Bc];rw[if_pos (by decide)]
 simp only[u1,u2];unfold Tab.low;generalize (Tab.both M.order (bO M) a b).filter _=L;unfold cM HQ b6 aI iQ aU;simp only[J,gg,hU,aJ.bind,n9,Bc,j2,if_true,Option.map_some,dv,ajo,hL];cases L with
 | nil=>rfl
 | cons g r=>
  simp only[List.isEmpty_cons,V3,if_true,aT,ahZ (show(g::r)[0]? =some g from rfl),aJ.out]
  rfl
def aiF:Str:="abcdefghijklmnopqrstuvwxyz"
def wg(d:D):Bool:=match d with
 | .str s=>C8 s aiF
 | _=>false
def h9(x:Str):Bool:=decide ((1:Int)<=x.length) && (decide ((x.length:Int)<=8) && (oC x).all wg)
def aa6(x:Str):(oC x).length=x.length:=by simp[oC];rfl
def PL(x:Str)(ah:x.length<=1000):bS tF 1 1 [.str x]= .ok (.aG (h9 x)):=by
 have ag:gP (di Cx (J 0)) (bo 0) (λε=>.ok true ε) (aI (qI C8) (J 0) (aT (.str "abcdefghijklmnopqrstuvwxyz"))) 1 [] none [G (.str x)]= .ok (.lst (((oC x).filter λ_=>true).map λd=>.aG (wg d))) [G (.str x)]:=by
  refine Pu (ds:=oC x) (λ_=>true) _ rfl (by rw[aa6];exact ah) rfl λd hd=>?_
  obtain⟨c,_,rfl⟩:=fB.mp hd;exact⟨_,[G (.str ⟨#[c]⟩)],rfl,rfl,λ_=>⟨_,rfl⟩⟩
 have aF:oL (.lst (((oC x).filter λ_=>true).map λd=>.aG (wg d)))=some (.aG ((oC x).all wg)):=by
  rw[WC.mpr (λ_ _=>rfl),show(λd=>D.aG (wg d))=D.aG∘wg from rfl, <- uY]
  show(xx hL _).map _=_;rw[Ph];simp[xv]
 unfold bS;rw[if_pos (show [D.str x].length=1 from rfl)]
 unfold tF cM gr CY;simp only[show eR 1 [D.str x]=[G (.str x)]from rfl,aT,bg,J,gg,aJ.bind,r9,if_pos ah,dv,v3,h6,if_true,om,hL]
 unfold h9;by_cases h1:(1:Int)<=x.length
 ·by_cases h2:(x.length:Int)<=8
  ·simp only[h1,h2,decide_true,if_true,ag,aF,M1,aJ.out,sH]
  ·simp only[h1,h2,decide_true,decide_false,if_true,if_false,M1,A6,aJ.out,sH,nj]
 ·simp only[h1,decide_false,if_false,A6,aJ.out,sH,nj]
def amI:CJ=tF:=rfl
def ac7(M:Md)(h:Ck M)(a:Str):bS CL 2 2 [a_ M,.str a]= .ok (av (M.order.filter λk=>decide (a∈bO M k))):=by
 have aH:=h.c_;have ag:gP (di d2 (aI bw (J 0) (aT (.str "order")))) (bo 0) (b6 (aI (fQ false) (J 1) (aI bw (aI bw (J 2) (aT (.str "far"))) (J 0)))) (J 0) 1 [1,0] none [G (a_ M),G (.str a)]=
   .ok (.lst ((M.order.filter λk=>decide (a∈bO M k)).map D.str)) [G (a_ M),G (.str a)]:=by
  refine vN (ss:=M.order) (λk=>decide (a∈bO M k)) D.str rfl (by omega) rfl λk aw=>?_
  exact⟨_,[G (.str k),G (.str a),G (a_ M)],rfl,Iz M (h.ai k aw) (a:=a) (k:=k) rfl rfl rfl,λ_=>⟨_,rfl⟩⟩
 unfold bS;rw[if_pos (show [a_ M,D.str a].length=2 from rfl)]
 unfold CL cM;rw[show eR 2 [a_ M,D.str a]=[G (a_ M),G (.str a)]from rfl,ag]
 rfl
def SQ{γ:D->aq->Option aq}{β:aq->Out}{α:Type}(mM:α->D)(I:List α->aq->Prop)(R:D->Prop)(ss:List α):∀(hs pre:List α)(ε:aq),ss=pre++hs->I pre ε->
  (∀pre s hs ε,ss=pre++s::hs->I pre ε->∃aC,γ (mM s) ε=some aC/\((∃bD,(β aC= .nx bD∨β aC= .ct bD)/\I (pre++[s]) bD)∨∃d bD,β aC= .ey d bD/\R d))->
  (∃ε',jP γ β (hs.map mM) ε= .nx ε'/\I ss ε')∨∃d ε',jP γ β (hs.map mM) ε= .ey d ε'/\R d
 | [],pre,ε,e,bE,step=>.inl ⟨ε,rfl,by rw[e,mu];exact bE⟩
 | s::hs,pre,ε,e,bE,step=>by
  obtain⟨aC,h1,h2⟩:=step pre s hs ε e bE;rw[fM];unfold jP;rw[h1];dsimp only;rcases h2 with⟨bD,h2,aN⟩ | ⟨d,bD,h2,aN⟩
  ·have b3:=SQ mM I R ss hs (pre++[s]) bD (by rw[e];simp) aN step
   rcases h2 with h2 | h2
   ·rw[h2];exact b3
   ·rw[h2];exact b3
  ·rw[h2];exact .inr ⟨d,bD,rfl,aN⟩
def qX{γ:D->aq->Option aq}{β:aq->Out}{α:Type}(mM:α->D)(I:List α->aq->Prop)(ss:List α)(ε:aq)(bE:I [] ε)
  (step:∀pre s hs ε,ss=pre++s::hs->I pre ε->∃aC,γ (mM s) ε=some aC/\∃bD,(β aC= .nx bD∨β aC= .ct bD)/\I (pre++[s]) bD):∃ε',jP γ β (ss.map mM) ε= .nx ε'/\I ss ε':=by
 rcases SQ (γ:=γ) (β:=β) mM I (λ_=>False) ss ss [] ε rfl bE λpre s hs ε e h=>by
  obtain⟨aC,h1,h2⟩:=step pre s hs ε e h;exact⟨aC,h1,.inl h2⟩with h | ⟨d,ε',_,h⟩
 ·exact h
 ·exact h.elim
def f9{f:D->D->Option D}{bf cR:aq->aJ D}{a b d:D}(af:bf ε= .ok a aC)(ab:cR aC= .ok b bD)(aH:f a b=some d):aI f bf cR ε= .ok d bD:=by
 unfold aI;rw[af];simp only[aJ.bind,ab,aH,dv]
def aaA(l:List Str):d2 (av l)=some (l.map D.str):=rfl
def hq{δ:aq->aJ D}{i:Nat}{ε aC:aq}(h:δ ε= .ok d aC)(au:i < aC.length):c1 δ (bo i) ε= .nx (aC.set i (G d)):=by
 unfold c1;rw[h];simp only[aJ.out,bo,if_pos au,Ko]
def aa2(a b:List Str)(h:a.length+b.length<=1000):tN (av a) (av b)=some (av (a++b)):=by
 show(n9 (a.map D.str++b.map D.str)).map D.lst=_;unfold n9;rw[if_pos (by simpa using h)]
 simp[av]
def PK(M:Md)(h:Ck M)(ups:List Str)(aD:∀u∈ups,u∈M.order)(eh:∀k∈M.order,(bO M k).length<=24)(ar:ups.length<=24):bS qC 2 4 [a_ M,av ups]= .ok (av (Tab.dd (bO M) ups)):=by
 have bound:∀(pre:List Str),(∀u∈pre,u∈M.order)->(pre.foldl (λacc u=>Tab.more acc (bO M u)) []).length<=pre.length * 24:=by
  have gen:∀(pre acc:List Str),(∀u∈pre,u∈M.order)->(pre.foldl (λacc u=>Tab.more acc (bO M u)) acc).length<=acc.length+pre.length * 24:=by
   intro pre;induction pre with
   | nil=>intro acc _;simp
   | cons u pre b3=>
    intro acc aB;have h1:=b3 (Tab.more acc (bO M u)) λx ah=>aB x (by simp[ah])
    have h2:(Tab.more acc (bO M u)).length<=acc.length+24:=by
     unfold Tab.more;rw[oc];have:=gX (Bb (λx=>!decide (x∈acc)) (bO M u)) (eh u (aB u (by simp)))
     omega
    rw[Fy,hH];omega
  intro pre aB;simpa using gen pre [] aB
 obtain⟨ε',ag,v,rfl⟩:=qX (γ:=bo 3) (β:=c1 (aI tN (J 2) (gP (di d2 (aI bw (aI bw (J 0) (aT (.str "far"))) (J 3))) (bo 0) (b6 (aI (fQ true) (J 0) (J 1))) (J 0) 1 [2] none)) (bo 2)) D.str
  (λpre ε=>∃v,ε=[G (a_ M),G (av ups),G (av (pre.foldl (λacc u=>Tab.more acc (bO M u)) [])),v]) ups [G (a_ M),G (av ups),G (av []),none] ⟨none,rfl⟩ (by
   rintro pre u hs ε e ⟨v,rfl⟩;refine⟨[G (a_ M),G (av ups),G (av (pre.foldl (λacc u=>Tab.more acc (bO M u)) [])),G (.str u)],rfl,?_⟩;have DB:u∈M.order:=aD u (by rw[e];simp)
   have ahq:∀x∈pre,x∈M.order:=λx ah=>aD x (by rw[e];simp[ah])
   have ib:pre.length < 24:=by
    have:=congrArg List.length e;simp at this;omega
   generalize l8:pre.foldl (λacc u=>Tab.more acc (bO M u)) []=acc;have aqh:acc.length<=24 * 24:=by
    rw[<- l8];have:=bound pre ahq;omega
   have agR:=eh u DB;have aF:gP (di d2 (aI bw (aI bw (J 0) (aT (.str "far"))) (J 3))) (bo 0) (b6 (aI (fQ true) (J 0) (J 1))) (J 0) 1 [2] none [G (a_ M),G (av ups),G (av acc),G (.str u)]=
     .ok (.lst (((bO M u).filter λx=>!decide (x∈acc)).map D.str)) [G (a_ M),G (av ups),G (av acc),G (.str u)]:=by
    refine vN (ss:=bO M u) (λx=>!decide (x∈acc)) D.str ?_ (by omega) rfl λx ah=>?_
    ·simp only[di,aI,J,aT,gg,hU,aJ.bind,DV,dv,C' M (h.ai u DB),aaA]
    ·refine⟨_,[G (.str x),G (av acc)],rfl,?_,λ_=>⟨_,rfl⟩⟩;show b6 (aI (fQ true) (J 0) (J 1)) [G (.str x),G (av acc)]=_;simp only[b6,aI,J,gg,hU,aJ.bind,dv,v0,hL,if_true]
   refine⟨[G (a_ M),G (av ups),G (av (acc++(bO M u).filter λx=>!decide (x∈acc))),G (.str u)],.inl ?_,G (.str u),?_⟩
   ·refine hq (aC:=[G (a_ M),G (av ups),G (av acc),G (.str u)]) (f9 (a:=av acc) (b:=av ((bO M u).filter λx=>!decide (x∈acc))) rfl aF (aa2 _ _ ?_)) (by show 2 < 4;decide)
    have:=gX (Bb (λx=>!decide (x∈acc)) (bO M u)) agR;omega
   ·rw[Nc,l8];rfl)
 unfold bS;rw[if_pos (show [a_ M,av ups].length=2 from rfl)]
 unfold qC;have s1:c1 (iQ aU) (bo 2) (eR 4 [a_ M,av ups])= .nx [G (a_ M),G (av ups),G (av []),none]:=rfl;have s2:fa (di d2 (J 1)) (bo 3) (c1 (aI tN (J 2) (gP (di d2 (aI bw (aI bw (J 0) (aT (.str "far"))) (J 3))) (bo 0) (b6 (aI (fQ true) (J 0) (J 1))) (J 0) 1 [2] none)) (bo 2)) [G (a_ M),G (av ups),G (av []),none]=_:=ag;simp only[bK,s1,s2];rfl
def z5{γ:D->aq->Option aq}{β:aq->Out}{α:Type}(mM:α->D)(I:aq->Prop)(q:α->Option D):∀(ss:List α)(ε:aq),I ε->
  (∀s∈ss,∀ε,I ε->∃aC,γ (mM s) ε=some aC/\((q s=none/\∃bD,(β aC= .nx bD∨β aC= .ct bD)/\I bD)∨∃d bD,q s=some d/\β aC= .ey d bD))->
  (ss.findSome? q=none/\∃ε',jP γ β (ss.map mM) ε= .nx ε'/\I ε')∨∃d ε',ss.findSome? q=some d/\jP γ β (ss.map mM) ε= .ey d ε'
 | [],ε,bE,_=>.inl ⟨rfl,ε,rfl,bE⟩
 | s::ss,ε,bE,step=>by
  obtain⟨aC,h1,h2⟩:=step s (by simp) ε bE
  rw[fM,Fx];unfold jP;rw[h1];dsimp only;rcases h2 with⟨a9,bD,h2,aN⟩ | ⟨d,bD,a9,h2⟩
  ·have b3:=z5 mM I q ss bD aN λs aS=>step s (by simp[aS])
   rw[a9];rcases h2 with h2 | h2
   ·rw[h2];exact b3
   ·rw[h2];exact b3
  ·rw[a9,h2];exact .inr ⟨d,bD,rfl,rfl⟩
def Dc{α β:Type}(p:α->Bool)(f:α->β):∀(l:List α),(l.findSome? λb=>if p b=true then some (f b)else none)=(l.find? p).map f
 | []=>rfl
 | a::l=>by
  rw[Fx,mv];cases h:p a with
  | true=>rfl
  | false=>simpa using Dc p f l
def kV(p:Str×Str):D:=.tup [.str p.1,.str p.2]
def zE:Option (Str×Str)->D
 | some p=>kV p
 | none=>.bb
def kg{δ:aq->aJ D}{ε aC:aq}(h:δ ε= .ok (.aG b) aC):b6 δ ε= .ok b aC:=by
 unfold b6;rw[h];rfl
def zg{kx pa:aq->aJ Bool}{a b:Bool}(h:kx ε= .ok a ε)(h2:a=true->pa ε= .ok b ε):g3 kx pa ε= .ok (a && b) ε:=by
 unfold g3;rw[h];cases a with
 | true=>exact h2 rfl
 | false=>rfl
def jx{δ:aq->aJ Bool}{β γ:aq->Out}{ε aC:aq}(h:δ ε= .ok b aC):ef δ β γ ε=if b=true then β aC else γ aC:=by
 unfold ef;rw[h];rfl
def c5{β γ:aq->Out}{ε aC:aq}(h:β ε= .nx aC):bK β γ ε=γ aC:=by
 unfold bK;rw[h]
def uG{β γ:aq->Out}{ε aC:aq}(h:β ε= .ey d aC):bK β γ ε= .ey d aC:=by
 unfold bK;rw[h]
def Pk{F:List D->b'}{bf cR kz:aq->aJ D}{a b c d:D}(af:bf ε= .ok a ε)(ab:cR ε= .ok b ε)(aL:kz ε= .ok c ε)(h:F [a,b,c]= .ok d):c4 F (az bf (az cR (az kz aU))) ε= .ok d ε:=by
 simp only[c4,az,aU,af,ab,aL,aJ.bind,h]
def acS(M:Md){py:List D->b'}(Ji:∀a b,py [a_ M,.str a,.str b]= .ok (l' (Tab.low M.order (bO M) a b)))(F:List Str)(cZ:F.length < 64):bS (yS py) 2 5 [a_ M,av F]= .ok (zE (Tab.se (cI F) (Tab.h5 M.order (bO M) F))):=by
 have aS:∀ε,ε[1]? =some (G (av F))->di d2 (bg mO (J 1)) ε= .ok ((cI F).map D.str) ε:=λε h=>by
  simp only[di,bg,J,h,aJ.bind,av,C_ cZ,dv,d2]
 have JF:∀(a:Str)(ε:aq),(∃ig fz,ε=[G (a_ M),G (av F),G (.str a),ig,fz])->_:=λa ε zW=>
  z5 (γ:=bo 3) (β:=bK (c1 (c4 py (az (J 0) (az (J 2) (az (J 3) aU)))) (bo 4)) (ef (g3 (b6 (aI (qI Tab.d5) (J 2) (J 3))) (g3 (b6 (bg mN (J 4))) (b6 (aI (fQ true) (J 4) (J 1))))) (cM (gv (az (J 2) (az (J 3) aU)))) (λε=>.nx ε)))
   D.str (λε=>∃ig fz,ε=[G (a_ M),G (av F),G (.str a),ig,fz]) (λb=>if(Tab.d5 a b && Tab.h5 M.order (bO M) F a b)=true then some (kV (a,b))else none) (cI F) ε zW (by
   rintro b _ ε ⟨ig,fz,rfl⟩;refine⟨[G (a_ M),G (av F),G (.str a),G (.str b),fz],rfl,?_⟩;have ag:c1 (c4 py (az (J 0) (az (J 2) (az (J 3) aU)))) (bo 4) [G (a_ M),G (av F),G (.str a),G (.str b),fz]= .nx [G (a_ M),G (av F),G (.str a),G (.str b),G (l' (Tab.low M.order (bO M) a b))]:=
    hq (Pk rfl rfl rfl (Ji a b)) (by show 4 < 5;decide)
   rw[c5 ag];have aF:g3 (b6 (aI (qI Tab.d5) (J 2) (J 3))) (g3 (b6 (bg mN (J 4))) (b6 (aI (fQ true) (J 4) (J 1)))) [G (a_ M),G (av F),G (.str a),G (.str b),G (l' (Tab.low M.order (bO M) a b))]=
     .ok (Tab.d5 a b && Tab.h5 M.order (bO M) F a b) [G (a_ M),G (av F),G (.str a),G (.str b),G (l' (Tab.low M.order (bO M) a b))]:=by
    refine zg rfl λ_=>?_;unfold Tab.h5;cases Tab.low M.order (bO M) a b with
    | none=>rfl
    | some g=>
     refine zg (a:=true) rfl λ_=>kg (f9 (a:=.str g) (b:=av F) rfl rfl ?_);rw[v0];rfl
   rw[jx aF];cases ab:(Tab.d5 a b && Tab.h5 M.order (bO M) F a b)with
   | true=>exact .inr ⟨_,_,if_pos rfl,rfl⟩
   | false=>exact .inl ⟨if_neg (by simp),_,.inl rfl,_,_,rfl⟩)
 have a3:=z5 (γ:=bo 2) (β:=fa (di d2 (bg mO (J 1))) (bo 3) (bK (c1 (c4 py (az (J 0) (az (J 2) (az (J 3) aU)))) (bo 4)) (ef (g3 (b6 (aI (qI Tab.d5) (J 2) (J 3))) (g3 (b6 (bg mN (J 4))) (b6 (aI (fQ true) (J 4) (J 1))))) (cM (gv (az (J 2) (az (J 3) aU)))) (λε=>.nx ε))))
  D.str (λε=>∃ru ig fz,ε=[G (a_ M),G (av F),ru,ig,fz]) (λa=>((cI F).find? λb=>Tab.d5 a b && Tab.h5 M.order (bO M) F a b).map λb=>kV (a,b)) (cI F) [G (a_ M),G (av F),none,none,none] ⟨_,_,_,rfl⟩ (by
   rintro a _ ε ⟨ru,ig,fz,rfl⟩;refine⟨[G (a_ M),G (av F),G (.str a),ig,fz],rfl,?_⟩;unfold fa;rw[aS _ rfl];rcases JF a [G (a_ M),G (av F),G (.str a),ig,fz] ⟨_,_,rfl⟩with⟨h1,ε',h2,aqQ,aqR,rfl⟩ | ⟨d,ε',h1,h2⟩
   ·rw[Dc]at h1;exact .inl ⟨h1,_,.inl h2,_,_,_,rfl⟩
   ·rw[Dc]at h1;exact .inr ⟨d,ε',h1,h2⟩)
 have aw:(cI F).findSome? (λa=>((cI F).find? λb=>Tab.d5 a b && Tab.h5 M.order (bO M) F a b).map λb=>kV (a,b))=(Tab.se (cI F) (Tab.h5 M.order (bO M) F)).map kV:=by
  unfold Tab.se;rw[WR]
  congr 1
  funext a;show _=W9 kV (W9 _ _);rw[W_];rfl
 unfold bS;rw[if_pos (show [a_ M,av F].length=2 from rfl),show eR 5 [a_ M,av F]=[G (a_ M),G (av F),none,none,none]from rfl]
 unfold yS;rw[aw]at a3;rcases a3 with⟨h1,ε',h2,_⟩ | ⟨d,ε',h1,h2⟩
 ·rw[c5 (aC:=ε') (by unfold fa;rw[aS _ rfl];exact h2),Nn.mp h1]
  rfl
 ·rw[uG (aC:=ε') (d:=d) (by unfold fa;rw[aS _ rfl];exact h2)]
  obtain⟨p,aN,rfl⟩:=jD.mp h1;rw[aN];rfl
def dk(l:List Str):D:=.aK (l.map λx=>(.inr x,.aG true))
def ej(ns:List Str)(ai:Str->List Str):D:=.aK (ns.map λk=>(.inr k,dk (ai k)))
def xe(g:Str->D)(x:Str):∀(ns:List Str),fo (ns.map λk=>(.inr k,g k)) (.inr x)=if x∈ns then some (g x)else none
 | []=>rfl
 | a::l=>by
  have b3:=xe g x l;unfold fo at b3 ⊢;rw[fM,mv];by_cases h:a=x
  ·subst h;simp
  ·have aN:¬((hu a:bM)= .inr x):=λz=>h (FY z);simp only[aN,decide_false,dR,Ne.symm h,false_or];exact b3
def RE(g:Str->D)(x:Str)(l:List Str):gQ jR (.str x) (.aK (l.map λk=>(.inr k,g k)))=some (.aG (if jR then !decide (x∈l)else decide (x∈l))):=by
 show some (D.aG (if jR=true then !(fo _ (.inr x)).isSome else(fo _ (.inr x)).isSome))=_
 rw[xe];by_cases h:x∈l<;>simp[h]
def I2(x:Str)(l:List Str):gQ jR (.str x) (dk l)=some (.aG (if jR then !decide (x∈l)else decide (x∈l))):=RE _ x l
def RF(x:Str)(ns:List Str)(ai:Str->List Str):gQ jR (.str x) (ej ns ai)=some (.aG (if jR then !decide (x∈ns)else decide (x∈ns))):=RE _ x ns
def AV{ns:List Str}(ai:Str->List Str){k:Str}(h:k∈ns):bw (ej ns ai) (.str k)=some (dk (ai k)):=by
 show fo _ (.inr k)=_;rw[xe,if_pos h]
def aik(g:Str->D)(ns:List Str):hA (ns.map λk=>(.inr k,g k))=ns.map D.str:=by
 unfold hA;rw[uY];rfl
def L_{l:List Str}(h:l.length < 64):l4 (dk l)=some (av (cI l)):=by
 show(((l.map λx=>((hu x:bM),D.aG true)).map (·.1)).mapM z1).bind _=_;rw[uY,show((λx:bM×D=>x.1)∘λx=>((hu x:bM),D.aG true))=hu from rfl,aif,om,if_pos h]
 rfl
def aa'{δ:aq->aJ D}{γ:D->aq->Option aq}{f3:aq->aJ Bool}{e2:aq->aJ D}{ε ε':aq}{ss:List Str}(p:Str->Bool)(f:Str->D)(au:δ ε= .ok (.aK bR) ε')(aw:hA bR=ss.map D.str)(ar:ss.length<=1000)(ab:tE none (h3 n cap ε')=true)
  (h:∀s∈ss,∃aC bD,γ (.str s) (h3 n cap ε')=some aC/\f3 aC= .ok (p s) bD/\(p s=true->∃gW,e2 bD= .ok (f s) gW)):tJ δ γ f3 e2 n cap none ε= .ok (.lst ((ss.filter p).map f)) ε':=by
 unfold tJ;rw[au];show(if(hA bR).length<=1000 then D3 ((iD γ f3 e2 n cap none (hA bR) [] ε').bind _)else _)=_
 rw[aw,if_pos (by simpa using ar),MF (λd=>match d with | .str s=>p s | _=>false) (λd=>match d with | .str s=>f s | _=>d) ab]
 ·show aJ.ok (D.lst _) ε'=_
  congr 2
  rw[WU,WD,uY];rfl
 ·intro d hd;obtain⟨s,aS,rfl⟩:=fB.mp hd;exact h s aS
def Fc{ns:List Str}(ai:Str->List Str){a k:Str}(h:k∈ns){ε:aq}{i j l:Nat}(au:ε[i]? =some (G (.str a)))(a2:ε[j]? =some (G (ej ns ai)))(ar:ε[l]? =some (G (.str k))):
  b6 (aI (gQ false) (J i) (aI bw (J j) (J l))) ε= .ok (decide (a∈ai k)) ε:=by
 simp only[b6,aI,J,au,a2,ar,aJ.bind,dv,AV ai h,I2,hL,nj,if_false]
def SI{ns:List Str}(ai:Str->List Str){k:Str}(h:k∈ns):qW (ns.map λk=>(.inr k,dk (ai k))) k=some (ai k).length:=by
 unfold qW;rw[xe,if_pos h];show some (List.length _)=_;rw[dV]
def ac0(b7:Tab.Good ns ai)(c_:ns.length<=24){a b:Str}(af:a∈ns)(ab:b∈ns):bS yV 3 4 [ej ns ai,.str a,.str b]= .ok (l' (Tab.low ns ai a b)):=by
 unfold bS;rw[if_pos (show [ej ns ai,.str a,.str b].length=3 from rfl),show eR 4 [ej ns ai,.str a,.str b]=[G (ej ns ai),G (.str a),G (.str b),none]from rfl]
 unfold yV;have fm:=jx (β:=cM (J 1)) (γ:=λε=>.nx ε) (Fc ai af (a:=b) (ε:=[G (ej ns ai),G (.str a),G (.str b),none]) (i:=2) (j:=0) (l:=1) rfl rfl rfl);have dw:=jx (β:=cM (J 2)) (γ:=λε=>.nx ε) (Fc ai ab (a:=a) (ε:=[G (ej ns ai),G (.str a),G (.str b),none]) (i:=1) (j:=0) (l:=2) rfl rfl rfl);by_cases h1:b∈ai a
 ·rw[if_pos (by simpa using h1)]at fm
  rw[uG (fm.trans rfl),b7.J4 af h1];rfl
 rw[if_neg (by simpa using h1)]at fm
 rw[c5 fm];by_cases h2:a∈ai b
 ·rw[if_pos (by simpa using h2)]at dw
  rw[uG (dw.trans rfl),Tab.SR,b7.J4 ab h2];rfl
 rw[if_neg (by simpa using h2)]at dw
 rw[c5 dw];have ag:tJ (J 0) (bo 0) (g3 (b6 (aI (gQ false) (J 1) (aI bw (J 3) (J 0)))) (b6 (aI (gQ false) (J 2) (aI bw (J 3) (J 0))))) (J 0) 1 [1,2,0] none [G (ej ns ai),G (.str a),G (.str b),none]=
   .ok (av (Tab.both ns ai a b)) [G (ej ns ai),G (.str a),G (.str b),none]:=by
  refine aa' (ss:=ns) (λk=>decide (a∈ai k) && decide (b∈ai k)) D.str rfl (aik _ _) (by omega) rfl λk aw=>?_
  refine⟨_,[G (.str k),G (.str a),G (.str b),G (ej ns ai)],rfl,?_,λ_=>⟨_,rfl⟩⟩;exact zg (Fc ai aw rfl rfl rfl) λ_=>Fc ai aw rfl rfl rfl
 rw[c5 (hq ag (by show 3 < 4;decide))]
 simp only[u1,u2];have pN:∀k∈Tab.both ns ai a b,k∈ns:=λk aw=>(Tab.qY.mp aw).1;cases hP:Tab.both ns ai a b with
 | nil=>
  rw[Tab.aiN λk aw eH ek=>by have:=Tab.qY.mpr ⟨aw,eH,ek⟩;rw[hP]at this;cases this]
  rfl
 | cons s ss=>
  rw[c5 (β:=ef (lf (vV (J 3))) (cM (aT D.bb)) λε=>Out.nx ε) (aC:=[G (ej ns ai),G (.str a),G (.str b),G (av (s::ss))]) rfl];have oQ:(s::ss).all (λk=>(qW (ns.map λk=>(.inr k,dk (ai k))) k).isSome)=true:=pg.mpr λk aw=>by rw[SI ai (pN k (by rw[hP];exact aw))];rfl
  have aF:HT (J 3) 0 [G (ej ns ai),G (.str a),G (.str b),G (av (s::ss))]= .ok (.str (pW (kP (ns.map λk=>(.inr k,dk (ai k)))) s ss)) [G (ej ns ai),G (.str a),G (.str b),G (av (s::ss))]:=by
   show(match (((s::ss).map D.str).mapM hr)with | some (s::ss)=>if(s::ss).all (λk=>(qW (ns.map λk=>(.inr k,dk (ai k))) k).isSome)=true then aJ.ok (D.str (pW (kP (ns.map λk=>(.inr k,dk (ai k)))) s ss)) _ else .no | _=>.no)=_
   rw[rn];exact if_pos oQ
  obtain⟨pU,g8,hB⟩:=S6 (kP (ns.map λk=>(.inr k,dk (ai k)))) s ss;generalize pW (kP (ns.map λk=>(.inr k,dk (ai k)))) s ss=r at aF g8 hB;have aA:r∈Tab.both ns ai a b:=by rw[hP];exact oh g8
  have ky:∀k∈ns,kP (ns.map λk=>(.inr k,dk (ai k))) k=((ai k).length:Int):=λk aw=>by unfold kP;rw[SI ai aw];rfl
  rw[b7.aiM af ab aA λk aw=>by
   have Du:=aw;rw[hP]at Du;obtain⟨j,a2⟩:=WI Du;have:=(hB j k a2).1;rw[ky r (pN r aA),ky k (pN k aw)]at this;omega]
  unfold cM;rw[aF];rfl
def Q9(bad:Str->Str->Bool):∀(S:List Str),((List.range S.length).findSome? λi=>(S[i]?).bind λa=>((S.drop (i+1)).find? (bad a)).map λb=>(a,b))=Tab.jr bad S
 | []=>rfl
 | a::r=>by
  have b3:=Q9 bad r;rw[hH,Nk,Fx,List.findSome?_map];have ag:(((a::r)[0]?).bind λyI=>((Wv (0+1) (a::r)).find? (bad yI)).map λb=>(yI,b))=(r.find? (bad a)).map λb=>(a,b):=rfl;rw[ag];have aF:(List.range r.length).findSome? ((λi=>((a::r)[i]?).bind λyI=>((Wv (i+1) (a::r)).find? (bad yI)).map λb=>(yI,b))∘Nat.succ)=Tab.jr bad r:=by
   rw[<- b3]
   congr 1
  rw[aF];rw[show Tab.jr bad (a::r)=(match r.find? (bad a)with | some b=>some (a,b) | none=>Tab.jr bad r)from rfl]
  cases r.find? (bad a)<;>rfl
def abi(xs:List D)(k:Nat):cutD xs (some (k:Int)) none=xs.drop k:=by
 unfold cutD;rw[hv.UO,hv.Le];by_cases h:k<=xs.length
 ·rw[W3 h,xB (by simp)]
 ·rw[W4 (by omega),Wy (c9 _),List.take_nil,Wy (by omega)]
def Q4{S:List Str}{bad:Str->Bool}{a:Str}:(S.findSome? λb=>if bad b=true then some (kV (a,b))else none)=((S.find? bad).map λb=>(a,b)).map kV:=by
 rw[Dc,W_];rfl
def acR{pz:List D->b'}{L:List Str}(Ji:∀a∈L,∀b∈L,pz [ej ns ai,.str a,.str b]= .ok (l' (Tab.low ns ai a b)))(hP:L.length < 64):
  bS (yR pz) 2 7 [ej ns ai,dk L]= .ok (zE (Tab.jr (Tab.h5 ns ai L) (cI L))):=by
 have S2:∀x∈cI L,x∈L:=λx ah=>(p7 L).mem_iff.mp ah;have JF:∀(i:Nat)(a:Str)(ε:aq),(cI L)[i]? =some a->(∃fc dQ,ε=[G (ej ns ai),G (dk L),G (av (cI L)),G (.int i),G (.str a),fc,dQ])->_:=λi a ε au zW=>
  z5 (γ:=bo 5) (β:=bK (c1 (c4 pz (az (J 0) (az (J 4) (az (J 5) aU)))) (bo 6)) (ef (g3 (b6 (bg mN (J 6))) (b6 (aI (gQ true) (J 6) (J 1)))) (cM (gv (az (J 4) (az (J 5) aU)))) (λε=>.nx ε)))
   D.str (λε=>∃fc dQ,ε=[G (ej ns ai),G (dk L),G (av (cI L)),G (.int i),G (.str a),fc,dQ]) (λb=>if Tab.h5 ns ai L a b=true then some (kV (a,b))else none) ((cI L).drop (i+1)) ε zW (by
   rintro b ab ε ⟨fc,dQ,rfl⟩;have tX:b∈L:=S2 b (WT ab);have Dp:a∈L:=S2 a (oh au);refine⟨[G (ej ns ai),G (dk L),G (av (cI L)),G (.int i),G (.str a),G (.str b),dQ],rfl,?_⟩;have ag:c1 (c4 pz (az (J 0) (az (J 4) (az (J 5) aU)))) (bo 6) [G (ej ns ai),G (dk L),G (av (cI L)),G (.int i),G (.str a),G (.str b),dQ]=
     .nx [G (ej ns ai),G (dk L),G (av (cI L)),G (.int i),G (.str a),G (.str b),G (l' (Tab.low ns ai a b))]:=
    hq (Pk rfl rfl rfl (Ji a Dp b tX)) (by show 6 < 7;decide)
   rw[c5 ag];have aF:g3 (b6 (bg mN (J 6))) (b6 (aI (gQ true) (J 6) (J 1))) [G (ej ns ai),G (dk L),G (av (cI L)),G (.int i),G (.str a),G (.str b),G (l' (Tab.low ns ai a b))]=
     .ok (Tab.h5 ns ai L a b) [G (ej ns ai),G (dk L),G (av (cI L)),G (.int i),G (.str a),G (.str b),G (l' (Tab.low ns ai a b))]:=by
    unfold Tab.h5;cases Tab.low ns ai a b with
    | none=>rfl
    | some g=>
     refine zg (a:=true) rfl λ_=>kg (f9 (a:=.str g) (b:=dk L) rfl rfl ?_);rw[I2];rfl
   rw[jx aF];cases ab:Tab.h5 ns ai L a b with
   | true=>exact .inr ⟨_,_,if_pos rfl,rfl⟩
   | false=>exact .inl ⟨if_neg (by simp),_,.inl rfl,_,_,rfl⟩)
 have a3:=z5 (γ:=zF 2 (qM (bo 3) (qM (bo 4) zH))) (β:=fa (di d2 (jo tS (J 2) (kf (aI ki (J 3) (aT (.int 1)))) (λε=>.ok none ε))) (bo 5) (bK (c1 (c4 pz (az (J 0) (az (J 4) (az (J 5) aU)))) (bo 6)) (ef (g3 (b6 (bg mN (J 6))) (b6 (aI (gQ true) (J 6) (J 1)))) (cM (gv (az (J 4) (az (J 5) aU)))) (λε=>.nx ε))))
  (λ(i:Nat)=>D.tup [.int i,(((cI L).map D.str)[i]?).getD .bb]) (λε=>∃ig fz fc dQ,ε=[G (ej ns ai),G (dk L),G (av (cI L)),ig,fz,fc,dQ])
  (λi=>(((cI L)[i]?).bind λa=>(((cI L).drop (i+1)).find? (Tab.h5 ns ai L a)).map λb=>(a,b)).map kV) (List.range (cI L).length) [G (ej ns ai),G (dk L),G (av (cI L)),none,none,none,none] ⟨_,_,_,_,rfl⟩ (by
   rintro i au ε ⟨ig,fz,fc,dQ,rfl⟩;have au:=oi.mp au;obtain⟨a,af⟩:∃a,(cI L)[i]? =some a:=⟨_,jC au⟩;refine⟨[G (ej ns ai),G (dk L),G (av (cI L)),G (.int i),G (.str a),fc,dQ],?_,?_⟩
   ·rw[ft,af];rfl
   rw[af];have cU:di d2 (jo tS (J 2) (kf (aI ki (J 3) (aT (.int 1)))) (λε=>.ok none ε)) [G (ej ns ai),G (dk L),G (av (cI L)),G (.int i),G (.str a),fc,dQ]= .ok (((cI L).drop (i+1)).map D.str) [G (ej ns ai),G (dk L),G (av (cI L)),G (.int i),G (.str a),fc,dQ]:=by
    have jn:jo tS (J 2) (kf (aI ki (J 3) (aT (.int 1)))) (λε=>.ok none ε) [G (ej ns ai),G (dk L),G (av (cI L)),G (.int i),G (.str a),fc,dQ]= .ok (.lst (cutD ((cI L).map D.str) (some ((i+1:Nat):Int)) none)) [G (ej ns ai),G (dk L),G (av (cI L)),G (.int i),G (.str a),fc,dQ]:=rfl;unfold di;rw[jn,abi, <- WQ];rfl
   unfold fa;rw[cU];rcases JF i a [G (ej ns ai),G (dk L),G (av (cI L)),G (.int i),G (.str a),fc,dQ] af ⟨_,_,rfl⟩with⟨h1,ε',h2,aqS,aqT,rfl⟩ | ⟨d,ε',h1,h2⟩
   ·rw[Q4]at h1;exact .inl ⟨h1,_,.inl h2,_,_,_,_,rfl⟩
   ·rw[Q4]at h1;exact .inr ⟨d,ε',h1,h2⟩)
 have aw:((List.range (cI L).length).findSome? λi=>(((cI L)[i]?).bind λa=>(((cI L).drop (i+1)).find? (Tab.h5 ns ai L a)).map λb=>(a,b)).map kV)=(Tab.jr (Tab.h5 ns ai L) (cI L)).map kV:=by
  rw[<- Q9,WR];rfl
 rw[aw]at a3;have eu:c1 (bg l4 (J 1)) (bo 2) [G (ej ns ai),G (dk L),none,none,none,none,none]= .nx [G (ej ns ai),G (dk L),G (av (cI L)),none,none,none,none]:=
  hq (aC:=[G (ej ns ai),G (dk L),none,none,none,none,none]) (by
   show dv (l4 (dk L)) _=_;rw[L_ hP];rfl) (by show 2 < 7;decide)
 have ke:HP (J 2) [G (ej ns ai),G (dk L),G (av (cI L)),none,none,none,none]= .ok ((List.range (cI L).length).map λ(i:Nat)=>D.tup [.int i,(((cI L).map D.str)[i]?).getD .bb]) [G (ej ns ai),G (dk L),G (av (cI L)),none,none,none,none]:=by
  show aJ.ok (vW ((cI L).map D.str)) _=_;unfold vW;rw[dV]
 unfold bS;rw[if_pos (show [ej ns ai,dk L].length=2 from rfl),show eR 7 [ej ns ai,dk L]=[G (ej ns ai),G (dk L),none,none,none,none,none]from rfl]
 unfold yR;rw[c5 eu];rcases a3 with⟨h1,ε',h2,_⟩ | ⟨d,ε',h1,h2⟩
 ·rw[c5 (aC:=ε') (by unfold fa;rw[ke];exact h2),Nn.mp h1]
  rfl
 ·rw[uG (aC:=ε') (d:=d) (by unfold fa;rw[ke];exact h2)]
  obtain⟨p,aN,rfl⟩:=jD.mp h1;rw[aN];rfl
def oO(ns:List Str)(ai str:Str->List Str):List (Str×D):=[("order",av ns),("straight",.aK (ns.map λk=>(.inr k,.tup ((str k).map .str)))),("upward",ej ns ai),("own",.aK (ns.map λk=>(.inr k,.aK []))),
 ("lets",.aK (ns.map λk=>(.inr k,.aK []))),("homes",.aK []),("bound",.aK [])]
def bG(C:O)(ns:List Str)(ai str:Str->List Str):D:=.ins C (oO ns ai str)
section
variable{C:O}{ns:List Str}{ai str:Str->List Str}
def uN(h:(oO ns ai str).lookup f=some d):e8 C f (bG C ns ai str)=some d:=by
 show(if C=C then(oO ns ai str).lookup f else none)=_
 rw[if_pos rfl];exact h
def uO:e8 C "upward" (bG C ns ai str)=some (ej ns ai):=uN rfl
def E6:e8 C "order" (bG C ns ai str)=some (av ns):=uN rfl
def anI:e8 C "lets" (bG C ns ai str)=some (.aK (ns.map λk=>(.inr k,.aK []))):=uN rfl
def anH:e8 C "homes" (bG C ns ai str)=some (.aK []):=uN rfl
def anG:e8 C "bound" (bG C ns ai str)=some (.aK []):=uN rfl
def anK:e8 C "straight" (bG C ns ai str)=some (.aK (ns.map λk=>(.inr k,.tup ((str k).map .str)))):=uN rfl
def alR(acc:List Str)(x:Str):md (acc.map λx=>(.inr x,.aG true)) (.inr x) (.aG true)=(if x∈acc then acc else acc++[x]).map λx=>(.inr x,.aG true):=by
 unfold md;have e:(acc.map λx=>((hu x:bM),D.aG true)).any (λcO=>decide (cO.1= .inr x))=decide (x∈acc):=by
  rw[Wu];rw[pe];simp only[uX,Wn,decide_eq_true_eq];constructor
  ·rintro⟨y,b2,e⟩;cases e;exact b2
  ·exact λh=>⟨x,h,rfl⟩
 rw[e];by_cases h:x∈acc
 ·rw[if_pos (by simpa using h),if_pos h,uY]
  apply Nh;intro y _;simp only[Wn];split<;>rfl
 ·rw[if_neg (by simpa using h),if_neg h,og]
  rfl
def S4:∀(l acc:List Str),l.Nodup->qZ (acc.map λx=>(.inr x,.aG true)) (l.map λx=>(.inr x,.aG true))=(Tab.more acc l).map λx=>(.inr x,.aG true)
 | [],acc,_=>by simp[qZ,Tab.more]
 | x::l,acc,a4=>by
  obtain⟨nx,a4⟩:=nr.mp a4;show qZ (md (acc.map λx=>(.inr x,.aG true)) (.inr x) (.aG true)) (l.map λx=>(.inr x,.aG true))=_;rw[alR,S4 l _ a4]
  congr 1
  by_cases h:x∈acc
  ·rw[if_pos h];unfold Tab.more;rw[WA (by simpa using h)]
  ·rw[if_neg h];unfold Tab.more;rw[WB (by simpa using h),Fw]
   congr 1
   show [x]++_=x::_;rw[List.singleton_append]
   congr 1
   apply List.filter_congr;intro y b2;have:y≠x:=λz=>nx (by rw[<- z];exact b2)
   simp[this]
def VK{i:Nat}{δ:aq->aJ D}{ε:aq}(h:ε[i]? =some (some (true,dk acc)))(hd:δ ε= .ok (dk l) ε)(ar:acc.length+l.length<=1000)(a4:l.Nodup):n7 i δ ε= .nx (ε.set i (some (true,dk (Tab.more acc l)))):=by
 unfold dk at h hd ⊢;unfold n7;rw[h];dsimp only;rw[hd];dsimp only[aJ.out];rw[h];dsimp only;rw[if_pos (by simpa using ar),S4 l acc a4]
def IA(b7:Tab.Good ns ai)(c_:ns.length<=24){k:Str}(aw:k∈ns):(ai k).length<=24:=gX (Ai (b7.sd k aw) (b7.sub k aw)) c_
def v5(b7:Tab.Good ns ai)(c_:ns.length<=24){ups:List Str}(aD:∀u∈ups,u∈ns):(Tab.dd ai ups).length<=24:=
 gX (Ai (Tab.Iy λu h=>b7.sd u (aD u h)) λx ah=>by
  obtain⟨u,h1,h2⟩:=Tab.um.mp ah;exact b7.sub u (aD u h1) x h2) c_
def PI(b7:Tab.Good ns ai)(c_:ns.length<=24){ups:List Str}(aD:∀u∈ups,u∈ns):bS (yO C) 2 4 [bG C ns ai str,av ups]= .ok (dk (Tab.dd ai ups)):=by
 obtain⟨ε',ag,v,rfl⟩:=qX (γ:=bo 3) (β:=n7 2 (aI bw (bg (e8 C "upward") (J 0)) (J 3))) D.str
  (λpre ε=>∃v,ε=[G (bG C ns ai str),G (av ups),some (true,dk (Tab.dd ai pre)),v]) ups [G (bG C ns ai str),G (av ups),some (true,dk []),none] ⟨none,rfl⟩ (by
   rintro pre u hs ε e ⟨v,rfl⟩;refine⟨[G (bG C ns ai str),G (av ups),some (true,dk (Tab.dd ai pre)),G (.str u)],rfl,?_⟩;have t9:u∈ns:=aD u (by rw[e];simp)
   have Jq:∀x∈pre,x∈ns:=λx ah=>aD x (by rw[e];simp[ah])
   refine⟨_,.inl (VK (acc:=Tab.dd ai pre) (l:=ai u) rfl ?_ (by have:=v5 b7 c_ Jq;have:=IA b7 c_ t9;omega) (b7.sd u t9)),G (.str u),?_⟩
   ·simp only[aI,bg,J,gg,hU,aJ.bind,uO,dv,AV ai t9]
   ·unfold Tab.dd;rw[Nc];rfl)
 unfold bS;rw[if_pos (show [bG C ns ai str,av ups].length=2 from rfl),show eR 4 [bG C ns ai str,av ups]=[G (bG C ns ai str),G (av ups),none,none]from rfl]
 unfold yO;rw[c5 (β:=ko (aT (D.aK [])) 2) (aC:=[G (bG C ns ai str),G (av ups),some (true,dk []),none]) rfl];have s2:fa (di d2 (J 1)) (bo 3) (n7 2 (aI bw (bg (e8 C "upward") (J 0)) (J 3))) [G (bG C ns ai str),G (av ups),some (true,dk []),none]=_:=ag;rw[c5 s2];rfl
def K7{fl:List Str}{cy:aq->aJ (List D)}{ys:List Str}(h:cy ε= .ok (ys.map D.str) ε')(ar:ys.length=fl.length)(aS:ys.length<=100)(af:∀y∈ys,y.length<=1000):jy N mI fl cy ε= .cp N (("called",.str mI)::fl.zip (ys.map V.str)):=by
 unfold jy;rw[h];dsimp only[aJ.out];rw[rn];exact if_pos ⟨ar,aS,pg.mpr λy b2=>by simpa using af y b2⟩
def K6{mI f:Str}{δ:aq->aJ D}{ε:aq}(h:δ ε= .ok (.str x) ε)(ah:x.length<=1000):jy N mI [f] (az δ aU) ε= .cp N [("called",.str mI),(f,.str x)]:=
 K7 (ys:=[x]) (ε':=ε) (by simp only[az,aU,h,aJ.bind];rfl) rfl (by show 1<=100;decide) (by simpa using ah)
def al5{mI f g:Str}{δ δ':aq->aJ D}{ε:aq}(h:δ ε= .ok (.str x) ε)(h':δ' ε= .ok (.str y) ε)(ah:x.length<=1000)(b2:y.length<=1000):jy N mI [f,g] (az δ (az δ' aU)) ε= .cp N [("called",.str mI),(f,.str x),(g,.str y)]:=
 K7 (ys:=[x,y]) (ε':=ε) (by simp only[az,aU,h,h',aJ.bind];rfl) rfl (by show 2<=100;decide) (by simpa using ⟨ah,b2⟩)
def PJ(x:Str)(ah:x.length<=1000):bS (vC C N) 2 2 [bG C ns ai str,.str x]=if x∈ns then .ok .bb else .cp N [("called",.str "NoKind"),("name",.str x)]:=by
 unfold bS;rw[if_pos (show [bG C ns ai str,.str x].length=2 from rfl),show eR 2 [bG C ns ai str,.str x]=[G (bG C ns ai str),G (.str x)]from rfl]
 unfold vC;rw[jx (b:=!decide (x∈ns)) (aC:=[G (bG C ns ai str),G (.str x)]) (kg (by
  simp only[aI,bg,J,gg,hU,aJ.bind,uO,dv,RF];rfl))]
 by_cases h:x∈ns
 ·simp only[h,decide_true,V4,nj,if_false,if_true,sH]
 ·simp only[h,decide_false,V3,if_true,if_false];rw[K6 (δ:=J 1) (x:=x) rfl ah];rfl
def UP{β γ:aq->Out}{ε:aq}(h:β ε= .cp N fs):bK β γ ε= .cp N fs:=by
 unfold bK;rw[h]
def Hp{F:List D->b'}{bf:aq->aJ D}{a d:D}(af:bf ε= .ok a ε)(h:F [a]= .ok d):c4 F (az bf aU) ε= .ok d ε:=by
 simp only[c4,az,aU,af,aJ.bind,h]
def k9{F:List D->b'}{bf cR:aq->aJ D}{a b d:D}(af:bf ε= .ok a ε)(ab:cR ε= .ok b ε)(h:F [a,b]= .ok d):c4 F (az bf (az cR aU)) ε= .ok d ε:=by
 simp only[c4,az,aU,af,ab,aJ.bind,h]
def HU{β:aq->aJ Bool}{ε aC:aq}(h:β ε= .ok b aC):lf β ε= .ok (!b) aC:=by
 unfold lf;rw[h];rfl
def Dd(h: [("order":Str),"straight","upward","own","lets","homes","bound"].contains m=false):(oO ns ai str).lookup m=none:=by
 rw[List.lookup_eq_none_iff];intro p aB;have:p.1∈[("order":Str),"straight","upward","own","lets","homes","bound"]:=by
  have:p.1∈(oO ns ai str).map (·.1):=WS aB;exact this
 cases e:m==p.1 with
 | false=>simp[bne,e]
 | true=>
  rw[eq_of_beq e]at h;rw[List.contains_iff_mem.mpr this]at h;cases h
def DY{F:List D->b'}{δ:aq->aJ D}{cy:aq->aJ (List D)}{ε:aq}(bx:(oO ns ai str).lookup m=none)(h:δ ε= .ok (bG C ns ai str) ε)(aS:cy ε= .ok ds ε)(cZ:F (bG C ns ai str::ds)= .ok d):gu C m F δ cy ε= .ok d ε:=by
 unfold gu;rw[h];show(if C=C/\(oO ns ai str).lookup m=none then(cy ε).bind _ else _)=_
 rw[if_pos ⟨rfl,bx⟩,aS];show(match F (bG C ns ai str::ds)with | .ok d=>_ | _=>_)=_
 rw[cZ]
def S5{F:List D->b'}{δ:aq->aJ D}{cy:aq->aJ (List D)}{ε:aq}(bx:(oO ns ai str).lookup m=none)(h:δ ε= .ok (bG C ns ai str) ε)(aS:cy ε= .ok ds ε)(cZ:F (bG C ns ai str::ds)= .ok d):l0 C m F δ cy ε= .ok d ε:=by
 unfold l0;rw[h];show(if C=C/\(oO ns ai str).lookup m=none then(cy ε).bind _ else _)=_
 rw[if_pos ⟨rfl,bx⟩,aS];show(match F (bG C ns ai str::ds)with | .no=>_ | .ok d=>_ | .cp _ _=>_)=_
 rw[cZ]
def acO{nz:List D->b'}(cZ:nz [.str x]= .ok (.aG (h9 x)))(ah:x.length<=1000):bS (yP C B T U nz) 2 2 [bG C ns ai str,.str x]=
  if h9 x=false then .cp B [("called",.str "BadName"),("name",.str x)]else if x∈ns then .cp T [("called",.str "Taken"),("name",.str x)]else if 24<=ns.length then .cp U [("called",.str "Full")]else .ok .bb:=by
 unfold bS;rw[if_pos (show [bG C ns ai str,.str x].length=2 from rfl),show eR 2 [bG C ns ai str,.str x]=[G (bG C ns ai str),G (.str x)]from rfl]
 unfold yP;have fm:=jx (β:=jy B "BadName" ["name"] (az (J 1) aU)) (γ:=λε=>.nx ε) (HU (kg (Hp (bf:=J 1) (ε:=[G (bG C ns ai str),G (.str x)]) rfl cZ)));cases bl:h9 x with
 | false=>
  rw[bl,if_pos (show(!false)=true from rfl),K6 (δ:=J 1) (x:=x) rfl ah]at fm
  rw[UP fm,if_pos rfl];rfl
 | true=>
  rw[bl,if_neg (show ¬(!true)=true by simp)]at fm
  rw[c5 fm,if_neg (by simp)]
  have dw:=jx (β:=jy T "Taken" ["name"] (az (J 1) aU)) (γ:=λε=>.nx ε) (δ:=b6 (aI (gQ false) (J 1) (bg (e8 C "upward") (J 0)))) (b:=decide (x∈ns)) (ε:=[G (bG C ns ai str),G (.str x)]) (aC:=[G (bG C ns ai str),G (.str x)]) (kg (by
   simp only[aI,bg,J,gg,hU,aJ.bind,uO,dv,RF];rfl))
  by_cases h:x∈ns
  ·rw[if_pos (by simpa using h),K6 (δ:=J 1) (x:=x) rfl ah]at dw
   rw[UP dw,if_pos h];rfl
  ·rw[if_neg (by simpa using h)]at dw
   rw[c5 dw,if_neg h,jx (b:=decide ((24:Int)<=ns.length)) (aC:=[G (bG C ns ai str),G (.str x)]) (kg (by
    simp only[aI,bg,J,aT,gg,hU,aJ.bind,E6,dv,av,g5,Io,h6,dV,if_true]))]
   by_cases qN:24<=ns.length
   ·rw[if_pos (decide_eq_true (by omega)),if_pos qN,K7 (cy:=aU) (ys:=[]) (ε':=[G (bG C ns ai str),G (.str x)]) rfl rfl (by simp) (by simp)]
    rfl
   ·rw[if_neg (λz=>qN (by have:=of_decide_eq_true z;omega)),if_neg qN]
    rfl
def acP(b7:Tab.Good ns ai)(c_:ns.length<=24)(small:∀x∈ns,x.length<=1000){gY yd OB:List D->b'}{ups:List Str}(aD:∀u∈ups,u∈ns)(ne:ups≠[])(agG:∀x∈ns,gY [bG C ns ai str,.str x]= .ok .bb)(I1:yd [bG C ns ai str,av ups]= .ok (dk (Tab.dd ai ups)))
  (agP:OB [ej ns ai,dk (Tab.dd ai ups)]= .ok (zE (Tab.jr (Tab.h5 ns ai (Tab.dd ai ups)) (cI (Tab.dd ai ups)))))(zS:∀a b,Tab.jr (Tab.h5 ns ai (Tab.dd ai ups)) (cI (Tab.dd ai ups))=some (a,b)->a∈ns/\b∈ns):
  bS (yQ C B gZ gY yd OB) 2 5 [bG C ns ai str,av ups]=match Tab.jr (Tab.h5 ns ai (Tab.dd ai ups)) (cI (Tab.dd ai ups))with
   | some (a,b)=>.cp gZ [("called",.str "Forked"),("one",.str a),("other",.str b)]
   | none=>.ok .bb:=by
 obtain⟨ε',ag,v,rfl⟩:=qX (γ:=bo 2) (β:=mf (l0 C "check_kind" gY (J 0) (az (J 2) aU))) D.str
  (λpre ε=>∃v,ε=[G (bG C ns ai str),G (av ups),v,none,none]) ups [G (bG C ns ai str),G (av ups),none,none,none] ⟨none,rfl⟩ (by
   rintro pre u hs ε e ⟨v,rfl⟩;refine⟨[G (bG C ns ai str),G (av ups),G (.str u),none,none],rfl,[G (bG C ns ai str),G (av ups),G (.str u),none,none],.inl ?_,_,rfl⟩;unfold mf;rw[S5 (δ:=J 0) (cy:=az (J 2) aU) (ds:=[.str u]) (Dd (by decide)) rfl rfl (agG u (aD u (by rw[e];simp)))]
   rfl)
 unfold bS;rw[if_pos (show [bG C ns ai str,av ups].length=2 from rfl),show eR 5 [bG C ns ai str,av ups]=[G (bG C ns ai str),G (av ups),none,none,none]from rfl]
 unfold yQ;have s1:fa (di d2 (J 1)) (bo 2) (mf (l0 C "check_kind" gY (J 0) (az (J 2) aU))) [G (bG C ns ai str),G (av ups),none,none,none]= .nx [G (bG C ns ai str),G (av ups),v,none,none]:=ag;rw[c5 s1];have s2:ef (lf (vV (J 1))) (jy B "BadParts" [] aU) (λε=>.nx ε) [G (bG C ns ai str),G (av ups),v,none,none]= .nx [G (bG C ns ai str),G (av ups),v,none,none]:=by
  cases ups with
  | nil=>exact absurd rfl ne
  | cons u r=>rfl
 rw[c5 s2,c5 (hq (i:=3) (DY (δ:=J 0) (cy:=az (J 1) aU) (ds:=[av ups]) (m:="above_all") (Dd (by decide)) rfl rfl I1) (by show 3 < 5;decide))]
 simp only[u1,u2];rw[c5 (hq (i:=4) (k9 (bf:=bg (e8 C "upward") (J 0)) (cR:=J 3) (a:=ej ns ai) (by simp only[bg,J,gg,aJ.bind,uO,dv]) rfl agP) (by show 4 < 5;decide))]
 simp only[u1,u2];cases aH:Tab.jr (Tab.h5 ns ai (Tab.dd ai ups)) (cI (Tab.dd ai ups))with
 | none=>rfl
 | some p=>
  obtain⟨a,b⟩:=p;obtain⟨h1,h2⟩:=zS a b aH;rw[show zE (some (a,b))=kV (a,b)from rfl,jx (δ:=b6 (bg mN (J 4))) (b:=true) (aC:=[G (bG C ns ai str),G (av ups),v,G (dk (Tab.dd ai ups)),G (kV (a,b))]) rfl,if_pos rfl,al5 (δ:=aI v2 (J 4) (aT (.int 0))) (δ':=aI v2 (J 4) (aT (.int 1))) (x:=a) (y:=b) rfl rfl (small a h1) (small b h2)]
  rfl
def acQ{yd ye gY OI Y9:List D->b'}(I1:yd [bG C ns ai str,av ups]= .ok d):bS (CA C B T S W yd ye gY OI Y9) 3 7 [bG C ns ai str,av ups,.lst []]= .ok (.aK []):=by
 unfold bS;rw[if_pos (show [bG C ns ai str,av ups,.lst []].length=3 from rfl),show eR 7 [bG C ns ai str,av ups,.lst []]=[G (bG C ns ai str),G (av ups),G (.lst []),none,none,none,none]from rfl]
 unfold CA;rw[c5 (hq (i:=3) (DY (δ:=J 0) (cy:=az (J 1) aU) (ds:=[av ups]) (m:="above_all") (Dd (by decide)) rfl rfl I1) (by show 3 < 7;decide))]
 rfl
def anl:cI []=[]:=by simp[cI]
def L9:l4 (.aK [])=some (.lst []):=by
 have:=L_ (l:=[]) (by decide)
 rw[anl]at this;exact this
def mJ{f:D->Option D}{δ:aq->aJ D}{ε aC:aq}(h:δ ε= .ok a aC)(aH:f a=some d):bg f δ ε= .ok d aC:=by
 unfold bg;rw[h];simp only[aJ.bind,aH,dv]
def acY:bS (CB C N OI OH) 3 7 [bG C ns ai str,av ups,.aK []]= .ok (.aK []):=by
 unfold bS;rw[if_pos (show [bG C ns ai str,av ups,.aK []].length=3 from rfl),show eR 7 [bG C ns ai str,av ups,.aK []]=[G (bG C ns ai str),G (av ups),G (.aK []),none,none,none,none]from rfl]
 unfold CB;rw[c5 (β:=ko (bg zt (J 2)) 3) (aC:=[G (bG C ns ai str),G (av ups),G (.aK []),some (true,.aK []),none,none,none]) rfl];have e:di d2 (bg l4 (bg (e8 C "homes") (J 0))) [G (bG C ns ai str),G (av ups),G (.aK []),some (true,.aK []),none,none,none]= .ok [] [G (bG C ns ai str),G (av ups),G (.aK []),some (true,.aK []),none,none,none]:=by
  simp only[di,bg,J,gg,aJ.bind,anH,dv];rw[show l4 (.aK [])=some (.lst [])from L9]
  rfl
 rw[c5 (aC:=[G (bG C ns ai str),G (av ups),G (.aK []),some (true,.aK []),none,none,none]) (by unfold fa;rw[e];rfl)]
 rfl
def acT{B2 Y7:List D->b'}{u:D}(h:B2 [u,.aK []]= .ok (.aK [])):bS (CI B2 Y7) 2 3 [u,.aK []]= .ok (.aG false):=by
 unfold bS;rw[if_pos (show [u,.aK []].length=2 from rfl),show eR 3 [u,.aK []]=[G u,G (.aK []),none]from rfl]
 unfold CI;rw[c5 (hq (i:=2) (k9 (bf:=J 0) (cR:=J 1) rfl rfl h) (by show 2 < 3;decide))]
 rfl
def PM:bS (CD C) 1 1 [bG C ns ai str]= .ok (av ns):=by
 unfold bS;rw[if_pos (show [bG C ns ai str].length=1 from rfl),show eR 1 [bG C ns ai str]=[G (bG C ns ai str)]from rfl]
 unfold CD cM;simp only[bg,J,gg,aJ.bind,E6,dv];rfl
def acX(c_:ns.length<=24):bS (Cy C) 1 1 [bG C ns ai str]= .ok (.int ns.length):=by
 unfold bS;rw[if_pos (show [bG C ns ai str].length=1 from rfl),show eR 1 [bG C ns ai str]=[G (bG C ns ai str)]from rfl]
 unfold Cy cM;simp only[bg,J,gg,aJ.bind,E6,dv,av,g5,dV];rfl
def vR{gY:List D->b'}{ε:aq}(bE:ε[0]? =some (G (bG C ns ai str)))(h1:ε[1]? =some (G (.str k)))(h:gY [bG C ns ai str,.str k]= .ok .bb):mf (l0 C "check_kind" gY (J 0) (az (J 1) aU)) ε= .nx ε:=by
 unfold mf;rw[S5 (δ:=J 0) (cy:=az (J 1) aU) (ds:=[.str k]) (d:=.bb) (Dd (by decide)) (by simp only[J,bE]) (by simp only[az,J,h1,aU,aJ.bind]) h]
 rfl
def ac9{gY:List D->b'}{k:Str}(aw:k∈ns)(h:gY [bG C ns ai str,.str k]= .ok .bb):bS (CH C gY) 2 2 [bG C ns ai str,.str k]= .ok (av (str k)):=by
 unfold bS;rw[if_pos (show [bG C ns ai str,.str k].length=2 from rfl),show eR 2 [bG C ns ai str,.str k]=[G (bG C ns ai str),G (.str k)]from rfl]
 unfold CH;rw[c5 (vR rfl rfl h)];have e:bw (.aK (ns.map λk=>(.inr k,.tup ((str k).map .str)))) (.str k)=some (.tup ((str k).map .str)):=by
  show fo _ (.inr k)=_;rw[xe,if_pos aw]
 unfold cM;simp only[bg,aI,J,gg,hU,aJ.bind,anK,dv,e];rfl
def acM{gY:List D->b'}{k:Str}(aw:k∈ns)(ar:(ai k).length < 64)(h:gY [bG C ns ai str,.str k]= .ok .bb):bS (Cz C gY) 2 2 [bG C ns ai str,.str k]= .ok (av (cI (ai k))):=by
 unfold bS;rw[if_pos (show [bG C ns ai str,.str k].length=2 from rfl),show eR 2 [bG C ns ai str,.str k]=[G (bG C ns ai str),G (.str k)]from rfl]
 unfold Cz;rw[c5 (vR rfl rfl h)];unfold cM;simp only[bg,aI,J,gg,hU,aJ.bind,uO,dv,AV ai aw,L_ ar];rfl
def ac8{gY:List D->b'}(c_:ns.length<=24)(h:gY [bG C ns ai str,.str k]= .ok .bb):bS (CG C gY) 2 2 [bG C ns ai str,.str k]= .ok (av (cI (ns.filter λj=>decide (k∈ai j)))):=by
 unfold bS;rw[if_pos (show [bG C ns ai str,.str k].length=2 from rfl),show eR 2 [bG C ns ai str,.str k]=[G (bG C ns ai str),G (.str k)]from rfl]
 unfold CG;rw[c5 (vR rfl rfl h)];have ag:gP (di d2 (bg (e8 C "order") (J 0))) (bo 0) (b6 (aI (gQ false) (J 1) (aI bw (bg (e8 C "upward") (J 2)) (J 0)))) (J 0) 1 [1,0] none [G (bG C ns ai str),G (.str k)]=
   .ok (.lst ((ns.filter λj=>decide (k∈ai j)).map D.str)) [G (bG C ns ai str),G (.str k)]:=by
  refine vN (ss:=ns) (λj=>decide (k∈ai j)) D.str ?_ (by omega) rfl λj a2=>?_
  ·simp only[di,bg,J,gg,aJ.bind,E6,dv];rfl
  ·refine⟨_,[G (.str j),G (.str k),G (bG C ns ai str)],rfl,?_,λ_=>⟨_,rfl⟩⟩;show b6 _ [G (.str j),G (.str k),G (bG C ns ai str)]=_;simp only[b6,aI,bg,J,gg,hU,aJ.bind,uO,dv,AV ai a2,I2,hL,nj,if_false]
 have ic:=gX (Bb (λj=>decide (k∈ai j)) ns) c_;unfold cM;rw[mJ ag (C_ (by omega))]
 rfl
def ac1{gY:List D->b'}(h:gY [bG C ns ai str,.str k]= .ok .bb):bS (CC C gY) 2 2 [bG C ns ai str,.str k]= .ok .bb:=by
 unfold bS;rw[if_pos (show [bG C ns ai str,.str k].length=2 from rfl),show eR 2 [bG C ns ai str,.str k]=[G (bG C ns ai str),G (.str k)]from rfl]
 unfold CC;rw[c5 (vR rfl rfl h)];unfold cM;simp only[r7,bg,J,aT,gg,hU,aJ.bind,anG,dv];rfl
end
def ac'(M:Md)(F:List Str):bS (yY apJ vm) 4 7 [a_ M,av F,.aK [],.lst []]= .ok .bb:=by
 unfold bS;rw[if_pos (show [a_ M,av F,.aK [],.lst []].length=4 from rfl),show eR 7 [a_ M,av F,.aK [],.lst []]=[G (a_ M),G (av F),G (.aK []),G (.lst []),none,none,none]from rfl]
 unfold yY;rw[c5 (β:=ko (aT (D.lst [])) 4) (aC:=[G (a_ M),G (av F),G (.aK []),G (.lst []),some (true,.lst []),none,none]) rfl];rw[c5 (aC:=[G (a_ M),G (av F),G (.aK []),G (.lst []),some (true,.lst []),none,none]) (by unfold fa;rfl)]
 have e:di d2 (bg l4 (J 2)) [G (a_ M),G (av F),G (.aK []),G (.lst []),some (true,.lst []),none,none]= .ok [] [G (a_ M),G (av F),G (.aK []),G (.lst []),some (true,.lst []),none,none]:=by
  simp only[di,bg,J,gg,hU,aJ.bind,dv,L9];rfl
 rw[c5 (aC:=[G (a_ M),G (av F),G (.aK []),G (.lst []),some (true,.lst []),none,none]) (by unfold fa;rw[e];rfl)]
 rfl
def aiS(M:Md):bw (a_ M) (.str "musts")=some (.aK []):=rfl
def ac2(M:Md):bS (yW vm) 1 5 [a_ M]= .ok (.aG false):=by
 unfold bS;rw[if_pos (show [a_ M].length=1 from rfl),show eR 5 [a_ M]=[G (a_ M),none,none,none,none]from rfl]
 unfold yW;have e:di d2 (bg l4 (aI bw (J 0) (aT (.str "musts")))) [G (a_ M),none,none,none,none]= .ok [] [G (a_ M),none,none,none,none]:=by
  simp only[di,bg,aI,J,aT,gg,hU,aJ.bind,dv,aiS,L9];rfl
 rw[c5 (aC:=[G (a_ M),none,none,none,none]) (by unfold fa;rw[e];rfl)]
 rfl
def ku(a:Str)(d:D):D:=.tup [.str a,d]
def MN:Option (Str×Str)->D
 | some p=>ku "Forked" (kV p)
 | none=>.bb
def CO{F:List D->b'}{bf cR kz xg:aq->aJ D}{a b c e d:D}(af:bf ε= .ok a ε)(ab:cR ε= .ok b ε)(aL:kz ε= .ok c ε)(he:xg ε= .ok e ε)(h:F [a,b,c,e]= .ok d):c4 F (az bf (az cR (az kz (az xg aU)))) ε= .ok d ε:=by
 simp only[c4,az,aU,af,ab,aL,he,aJ.bind,h]
def ac_(M vq:Md)(aqr:M.order.length<=24){OE OD OC OJ OG yg ny:List D->b'}{ups F:List Str}(agV:OE [.str x]= .ok (.aG (h9 x)))(agS:OD [a_ M,av ups]= .ok (av F))(agQ:OC [a_ M,av F]= .ok (zE IB))
  (zS:OG [a_ M,av ups]= .ok (.aK []))(ahG:OJ [a_ M,av F,.aK [],.lst []]= .ok .bb)(I9:x∉M.order->IB=none->ny [a_ M,.str x,av ups,.lst []]= .ok (a_ vq))(aht:yg [a_ vq]= .ok (.aG false))(aD:∀u∈ups,u∈M.order)(ne:ups≠[]):
  bS (yX OE OD OC OJ OG yg ny) 4 8 [a_ M,.str x,av ups,.lst []]= .ok (if h9 x=false then ku "BadName" (.str x)else if x∈M.order then ku "Taken" (.str x)else if 24<=M.order.length then ku "Full" (.str "")else MN IB):=by
 unfold bS;rw[if_pos (show [a_ M,.str x,av ups,.lst []].length=4 from rfl),show eR 8 [a_ M,.str x,av ups,.lst []]=[G (a_ M),G (.str x),G (av ups),G (.lst []),none,none,none,none]from rfl]
 unfold yX;have fm:=jx (β:=cM (gv (az (aT (.str "BadName")) (az (J 1) aU)))) (γ:=λε=>.nx ε) (HU (kg (Hp (bf:=J 1) (ε:=[G (a_ M),G (.str x),G (av ups),G (.lst []),none,none,none,none]) rfl agV)));cases bl:h9 x with
 | false=>
  rw[bl,if_pos (show(!false)=true from rfl)]at fm
  rw[uG (fm.trans rfl),if_pos rfl];rfl
 | true=>
 rw[bl,if_neg (show ¬(!true)=true by simp)]at fm
 rw[c5 fm,if_neg (by simp)]
 have dw:=jx (β:=cM (gv (az (aT (.str "Taken")) (az (J 1) aU)))) (γ:=λε=>.nx ε) (δ:=b6 (aI (fQ false) (J 1) (aI bw (J 0) (aT (.str "order"))))) (b:=decide (x∈M.order)) (ε:=[G (a_ M),G (.str x),G (av ups),G (.lst []),none,none,none,none]) (aC:=[G (a_ M),G (.str x),G (av ups),G (.lst []),none,none,none,none]) (kg (by
  simp only[aI,aT,J,gg,hU,aJ.bind,uk,dv,v0];rfl))
 by_cases h:x∈M.order
 ·rw[if_pos (by simpa using h)]at dw
  rw[uG (dw.trans rfl),if_pos h];rfl
 rw[if_neg (by simpa using h)]at dw
 rw[c5 dw,if_neg h];have rp:=jx (β:=cM (gv (az (aT (.str "Full")) (az (aT (.str "")) aU)))) (γ:=λε=>.nx ε) (δ:=b6 (aI C7 (bg g5 (aI bw (J 0) (aT (.str "order")))) (aT (.int 23)))) (b:=decide ((23:Int)< M.order.length)) (ε:=[G (a_ M),G (.str x),G (av ups),G (.lst []),none,none,none,none]) (aC:=[G (a_ M),G (.str x),G (av ups),G (.lst []),none,none,none,none]) (kg (by
  simp only[aI,bg,J,aT,gg,hU,aJ.bind,uk,dv,av,g5,C7,h6,dV,if_true]))
 by_cases qN:24<=M.order.length
 ·rw[if_pos (decide_eq_true (by omega))]at rp
  rw[uG (rp.trans rfl),if_pos qN];rfl
 rw[if_neg (λz=>qN (by have:=of_decide_eq_true z;omega))]at rp
 rw[c5 rp,if_neg qN];obtain⟨ε',ag,v,rfl⟩:=qX (γ:=bo 4) (β:=ef (b6 (aI (fQ true) (J 4) (aI bw (J 0) (aT (.str "order"))))) (cM (gv (az (aT (.str "NoKind")) (az (J 4) aU)))) (λε=>.nx ε)) D.str
  (λpre ε=>∃v,ε=[G (a_ M),G (.str x),G (av ups),G (.lst []),v,none,none,none]) ups [G (a_ M),G (.str x),G (av ups),G (.lst []),none,none,none,none] ⟨none,rfl⟩ (by
   rintro pre u hs ε e ⟨v,rfl⟩;refine⟨[G (a_ M),G (.str x),G (av ups),G (.lst []),G (.str u),none,none,none],rfl,[G (a_ M),G (.str x),G (av ups),G (.lst []),G (.str u),none,none,none],.inl ?_,_,rfl⟩;have DB:u∈M.order:=aD u (by rw[e];simp)
   rw[jx (b:=false) (aC:=[G (a_ M),G (.str x),G (av ups),G (.lst []),G (.str u),none,none,none]) (kg (by
    simp only[aI,aT,J,gg,hU,aJ.bind,uk,dv,v0,DB,decide_true,V4,if_true]))]
   rfl)
 have fI:fa (di d2 (J 2)) (bo 4) (ef (b6 (aI (fQ true) (J 4) (aI bw (J 0) (aT (.str "order"))))) (cM (gv (az (aT (.str "NoKind")) (az (J 4) aU)))) (λε=>.nx ε)) [G (a_ M),G (.str x),G (av ups),G (.lst []),none,none,none,none]= .nx [G (a_ M),G (.str x),G (av ups),G (.lst []),v,none,none,none]:=ag;rw[c5 fI];have ha:ef (b6 (aI vY (bg g5 (J 2)) (aT (.int 0)))) (cM (gv (az (aT (.str "BadParts")) (az (aT (.str "")) aU)))) (λε=>.nx ε) [G (a_ M),G (.str x),G (av ups),G (.lst []),v,none,none,none]= .nx [G (a_ M),G (.str x),G (av ups),G (.lst []),v,none,none,none]:=by
  cases ups with
  | nil=>exact absurd rfl ne
  | cons u r=>
   have:¬((((u::r).map D.str).length:Int)=0):=by simp;omega
   rw[jx (b:=false) (aC:=[G (a_ M),G (.str x),G (av (u::r)),G (.lst []),v,none,none,none]) (kg (f9 (f:=vY) (bf:=bg g5 (J 2)) (cR:=aT (.int 0)) (a:=.int (((u::r).map D.str).length:Int)) (b:=.int 0) rfl rfl (by
    have eu:vY (.int (((u::r).map D.str).length:Int)) (.int 0)=some (.aG (decide ((((u::r).map D.str).length:Int)=0))):=rfl;rw[eu,decide_eq_false this])))]
   rfl
 rw[c5 ha,c5 (hq (i:=5) (k9 (bf:=J 0) (cR:=J 2) rfl rfl agS) (by show 5 < 8;decide))]
 simp only[u1,u2];rw[c5 (hq (i:=6) (k9 (bf:=J 0) (cR:=J 5) rfl rfl agQ) (by show 6 < 8;decide))]
 simp only[u1,u2];cases IB with
 | some p=>rfl
 | none=>
  rw[c5 (β:=ef (b6 (bg mN (J 6))) (cM (gv (az (aT (.str "Forked")) (az (J 6) aU)))) λε=>.nx ε) (aC:=[G (a_ M),G (.str x),G (av ups),G (.lst []),v,G (av F),G .bb,none]) rfl,
   c5 (hq (i:=7) (CO (bf:=J 0) (cR:=J 5) (xg:=J 3) rfl rfl (k9 (bf:=J 0) (cR:=J 2) rfl rfl zS) rfl ahG) (by show 7 < 8;decide))]
  simp only[u1,u2];have zf:g3 (b6 (bg pJ (J 7))) (b6 (c4 yg (az (c4 ny (az (J 0) (az (J 1) (az (J 2) (az (J 3) aU))))) aU))) [G (a_ M),G (.str x),G (av ups),G (.lst []),v,G (av F),G .bb,G .bb]= .ok (true && false) [G (a_ M),G (.str x),G (av ups),G (.lst []),v,G (av F),G .bb,G .bb]:=
   zg rfl λ_=>kg (Hp (CO (bf:=J 0) (cR:=J 1) (kz:=J 2) (xg:=J 3) rfl rfl rfl rfl (I9 h rfl)) aht)
  rw[c5 (aC:=[G (a_ M),G (.str x),G (av ups),G (.lst []),v,G (av F),G .bb,G .bb]) (by rw[jx zf];rfl)]
  rfl
def J_(M:Md):bw (a_ M) (.str "lets")=some (.aK (M.lets.map λp=>(.inr p.1,iC p.2))):=rfl
def acU(M:Md){ups:List Str}(ar:∀u∈ups,M.lets.lookup u=some [])(ne:ups≠[])(c_:ups.length < 64):bS yT 2 5 [a_ M,av ups]= .ok (.aK []):=by
 have eu:zv (av ups)=some (av (cI (bN ups))):=by
  show((ups.map D.str).mapM hr).bind _=_;rw[rn,om,if_pos ⟨c_,ne⟩];rfl
 obtain⟨ε',ag,v,rfl⟩:=qX (γ:=bo 3) (β:=p5 (aI bw (aI bw (J 0) (aT (.str "lets"))) (J 3)) (bo 4) (λ_=>.no)) D.str
  (λpre ε=>∃v,ε=[G (a_ M),G (av ups),some (true,.aK []),v,none]) (cI (bN ups)) [G (a_ M),G (av ups),some (true,.aK []),none,none] ⟨none,rfl⟩ (by
   rintro pre u hs ε e ⟨v,rfl⟩;refine⟨[G (a_ M),G (av ups),some (true,.aK []),G (.str u),none],rfl,[G (a_ M),G (av ups),some (true,.aK []),G (.str u),none],.inl ?_,_,rfl⟩;have aD:u∈ups:=z_.mp ((p7 _).mem_iff.mp (by rw[e];simp))
   have aF:bw (.aK (M.lets.map λp=>(.inr p.1,iC p.2))) (.str u)=some (.aK []):=by
    show fo _ (.inr u)=_;rw[uQ iC u,ar u aD];rfl
   unfold p5;simp only[aI,J,aT,gg,hU,aJ.bind,J_,dv,aF,aJ.out];rfl)
 unfold bS;rw[if_pos (show [a_ M,av ups].length=2 from rfl),show eR 5 [a_ M,av ups]=[G (a_ M),G (av ups),none,none,none]from rfl]
 unfold yT;rw[c5 (β:=ko (aT (D.aK [])) 2) (aC:=[G (a_ M),G (av ups),some (true,.aK []),none,none]) rfl];rw[c5 (aC:=[G (a_ M),G (av ups),some (true,.aK []),v,none]) (by
  unfold fa di;rw[mJ (δ:=J 1) (a:=av ups) rfl eu];exact ag)]
 rfl
def anm{F:List Str}(a4:F.Nodup):Tab.Cs (cI F):=by
 have h1:=L' F;have h2:(cI F).Nodup:=(p7 F).nodup_iff.mpr a4;unfold Tab.Cs;refine(h1.and h2).imp λ{a b} h=>?_;obtain⟨aN,h4⟩:=h;cases e:Tab.d5 a b with
 | true=>rfl
 | false=>exact absurd (Tab.DS e (by simpa using aN)) h4
def amH{F:List Str}(a4:F.Nodup)(bad:Str->Str->Bool):Tab.se (cI F) bad=Tab.jr bad (cI F):=Tab.ae7 (anm a4)
def Q8{a b:Str}:∀{S:List Str},Tab.jr bad S=some (a,b)->a∈S/\b∈S
 | [],h=>by cases h
 | c::r,h=>by
  rw[show Tab.jr bad (c::r)=(match r.find? (bad c)with | some b=>some (c,b) | none=>Tab.jr bad r)from rfl]at h
  cases e:r.find? (bad c)with
  | some d=>
   rw[e]at h;cases h;exact⟨by simp,by simp[List.mem_of_find?_eq_some e]⟩
  | none=>
   rw[e]at h;obtain⟨h1,h2⟩:=Q8 h;exact⟨by simp[h1],by simp[h2]⟩
structure qy(M:Md):Prop where
 ok:Ck M
 good:Tab.Good M.order (bO M)
 lets:∀k∈M.order,M.lets.lookup k=some []
 small:∀k∈M.order,k.length<=8
def lp(M:Md)(ups:List Str):Option (Str×Str):=Tab.se (cI (Tab.dd (bO M) ups)) (Tab.h5 M.order (bO M) (Tab.dd (bO M) ups))
section
variable{M:Md}{C:O}{str:Str->List Str}{ups:List Str}
def qy.fl(S:qy M):∀k∈M.order,(bO M k).length<=24:=λk aw=>IA S.good S.ok.c_ aw
def qy.aiu(S:qy M)(vq:Md){ny yg B2 OH:List D->b'}{x:Str}(ah:x.length<=1000)(aD:∀u∈ups,u∈M.order)(ne:ups≠[])(c_:ups.length<=4)(I9:x∉M.order->lp M ups=none->ny [a_ M,.str x,av ups,.lst []]= .ok (a_ vq)):
  bS (yX (bS tF 1 1) (bS qC 2 4) (bS (yS (bS yU 3 5)) 2 5) (bS (yY (bS tF 1 1) OH) 4 7) (bS yT 2 5) (bS (yW B2) 1 5) ny) 4 8 [a_ M,.str x,av ups,.lst []]=
   .ok (if h9 x=false then ku "BadName" (.str x)else if x∈M.order then ku "Taken" (.str x)else if 24<=M.order.length then ku "Full" (.str "")else MN (lp M ups)):=by
 have cZ:(Tab.dd (bO M) ups).length<=24:=v5 S.good S.ok.c_ aD;exact ac_ M vq S.ok.c_ (PL x ah) (PK M S.ok ups aD S.fl (by omega)) (acS M (λa b=>acZ M S.ok a b) _ (by omega)) (acU M (λu h=>S.lets u (aD u h)) ne (by omega)) (ac' M _) I9 (ac2 vq) aD ne
def qy.new(S:qy M){x:Str}(ah:x.length<=1000):bS (yP C B T U (bS CJ 1 1)) 2 2 [bG C M.order (bO M) str,.str x]=
  if h9 x=false then .cp B [("called",.str "BadName"),("name",.str x)]else if x∈M.order then .cp T [("called",.str "Taken"),("name",.str x)]else if 24<=M.order.length then .cp U [("called",.str "Full")]else .ok .bb:=
 acO (by rw[amI];exact PL x ah) ah
def qy.aa7(S:qy M)(aD:∀u∈ups,u∈M.order)(ne:ups≠[]):
  bS (yQ C B gZ (bS (vC C N) 2 2) (bS (yO C) 2 4) (bS (yR (bS yV 3 4)) 2 7)) 2 5 [bG C M.order (bO M) str,av ups]=match lp M ups with
   | some (a,b)=>.cp gZ [("called",.str "Forked"),("one",.str a),("other",.str b)]
   | none=>.ok .bb:=by
 have cZ:(Tab.dd (bO M) ups).length<=24:=v5 S.good S.ok.c_ aD;have a4:(Tab.dd (bO M) ups).Nodup:=Tab.Iy λu h=>S.good.sd u (aD u h);have sub:∀x∈Tab.dd (bO M) ups,x∈M.order:=λx ah=>by
  obtain⟨u,h1,h2⟩:=Tab.um.mp ah;exact S.good.sub u (aD u h1) x h2
 have m':∀x∈M.order,x.length<=1000:=λx ah=>by have:=S.small x ah;omega
 unfold lp;rw[amH a4];refine acP S.good S.ok.c_ m' aD ne (λx ah=>?_) (PI S.good S.ok.c_ aD) (acR (λa af b ab=>ac0 S.good S.ok.c_ (sub a af) (sub b ab)) (by omega)) λa b h=>?_
 ·rw[PJ x (m' x ah),if_pos ah]
 ·obtain⟨h1,h2⟩:=Q8 h;exact⟨sub a ((p7 _).mem_iff.mp h1),sub b ((p7 _).mem_iff.mp h2)⟩
end
def Md.next(M:Md)(x:Str)(ups:List Str):Md where
 order:=M.order++[x]
 ups:=M.ups++[(x,cI (bN ups))]
 told:=M.told++[(x,[])]
 lets:=M.lets++[(x,[])]
 ai:=M.ai++[(x,Tab.dd (bO M) ups++[x])]
 home:=M.home
def J1{α:Type}{k:Str}:∀{l:List (Str×α)},k∈l.map (·.1)->(l.lookup k).isSome=true
 | [],h=>by cases h
 | (a,b)::l,h=>by
  rw[k0];cases e:k==a with
  | true=>rfl
  | false=>
   have:k≠a:=by simpa using e
   exact J1 ((dR.mp h).resolve_left this)
def DP{α:Type}{k x:Str}{d:α}:∀{l:List (Str×α)},x∉l.map (·.1)->(l++[(x,d)]).lookup k=if k=x then some d else l.lookup k
 | [],h=>by
  rw[WU,k0];by_cases e:k=x
  ·simp[e]
  ·rw[show(k==x)=false from by simpa using e,if_neg e]
 | (a,b)::l,h=>by
  have h1:x≠a:=λz=>h (by simp[z])
  have h2:x∉l.map (·.1):=λz=>h (by simp at z ⊢;exact .inr z)
  rw[M',k0,k0,DP h2];by_cases e:k=x
  ·subst e;rw[show(k==a)=false from by simpa using h1,if_pos rfl]
  ·rw[if_neg e,if_neg e]
structure Run(M:Md):Prop extends qy M where
 iy:M.ai.map (·.1)=M.order
 wo:M.lets.map (·.1)=M.order
 ue:M.ups.map (·.1)=M.order
 kt:M.told.map (·.1)=M.order
 told:∀k∈M.order,M.told.lookup k=some []
 home:M.home=[]
def jZ(M:Md)(k:Str):List Str:=(M.ups.lookup k).getD []
def af6(h:h9 x=true):x.length<=8:=by
 unfold h9 at h;simp only[jB,decide_eq_true_eq]at h;omega
section
variable{M:Md}{x:Str}{ups:List Str}
def Run.bO(R:Run M)(ah:x∉M.order):bO (M.next x ups)=Tab.put (bO M) x (Tab.dd (bO M) ups):=by
 funext k;unfold bu.bO Tab.put;rw[show(M.next x ups).ai=M.ai++[(x,Tab.dd (bu.bO M) ups++[x])]from rfl,DP (by rw[R.iy];exact ah)]
 by_cases e:k=x
 ·rw[if_pos e,if_pos e];rfl
 ·rw[if_neg e,if_neg e]
def Run.jZ(R:Run M)(ah:x∉M.order)(k:Str):jZ (M.next x ups) k=if k=x then cI (bN ups)else jZ M k:=by
 unfold bu.jZ;rw[show(M.next x ups).ups=M.ups++[(x,cI (bN ups))]from rfl,DP (by rw[R.ue];exact ah)]
 by_cases e:k=x
 ·rw[if_pos e,if_pos e];rfl
 ·rw[if_neg e,if_neg e]
def Run.next(R:Run M)(ah:x∉M.order)(bl:h9 x=true)(ba:M.order.length < 24)(aD:∀u∈ups,u∈M.order)(aH:lp M ups=none):Run (M.next x ups):=by
 have mem:∀{k},k∈(M.next x ups).order->k∈M.order∨k=x:=λh=>(nn.mp h).imp id gK.mp;have cZ:∀y∈Tab.dd (bu.bO M) ups,y∈M.order:=λy b2=>by
  obtain⟨u,h1,h2⟩:=Tab.um.mp b2;exact R.good.sub u (aD u h1) y h2
 have one:∀{α:Type}{l:List (Str×α)}{d:α},l.map (·.1)=M.order->(l++[(x,d)]).map (·.1)=M.order++[x]:=λh=>by rw[og,h];rfl
 have P0:∀{l:List (Str×List (Str×Str))},l.map (·.1)=M.order->(∀k∈M.order,l.lookup k=some [])->∀k∈(M.next x ups).order,(l++[(x,[])]).lookup k=some []:=λh1 h2 k aw=>by
  rw[DP (by rw[h1];exact ah)]
  rcases mem aw with z | z
  ·by_cases e:k=x
   ·rw[if_pos e]
   ·rw[if_neg e];exact h2 k z
  ·rw[if_pos z]
 refine⟨⟨⟨?_,λk aw=>?_⟩,?_,P0 R.wo R.lets,λk aw=>?_⟩,one R.iy,one R.wo,one R.ue,one R.kt,P0 R.kt R.told,R.home⟩
 ·show(M.order++[x]).length<=24;rw[oc];simp;omega
 ·exact J1 (by rw[show(M.next x ups).ai.map (·.1)=M.order++[x]from one R.iy];exact aw)
 ·rw[R.bO ah];exact R.good.put aD ah (Tab.ajt R.good cZ (λy=>(p7 _).mem_iff) aH)
 ·rcases mem aw with z | z
  ·exact R.small k z
  ·rw[z];exact af6 bl
def Md.start:Md:=⟨["any"],[("any",[])],[("any",[])],[("any",[])],[("any",["any"])],[]⟩
def anr(k:Str)(h:k∈Md.start.order):bu.bO Md.start k=[("any":Str)]:=by
 obtain rfl:=gK.mp h;rfl
def Run.start:Run Md.start:=by
 have m:∀{k},k∈Md.start.order->k="any":=λh=>gK.mp h;have f:∀{k},k∈Md.start.order->bu.bO Md.start k=[("any":Str)]:=λh=>anr _ h;refine⟨⟨⟨by decide,λk h=>by rw[m h];rfl⟩,⟨by decide,λk h=>by rw[f h,m h];simp,λk h j a2=>by rw[f h]at a2;exact a2,λk h=>by rw[f h];simp,λk h j a2 i au=>?_,λk h j a2 _=>?_,λa af b ab k aw _ _=>?_⟩,λk h=>by rw[m h];rfl,λk h=>by rw[m h];decide⟩,rfl,rfl,rfl,rfl,λk h=>by rw[m h];rfl,rfl⟩
 ·rw[f h]at a2 ⊢;have:j∈Md.start.order:=a2;rw[f this]at au;exact au
 ·rw[f h]at a2;rw[m h];exact gK.mp a2
 ·have h1:=m af;have h2:=m ab;subst h1 h2;refine⟨"any",af,by rw[f af];simp,by rw[f af];simp,λj a2 _ _=>by rw[f a2];simp⟩
end
def ac4:bS Hk 0 1 []= .ok (a_ Md.start):=rfl
end bu
namespace gB
open PySem bu
def c6(i:Nat):cc:=ao5.main.body.getD i (.Pass ⟨0,0,0,0⟩)
end gB
namespace bu
open PySem PySem.Spec PyProof.Rows
variable[bk]
def m2:Nat->D->Bool
 | _,.bb=>true
 | _,.aG _=>true
 | _,.int _=>true
 | _,.str _=>true
 | _,.ty _=>true
 | n+1,.lst xs=>xs.all (m2 n)
 | n+1,.tup xs=>xs.all (m2 n)
 | n+1,.aK kvs=>kvs.all λcO=>m2 n cO.2
 | _,_=>false
def Tk{H:ak}(a9:H q=some (.ins C dx fs)):∀(n:Nat){d:D}{v:V},m2 n d=true->cn (cut U H) v d->cn (cut (λa=>U a∨a=q) H) v d:=by
 have ne:∀{a o},H a=some o->(∀C dx fs,o≠ .ins C dx fs)->a≠q:=λ{a o} h k z=>by subst z;rw[a9]at h;exact k C dx fs (hW h).symm
 have rs:∀{a o},cut U H a=some o->(∀C dx fs,o≠ .ins C dx fs)->cut (λa=>U a∨a=q) H a=some o:=λ{a o} h k=>by
  obtain⟨h1,h2⟩:=cB.mp h;exact cB.mpr ⟨λz=>z.elim h1 (ne h2 k),h2⟩
 intro n;induction n with
 | zero=>
  intro d v h r;cases r with
  | bb=>exact .bb
  | aG b=>exact .aG b
  | int i=>exact .int i
  | str x=>exact .str x
  | ty x=>exact .ty x
  | lst _ _=>cases h
  | tup _ _=>cases h
  | aK _ _=>cases h
  | ins _ _=>cases h
 | succ n b3=>
  have many:∀{ds:List D}{vs:List V},ds.all (m2 n)=true->cP (cut U H) vs ds->cP (cut (λa=>U a∨a=q) H) vs ds:=by
   intro ds;induction ds with
   | nil=>intro vs _ r;cases r;exact .nil
   | cons d ds zX=>
    intro vs h r;rw[xu,jB]at h;cases r with
    | cons a b=>exact .cons (b3 h.1 a) (zX h.2 b)
  have aiW:∀{ds:List (bM×D)}{vs:List (bM×V)},ds.all (λcO=>m2 n cO.2)=true->dS (cut U H) vs ds->dS (cut (λa=>U a∨a=q) H) vs ds:=by
   intro ds;induction ds with
   | nil=>intro vs _ r;cases r;exact .nil
   | cons d ds zX=>
    intro vs h r;rw[xu,jB]at h;cases r with
    | cons a b=>exact .cons (b3 h.1 a) (zX h.2 b)
  intro d v h r;cases r with
  | bb=>exact .bb
  | aG b=>exact .aG b
  | int i=>exact .int i
  | str x=>exact .str x
  | ty x=>exact .ty x
  | lst g r=>exact .lst (rs g λ_ _ _ z=>by cases z) (many h r)
  | tup g r=>exact .tup (rs g λ_ _ _ z=>by cases z) (many h r)
  | aK g r=>
   refine .aK ?_ (aiW h r);rcases g with g | ⟨o,g⟩
   ·exact .inl (rs g λ_ _ _ z=>by cases z)
   ·exact .inr ⟨o,rs g λ_ _ _ z=>by cases z⟩
  | ins _ _=>cases h
section
variable{E:e5}{t:fi}{cy:aq->aJ (List D)}{E':eP}
def aaZ{F:List D->b'}{H:ak}{ε:aq}{i:Nat}(e:bh T ω H σ ε)(au:ε[i]? =some (some (true,.ins C nO)))(aS:σ[i]? =some (some (.ref q)))
  (r:cP (cut (a5 T ω) H) vs ds)(me:dJ E T ω H σ (match F (.ins C nO::ds)with | .ok d=>if m2 4 d=true then .ok d ε else .no | _=>.no) (kb T) Q):bV F (.ref q::vs) H Q E':=by
 obtain⟨b,h1,h2,aN⟩:=e.sI au;rw[aS]at h1;cases h1;have uq:¬bk.v q:=λz=>e.ee i q (by rw[h2];simp) (e.c7 q z)
 cases aN with
 | ins a9 La=>
  rename_i dx fs;have fR:a5 T ω=λa=>(a5 T ω a/\a≠q)∨a=q:=by
   funext a;refine propext ⟨λh=>?_,λh=>?_⟩
   ·by_cases z:a=q
    ·exact .inr z
    ·exact .inl ⟨h,z⟩
   ·rcases h with h | h
    ·exact h.1
    ·exact .inr ⟨i,by rw[h2,h];simp⟩
  have le:fu (cut (a5 T ω) H) (cut (λa=>a5 T ω a/\a≠q) H):=gE λa z=>z.1;refine⟨λa=>a5 T ω a/\a≠q,.ins C nO::ds,.cons (.ins (cB.mpr ⟨λz=>z.2 rfl,a9⟩) (La.mono le)) (r.mono le),λa z=>e.al a z.1,λa z=>⟨.inl (e.c7 a z),λy=>uq (by rw[<- y];exact z)⟩,e.bB,?_⟩
  cases aH:F (.ins C nO::ds)with
  | no=>rw[aH]at me;exact me
  | cp C fs=>rw[aH]at me;exact me.elim
  | ok d=>
   rw[aH]at me;dsimp only at me;intro v H' s cf;by_cases ba:m2 4 d=true
   ·rw[if_pos ba]at me;refine me v ω H' (e.zG s) (e.w2 s) ?_;have:=Tk (U:=λa=>a5 T ω a/\a≠q) (s.keep q _ uq a9) 4 ba cf;show cn (cut (a5 T ω) H') v d;rw[fR];exact this
   ·rw[if_neg ba]at me;exact me.elim
def zh(C:O)(m:Str)(F:List D->b')(i:Nat)(cy:aq->aJ (List D)):aq->aJ D:=λε=>match ε[i]? with
 | some (some (true,.ins dp fs))=>if dp=C/\fs.lookup m=none then(cy ε).bind λds aC=>(match aC[i]? with
  | some (some (true,.ins C nO))=>(match F (.ins C nO::ds)with
   | .ok d=>if m2 4 d=true then .ok d aC else .no
   | _=>.no)
  | _=>.no)else .no
 | _=>.no
def alM(aS:k6 E t cy):b8 E (AQ C m (bV F) [] E' (dP i) t) (zh C m F i cy):=λT ω H σ ε Q e q=>by
 unfold zh at q;split at q
 ·rename_i YT aeL bE;by_cases aL:YT=C/\aeL.lookup m=none
  ·rw[if_pos aL]at q;obtain⟨rfl,ba⟩:=aL;obtain⟨b,ab,_,aZ⟩:=e.sI bE;refine⟨.ref b,ab,?_⟩;cases aZ with
   | ins a9 La=>
    rename_i dx fs;refine⟨b,dx,fs,rfl,a9,La.no ba,?_⟩;refine aS T ω H σ ε _ e (dJ.then q λds aC cJ a0 H1 _ ag s1 bc ao=>?_);show bV F (V.ref b::(cJ++[])) H1 Q E';rw[mu];split at ao
    ·rename_i C nO h1;exact aaZ ag h1 ab bc ao
    ·exact ao.elim
  ·rw[if_neg aL]at q;exact q.elim
 ·exact q.elim
end
structure f5(eA:O->Prop)(ij:cs)(H0:ak)(T:O->Prop)(ω:cs)(H:ak)(a:O)(ks:List Str)(ad:Str->O)(dt:Str->D):Prop where
 st:Step eA ij H0 ω H
 sub:∀x,eA x->T x
 fr:∀x,T x->eA x∨H0 x=none
 c7:∀x,bk.v x->eA x
 aP:T a
 na:¬eA a
 af:H a=some (.a7 (ks.map λk=>(.inr k,.ref (ad k))))
 up:∀k∈ks,ad k≠a
 inj:∀k∈ks,∀j∈ks,ad k=ad j->k=j
 pt:∀k∈ks,T (ad k)/\¬eA (ad k)
 part:∀k∈ks,eI (a5 T ω) H (.ref (ad k)) (dt k) [ad k]
section
variable{eA T:O->Prop}{ij ω aO:cs}{H0 H H':ak}{a:O}{ks:List Str}{ad:Str->O}{dt:Str->D}{σ:St}{ε ε':aq}
def f5.step(n:f5 eA ij H0 T ω H a ks ad dt)(s:Step T ω H aO H'):f5 eA ij H0 T aO H' a ks ad dt:=by
 have m':∀x,T x->¬eA x->H' x=H x:=λx h1 h2=>s.same x h1 λz=>h2 (n.c7 x z);refine⟨⟨λx o aD ah=>?_,λx ah cm=>?_,λx ah=>n.st.c8 x (s.c8 x ah)⟩,n.sub,n.fr,n.c7,n.aP,n.na,(m' a n.aP n.na).trans n.af,n.up,n.inj,n.pt,λk aw=>?_⟩
 ·obtain⟨h1,h2⟩:=n.st.keep x o aD ah;have aN:¬a5 T ω x:=λz=>by
   rcases z with z | z
   ·rcases n.fr x z with z | z
    ·exact h1 (.inl z)
    ·rw[ah]at z;cases z
   ·exact h1 (.inr z)
  obtain⟨h4,cE⟩:=s.keep x o aN h2;exact⟨λz=>h4 (z.elim (λy=>.inl (n.sub x y)) .inr),cE⟩
 ·exact(s.same x (n.sub x ah) cm).trans (n.st.same x ah cm)
 ·obtain⟨h1,h2⟩:=n.pt k aw;exact(n.part k aw).mono s.le λx ah=>by
   rw[gK.mp ah];exact m' _ h1 h2
def alb{b:O}(o:eI U H v d [b]):∀φ,H b≠some (.ext φ):=λφ z=>by
 generalize cZ: [b]=F at o;cases o with
 | lst q _=>cases cZ;rw[z]at q;cases q
 | aK q _=>cases cZ;rw[z]at q;cases q
 | ins q _=>cases cZ;rw[z]at q;cases q
def TU{b:O}(o:eI U H v d [b]):∃u,H b=some u:=by
 generalize cZ: [b]=F at o;cases o with
 | lst q _=>cases cZ;exact⟨_,q⟩
 | aK q _=>cases cZ;exact⟨_,q⟩
 | ins q _=>cases cZ;exact⟨_,q⟩
def i6(dt:Str->D)(k:Str)(d:D):Str->D:=λj=>if j=k then d else dt j
def f5.put(n:f5 eA ij H0 T ω H a ks ad dt)(e:bh T ω H σ ε){k:Str}(aw:k∈ks)(o:eI (a5 T ω) (a1 H (ad k) o') (.ref (ad k)) d' [ad k]):
  bh T ω (a1 H (ad k) o') σ ε/\f5 eA ij H0 T ω (a1 H (ad k) o') a ks ad (i6 dt k d'):=by
 obtain⟨h1,h2⟩:=n.pt k aw;have cm:¬bk.v (ad k):=λz=>h2 (n.c7 _ z);have fR:a5 T ω (ad k):=.inl h1;refine⟨e.rt h1 cm (alb (n.part k aw)),⟨λx o aD ah=>?_,λx ah cm=>?_,λx ah=>?_⟩,n.sub,n.fr,n.c7,n.aP,n.na,?_,n.up,n.inj,n.pt,λj a2=>?_⟩
 ·obtain⟨aN,h4⟩:=n.st.keep x o aD ah;refine⟨aN,?_⟩;rw[bj λz=>?_]
  ·exact h4
  ·rcases n.fr x (by rw[z];exact h1)with y | y
   ·exact h2 (by rw[<- z];exact y)
   ·rw[ah]at y;cases y
 ·rw[bj λz=>h2 (by rw[<- z];exact ah)]
  exact n.st.same x ah cm
 ·by_cases z:x=ad k
  ·rw[z,cw]at ah;cases ah
  ·rw[bj z]at ah;exact n.st.c8 x ah
 ·rw[bj (Ne.symm (n.up k aw))];exact n.af
 ·unfold i6;by_cases z:j=k
  ·subst z;rw[if_pos rfl];exact o
  ·rw[if_neg z];exact(n.part j a2).mono (by rw[k' fR];exact λa o h=>.inl h) λx ah=>by
    rw[gK.mp ah];exact bj λy=>z (n.inj j a2 k aw y)
def f5.rep(n:f5 eA ij H0 T ω H a ks ad dt)(e:bh T ω H σ ε):cn (cut (a5 eA ω) H) (.ref a) (.aK (ks.map λk=>(.inr k,dt k))):=by
 have Aj:∀x,T x->¬eA x->¬a5 eA ω x:=λx h1 h2 z=>z.elim h2 λ⟨i,y⟩=>e.ee i x y h1;refine .aK (.inl (cB.mpr ⟨Aj a n.aP n.na,n.af⟩)) ?_;have:∀(l:List Str),(∀k∈l,k∈ks)->dS (cut (a5 eA ω) H) (l.map λk=>(.inr k,.ref (ad k))) (l.map λk=>(.inr k,dt k)):=by
  intro l;induction l with
  | nil=>exact λ_=>.nil
  | cons k l b3=>
   intro h;have aw:=h k (by simp)
   obtain⟨h1,h2⟩:=n.pt k aw;exact .cons ((n.part k aw).plain (λx z=>z.elim (λy=>.inl (n.sub x y)) .inr) λx ah=>by rw[gK.mp ah];exact Aj _ h1 h2) (b3 λj a2=>h j (by simp[a2]))
 exact this ks λ_ h=>h
def VO(g:Str->V)(x:Str):∀(ns:List Str),x∈ns->kr (ns.map λk=>((.inr k:bM),g k)) (.inr x)=some (g x)
 | [],h=>by cases h
 | b::l,h=>by
  by_cases z:b=x
  ·subst z;exact Ff rfl
  ·rw[fM,Fe (λy=>z (FY y))];exact VO g x l ((dR.mp h).resolve_left (Ne.symm z))
def f5.get(n:f5 eA ij H0 T ω H a ks ad dt){k:Str}(aw:k∈ks):nw H a (.str k) (some (.ref (ad k))):=.inl ⟨_,.inr k,.inl n.af,rfl,(VO (λj=>.ref (ad j)) k ks aw).symm⟩
variable{E:e5}{K:b5}{aP tb:TE}{bf cR:aq->aJ D}
def ajj{i:Nat}{k:Str}{Y:Ends}(aB:b8 E aP bf)(e:bh T ω H σ ε)(n:f5 eA ij H0 T ω H a ks ad dt)(qS:σ[i]? =some (some (.ref a)))(aw:k∈ks)(hd:dt k= .lst ds)(ar:ds.length < 1000)(jt:bf ε= .ok d ε')
  (c:∀aO H',bh T aO H' σ ε'->f5 eA ij H0 T aO H' a ks ad (i6 dt k (.lst (ds++[d])))->Y.nx σ H'):sY (Mu K "list" K2 (p_ (dP i) (gT (.str k))) (gd aP gy)) Y σ H:=by
 have o:=n.part k aw;rw[hd]at o;cases o with
 | lst q r=>
  rename_i vs;refine⟨.ref a,qS,a,.ref (ad k),rfl,n.get aw,.inl ⟨rfl,vs,cS.of q⟩,?_⟩;refine aB T ω H σ ε _ e ?_;rw[jt];intro v aO H' bQ s' p';have q0:=n.step s';have o':=q0.part k aw;rw[hd]at o';cases o' with
  | lst q' dA=>
   rename_i ih;have da:cP (cut (a5 T aO) H') (ih++[v]) (ds++[d]):=dA.append (.cons p' .nil);obtain⟨aF,fH⟩:=q0.put bQ aw (o':=.lst (ih++[v])) (d':=.lst (ds++[d])) (.lst cw (by rw[k' (.inl (q0.pt k aw).1)];exact da))
   refine⟨ad k,ih,v,rfl,rfl,q',?_,c aO _ aF fH⟩;rw[dA.length];exact nb (kA ar)
def DZ{i:Nat}{k:Str}{Y:Ends}(b2:b8 E aP bf)(bm:b8 E tb cR)(e:bh T ω H σ ε)(n:f5 eA ij H0 T ω H a ks ad dt)(qS:σ[i]? =some (some (.ref a)))(aw:k∈ks)(hd:dt k= .aK bR)(ar:bR.length < 1000)(jt:cR ε= .ok d ε')(JB:bf ε'= .ok y qf)(ag':mV y=some ky)
  (c:∀aO H',bh T aO H' σ qf->f5 eA ij H0 T aO H' a ks ad (i6 dt k (.aK (md bR ky d)))->Y.nx σ H'):uF (p_ (dP i) (gT (.str k))) aP tb Y σ H:=by
 refine bm T ω H σ ε _ e ?_;rw[jt];intro v a0 H1 ag s1 bc;have dD:=n.step s1;refine⟨.ref a,qS,a,.ref (ad k),rfl,dD.get aw,?_⟩;refine b2 T a0 H1 σ ε' _ ag ?_;rw[JB];intro u cN H2 aF s2 cL;have fH:=dD.step s2;have o:=fH.part k aw;rw[hd]at o;cases o with
 | aK q r=>
  rename_i vs;have da:dS (cut (a5 T cN) H2) (et vs ky v) (md bR ky d):=r.put (k:=ky) (bc.mono s2.le);obtain⟨cU,jQ⟩:=fH.put aF aw (o':=.a7 (et vs ky v)) (d':=.aK (md bR ky d)) (.aK cw (by rw[k' (.inl (fH.pt k aw).1)];exact da))
  refine⟨ad k,_,rfl,.inl ⟨vs,ky,q,ri (.inl cL) ag',?_,rfl⟩,c cN _ cU jQ⟩;rw[r.length];exact nb (kA ar)
end
section
variable{eA T:O->Prop}{ij ω aO:cs}{H0 H H':ak}{a:O}{ks:List Str}{ad:Str->O}{dt:Str->D}{σ:St}{ε ε':aq}
variable{E:e5}{K:b5}{aP tb:TE}{bf cR:aq->aJ D}
def tC(ad:Str->O)(k:Str)(p:O):Str->O:=λj=>if j=k then p else ad j
def f5.wide(n:f5 eA ij H0 T ω H a ks ad dt)(s:Step T ω H aO H')(aB:H p=none):f5 eA ij H0 (λx=>T x∨x=p) aO H' a ks ad dt:=by
 have dD:=n.step s;have le:fu (cut (a5 T ω) H) (cut (a5 (λx=>T x∨x=p) aO) H'):=λx o h=>.inl (by
  obtain⟨h1,h2⟩:=cB.mp h;obtain⟨aN,h4⟩:=s.keep x o h1 h2;refine cB.mpr ⟨λz=>?_,h4⟩;rcases z with(z | z) | z
  ·exact aN (.inl z)
  ·rw[z,aB]at h2;cases h2
  ·exact aN (.inr z))
 refine⟨dD.st,λx h=>.inl (dD.sub x h),λx h=>?_,dD.c7,.inl dD.aP,dD.na,dD.af,dD.up,dD.inj,λk aw=>⟨.inl (dD.pt k aw).1,(dD.pt k aw).2⟩,λk aw=>?_⟩
 ·rcases h with h | h
  ·exact dD.fr x h
  ·exact .inr (n.st.c8 x (by rw[h];exact aB))
 ·obtain⟨h1,h2⟩:=n.pt k aw;exact(n.part k aw).mono le λx ah=>by
   rw[gK.mp ah];exact s.same _ h1 λz=>h2 (n.c7 _ z)
def alQ(ks:List Str)(g:Str->V)(k:Str)(v:V)(h:k∉ks):et (ks.map λj=>((.inr j:bM),g j)) (.inr k) v=(ks.map λj=>((.inr j:bM),g j))++[(.inr k,v)]:=by
 unfold et;rw[if_neg];intro z;obtain⟨q,h1,h2⟩:=uX.mp z;obtain⟨j,aN,rfl⟩:=fB.mp h1;have:j=k:=by simpa using h2
 exact h (by rw[<- this];exact aN)
def f5.add(n:f5 eA ij H0 T ω H a ks ad dt)(e:bh T ω H σ ε){k:Str}(E_:T p)(np:¬eA p)(aw:k∉ks)(Ej:p≠a)(cv:∀j∈ks,ad j≠p)(o:eI (a5 T ω) H (.ref p) d [p]):
  bh T ω (a1 H a (.a7 (et (ks.map λj=>(.inr j,.ref (ad j))) (.inr k) (.ref p)))) σ ε/\f5 eA ij H0 T ω (a1 H a (.a7 (et (ks.map λj=>(.inr j,.ref (ad j))) (.inr k) (.ref p)))) a (ks++[k]) (tC ad k p) (i6 dt k d):=by
 have cm:¬bk.v a:=λz=>n.na (n.c7 _ z);have fR:a5 T ω a:=.inl n.aP;have r1:∀{j},j∈ks->tC ad k p j=ad j:=λ{j} a2=>if_neg λz=>aw (by rw[<- z];exact a2)
 have vz:tC ad k p k=p:=if_pos rfl;have mem:∀{j},j∈ks++[k]->j∈ks∨j=k:=λh=>(nn.mp h).imp id gK.mp;refine⟨e.rt n.aP cm (λφ z=>by rw[n.af]at z;cases z),⟨λx o aD ah=>?_,λx ah cm=>?_,λx ah=>?_⟩,n.sub,n.fr,n.c7,n.aP,n.na,?_,λj a2=>?_,λj a2 i au h=>?_,λj a2=>?_,λj a2=>?_⟩
 ·obtain⟨aN,h4⟩:=n.st.keep x o aD ah;refine⟨aN,?_⟩;rw[bj λz=>?_]
  ·exact h4
  ·rcases n.fr x (by rw[z];exact n.aP)with y | y
   ·exact n.na (by rw[<- z];exact y)
   ·rw[ah]at y;cases y
 ·rw[bj λz=>n.na (by rw[<- z];exact ah)]
  exact n.st.same x ah cm
 ·by_cases z:x=a
  ·rw[z,cw]at ah;cases ah
  ·rw[bj z]at ah;exact n.st.c8 x ah
 ·rw[cw,alQ ks (λj=>V.ref (ad j)) k _ aw,og]
  congr 3
  ·apply Nh;intro j a2;rw[r1 a2]
  ·show [((hu k:bM),V.ref p)]=[((hu k:bM),V.ref (tC ad k p k))];rw[vz]
 ·rcases mem a2 with z | z
  ·rw[r1 z];exact n.up j z
  ·rw[z,vz];exact Ej
 ·rcases mem a2 with z | z<;>rcases mem au with y | y
  ·rw[r1 z,r1 y]at h;exact n.inj j z i y h
  ·rw[y,r1 z,vz]at h;exact absurd h (cv j z)
  ·rw[z,r1 y,vz]at h;exact absurd h.symm (cv i y)
  ·rw[z,y]
 ·rcases mem a2 with z | z
  ·rw[r1 z];exact n.pt j z
  ·rw[z,vz];exact⟨E_,np⟩
 ·have key:∀{b:O}{d':D},b≠a->eI (a5 T ω) H (.ref b) d' [b]->eI (a5 T ω) (a1 H a (.a7 (et (ks.map λj=>(.inr j,.ref (ad j))) (.inr k) (.ref p)))) (.ref b) d' [b]:=λab o=>o.mono (by rw[k' fR];exact λa o h=>.inl h) λx ah=>by
   rw[gK.mp ah];exact bj ab
  rcases mem a2 with z | z
  ·rw[r1 z,show i6 dt k d j=dt j from if_neg λy=>aw (by rw[<- y];exact z)]
   exact key (n.up j z) (n.part j z)
  ·rw[z,vz,show i6 dt k d k=d from if_pos rfl]
   exact key Ej o
abbrev vp(T:O->Prop)(ω:cs)(H:ak)(T':O->Prop)(aO:cs)(H':ak):Prop:=∀a o,¬a5 T ω a->H a=some o->¬a5 T' aO a/\H' a=some o
def Q7{g:gM}{tb:d8}{Y:Ends}(w:vy bP T a0 H1 ds)(I:Nat->St->ak->Prop)(bE:I 0 ni H1)
  (env:∀i σ H,I i σ H->∃T' aO ε',bh T' aO H σ ε'/\vp T a0 H1 T' aO H)(dq:∀σ H,I ds.length σ H->Y.nx σ H)
  (step:∀i d σ H x H2,ds[i]? =some d->I i σ H->(∀T' aO ε',bh T' aO H σ ε'->vp T a0 H1 T' aO H->bh T' aO H2 σ ε'/\Step T' aO H aO H2/\cn (cut (a5 T' aO) H2) x d)->g x σ H2 λfX H3=>tb {Y with nx:=I (i+1),ct:=I (i+1),f7:=Y.nx} fX H3):
  ∃W:Nat->Nat->St->ak->Prop,(∃m,W 0 m ni H1)/\∀i m σ H,W i m σ H->(bP.stop i H/\Y.nx σ H)∨(bP.go i H/\∃N:St->ak->Prop,(∀σ' H',N σ' H'->∃e_,e_ < m/\W (i+1) e_ σ' H')/\∀x H',bP.rx i H x H'->g x σ H' λfX H2=>tb {Y with nx:=N,ct:=N,f7:=Y.nx} fX H2):=by
 refine⟨λi m σ H=>m=ds.length - i/\i<=ds.length/\I i σ H,⟨ds.length,rfl,j2 _,bE⟩,?_⟩;rintro i m σ H ⟨rfl,au,nR⟩;obtain⟨T',aO,ε',bQ,sx⟩:=env i σ H nR;obtain⟨n',qd,_⟩:=w T' aO H σ ε' bQ sx;by_cases eD:i < ds.length
 ·refine .inr ⟨n' i eD,I (i+1),λfX H2 h2=>⟨ds.length - (i+1),by omega,rfl,eD,h2⟩,λx H2 y=>?_⟩
  exact step i ds[i] σ H x H2 (by simp[eD]) nR λrX cN bD aF ev=>(w rX cN H σ bD aF ev).2.2 i x H2 ds[i] y (by simp[eD])
 ·have Je:i=ds.length:=by omega
  subst Je;exact .inl ⟨qd,dq σ H nR⟩
def aji{i:Nat}{k:Str}{Y:Ends}(b2:b8 E aP bf)(bm:rV E tb cR)(e:bh T ω H σ ε)(n:f5 eA ij H0 T ω H a ks ad dt)(qS:σ[i]? =some (some (.ref a)))(aw:k∉ks)(ar:ks.length < 1000)(jt:cR ε= .ok d ε')(JB:bf ε'= .ok (.str k) qf)
  (c:∀p aO H',bh (λx=>T x∨x=p) aO H' σ qf->f5 eA ij H0 (λx=>T x∨x=p) aO H' a (ks++[k]) (tC ad k p) (i6 dt k d)->vp T ω H (λx=>T x∨x=p) aO H'->Y.nx σ H'):uF (dP i) aP tb Y σ H:=by
 refine bm T ω H σ ε _ e ?_;rw[jt];rintro v a0 H1 _ s1 ⟨p,rfl,aB,ag,o1⟩;have dD:=n.wide s1 aB;have pX:¬T p:=λz=>e.al p (.inl z) aB;have np:¬eA p:=λz=>pX (n.sub p z);refine⟨.ref a,qS,?_⟩;refine b2 (λx=>T x∨x=p) a0 H1 σ ε' _ ag ?_;rw[JB];intro u cN H2 aF s2 cL;have fH:=dD.step s2;have Kn:eI (a5 (λx=>T x∨x=p) cN) H2 (.ref p) d [p]:=o1.mono s2.le λx ah=>by
  rw[gK.mp ah];exact s2.same p (.inr rfl) λz=>np (n.c7 _ z)
 obtain⟨cU,jQ⟩:=fH.add aF (k:=k) (.inr rfl) np aw (λz=>pX (by rw[z];exact n.aP)) (λj a2 z=>pX (by rw[<- z];exact(n.pt j a2).1)) Kn
 refine⟨a,_,rfl,.inl ⟨_,.inr k,fH.af,ri (.inl cL) rfl,?_,rfl⟩,c p cN _ cU jQ λx o aD ah=>?_⟩
 ·rw[dV];exact nb (kA ar)
 ·obtain⟨h1,h2⟩:=s1.keep x o aD ah;have aN:¬a5 (λx=>T x∨x=p) a0 x:=λz=>by
   rcases z with(z | z) | z
   ·exact h1 (.inl z)
   ·rw[z,aB]at ah;cases ah
   ·exact h1 (.inr z)
  obtain⟨h4,cE⟩:=s2.keep x o aN h2;exact⟨h4,by rw[bj λz=>aD (.inl (by rw[z];exact n.aP))];exact cE⟩
def f5.init(e:bh eA ω H σ ε)(aB:H p=none):bh (λx=>eA x∨x=p) ω (a1 H p (.a7 [])) σ ε/\f5 eA ω H (λx=>eA x∨x=p) ω (a1 H p (.a7 [])) p [] ad dt:=
 ⟨qK e aB,e.hl aB,λx h=>.inl h,λx h=>h.imp id λz=>(by rw[z];exact aB),e.c7,.inr rfl,λz=>e.al p (.inl z) aB,cw,λk aw=>(by cases aw),λk aw=>(by cases aw),λk aw=>(by cases aw),λk aw=>(by cases aw)⟩
def ajl{k:Str}{Q:c3}(bm:rV E tb cR)(e:bh eA ω H σ ε)(jt:cR ε= .ok d ε')(ad:Str->O)(dt:Str->D)
  (c:∀a T aO H',(∀x,eA x->T x)->bh T aO H' σ ε'->(∃p,f5 eA ω H T aO H' a [k] (tC ad k p) (i6 dt k d))->Q (.ref a) H'):AP [(gT (.str k),tb)] σ H Q:=by
 intro a af;obtain⟨eu,oX⟩:=f5.init (ad:=ad) (dt:=dt) e af;show tb σ (a1 H a (.a7 [])) _;refine bm _ ω _ σ ε _ eu ?_;rw[jt];rintro v a0 H1 _ s1 ⟨p,rfl,aB,ag,o1⟩;have dD:=oX.wide s1 aB;have pX:¬(eA p∨p=a):=λz=>eu.al p (.inl z) aB;obtain⟨aF,fH⟩:=dD.add ag (k:=k) (d:=d) (.inr rfl) (λz=>pX (.inl z)) (by simp) (λz=>pX (.inr z)) (λj a2=>by cases a2) o1
 refine⟨dD.af,[(.inr k,.ref p)],rfl,by show 1<=15;decide,c a _ a0 _ (λx ah=>.inl (.inl ah)) aF ⟨p,fH⟩⟩
def afm(af:mF E aP bf):rV E (kp (λxs H Q=>∃p ys,xs=[V.ref p]/\(cS K H p ys∨gL K H p ys)/\∀l,H l=none->Q (.ref l) (a1 H l (.lst ys))) (gd aP gy)) (bg r_ bf):=λT ω H σ ε Q e q=>by
 unfold bg at q;refine af T ω H σ ε _ e ?_;cases jt:bf ε with
 | no=>rw[jt]at q;exact q
 | cp C fs=>rw[jt]at q;exact q
 | ok x aC=>
  rw[jt]at q;intro v a0 H1 ag s1 bc;have dq:∀(l:O)(vs:List V)(ds:List D),H1 l=none->cP (cut (a5 T a0) H1) vs ds->eI (a5 (λa=>T a∨a=l) a0) (a1 H1 l (.lst vs)) (.ref l) (.lst ds) [l]:=λl vs ds ar r=>by
   have le:fu (cut (a5 T a0) H1) (cut (a5 (λa=>T a∨a=l) a0) (a1 H1 l (.lst vs))):=λa u h=>.inl (by
    obtain⟨cY,dC⟩:=cB.mp h;have na:a≠l:=eK dC ar;refine cB.mpr ⟨λz=>?_,by rw[bj na];exact dC⟩
    rcases z with(z | z) | z
    ·exact cY (.inl z)
    ·exact na z
    ·exact cY (.inr z))
   exact .lst cw (r.mono le)
  cases x<;>try (exact q.elim)
  ·rename_i ds;obtain⟨a,vs,rfl,h1,h2⟩:=jX bc;exact⟨a,vs,rfl,.inl (cS.of h1),λl ar=>q _ a0 _ (ag.new ar) (s1.trans (ag.hl ar)) ⟨l,rfl,s1.c8 l ar,qK ag ar,dq l vs ds ar h2⟩⟩
  ·rename_i ds;obtain⟨a,vs,rfl,h1,h2⟩:=p4 bc;exact⟨a,vs,rfl,.inr (gL.of h1),λl ar=>q _ a0 _ (ag.new ar) (s1.trans (ag.hl ar)) ⟨l,rfl,s1.c8 l ar,qK ag ar,dq l vs ds ar h2⟩⟩
def bh.UY(e:bh T ω H σ ε){i:Nat}(au:ε[i]? =some none):bh T ω H (σ.set i (some v)) ε:=by
 refine⟨by rw[rC];exact e.len,e.jl,e.ee,e.al,λj d a2=>?_,λj d a2=>?_,e.c7,e.bB⟩
 ·have:i≠j:=λz=>by rw[z,a2]at au;cases au
  rw[j0 this];exact e.own j d a2
 ·have:i≠j:=λz=>by rw[z,a2]at au;cases au
  rw[j0 this];exact e.pl j d a2
end
section
variable{eA:O->Prop}{ij:cs}{H0:ak}{σ:St}{E:e5}{K:b5}
def ajk{nX:Str->List (bM×D)}{ps:List Str}{Y:Ends}(aZ:fo jv (.inr eE)=some (.lst od))(aB:∀k∈ps,fo jv (.inr k)=some (.aK (nX k)))(ba:(eE::ps).Nodup)(ar:ps.length < 100)
  (au:rW E ez mq)(ahI:∀ε,mq ε= .ok (ps.map .str) ε)(e:bh eA ij H0 σ [G (.aK jv),none,none])
  (c:∀a T aO H' ad dt σ' v,bh T aO H' σ' [G (.aK jv),none,v]->f5 eA ij H0 T aO H' a (eE::ps) ad dt->dt eE= .lst od->(∀k∈ps,dt k= .aK (nX k))->Y.ey (.ref a) H'):
  e1 (ml (AP [(gT (.str eE),kp (λxs H Q=>∃p ys,xs=[V.ref p]/\(cS K H p ys∨gL K H p ys)/\∀l,H l=none->Q (.ref l) (a1 H l (.lst ys))) (gd (p_ (dP 0) (gT (.str eE))) gy))]) (lr 1))
   (e1 (w6 ez (lr 2) (uF (dP 1) (dP 2) (kp (λxs H Q=>∃(p:O)(kvs:List (bM×V)),xs=[V.ref p]/\ec H p (.a7 kvs)/\∀l,H l=none->Q (.ref l) (a1 H l (.a7 kvs))) (gd (p_ (dP 0) (dP 2)) gy)))) (w8 (dP 1))) Y σ H0:=by
 have eh:σ.length=3:=e.len;have eJ:∀v,bg r_ (aI bw (J 0) (aT (.str eE))) [G (.aK jv),none,v]= .ok (.lst od) [G (.aK jv),none,v]:=λv=>by
  have:bw (.aK jv) (.str eE)=some (.lst od):=aZ;simp only[bg,aI,J,aT,gg,aJ.bind,this,dv,r_]
 unfold e1 ml;dsimp only;refine ajl (k:=eE) (E:=E) (afm (dz (ax 0) cQ).b) e (eJ none) (λ_=>0) (λ_=>.bb) λa vw a0 H1 de ag e9=>?_;obtain⟨bc,dD⟩:=e9;show w6 ez (lr 2) (uF (dP 1) (dP 2) (kp (λxs H Q=>∃(p:O)(kvs:List (bM×V)),xs=[V.ref p]/\ec H p (.a7 kvs)/\∀l,H l=none->Q (.ref l) (a1 H l (.a7 kvs))) (gd (p_ (dP 0) (dP 2)) gy))) _ (σ.set 1 (some (.ref a))) H1;have aF:=ag.UY (i:=1) (v:=.ref a) rfl;have s1:(σ.set 1 (some (.ref a)))[1]? =some (some (.ref a)):=j1 (by omega)
 refine au vw a0 H1 _ _ _ aF ?_;rw[ahI];intro bP cN H2 cU s3 AX;have fH:=dD.step s3;refine Q7 AX (λi σ' H'=>∃T ω ad dt v,bh T ω H' σ' [G (.aK jv),none,v]/\f5 eA ij H0 T ω H' a (eE::ps.take i) ad dt/\dt eE= .lst od/\(∀k∈ps.take i,dt k= .aK (nX k))/\σ'[1]? =some (some (.ref a))/\vp vw cN H2 T ω H')
  ⟨vw,cN,_,_,none,cU,fH,if_pos rfl,λk aw=>by simp at aw,s1,λx o h1 h2=>⟨h1,h2⟩⟩ (λi σ' H' ⟨T,ω,ad,dt,v,h1,_,_,_,_,dY⟩=>⟨T,ω,_,h1,dY⟩) (λσ' H' ⟨T,ω,ad,dt,v,h1,h2,aN,h4,cE,dY⟩=>?_) ?_
 ·rw[dV,WY]at h2 h4;exact⟨.ref a,cE,c a T ω H' ad dt σ' v h1 h2 aN h4⟩
 ·rintro i d σ' H' x H3 hd ⟨T,ω,ad,dt,v,h1,h2,aN,h4,cE,dY⟩ b0;rw[ft]at hd;obtain⟨k,aw,rfl⟩:=jD.mp hd;obtain⟨jn,fI,rd⟩:=b0 T ω _ h1 dY;have ai':=h2.step fI;have ag8:k∈ps:=oh aw;have eD:i < ps.length:=(hf.mp aw).1;have wd:ps.take (i+1)=ps.take i++[k]:=by rw[List.take_succ,aw];rfl
  have RU:k∉eE::ps.take i:=λz=>by
   have l7:(eE::ps.take (i+1)).Nodup:=ba.sublist (ao2 _ (WZ _ _));rw[wd, <- M',FF]at l7;exact l7.2.2 k z k (by simp) rfl
  refine cG (E:=E) (ro:=[1]) (i:=2) (by simp) T ω H3 σ' [G (.aK jv),none,v] [G (.aK jv),none,G (.str k)] (.str k) x _ jn rd rfl λVU Fq ke ha amm=>?_
  have aja:=ai'.step ha;have Sa:VU[1]? =some (some (.ref a)):=(amm 1 (by simp)).trans cE
  have adF:bg zt (aI bw (J 0) (J 2)) [G (.aK jv),none,G (.str k)]= .ok (.aK (nX k)) [G (.aK jv),none,G (.str k)]:=by
   have:bw (.aK jv) (.str k)=some (.aK (nX k)):=aB k ag8;simp only[bg,aI,J,gg,hU,aJ.bind,this,dv,zt]
  refine aji (E:=E) (ax 2) (Rf (dz (ax 0) (ax 2)).b) ke aja Sa RU (by simp;omega) adF rfl λp A5 mD nM Kb ah5=>?_
  refine⟨_,A5,tC ad k p,i6 dt k (.aK (nX k)),_,nM,?_,?_,?_,Sa,λx o cY dC=>?_⟩
  ·rw[wd];exact Kb
  ·show i6 dt k _ eE=_;unfold i6;rw[if_neg λz=>RU (by rw[<- z];simp)]
   exact aN
  ·intro j a2;rw[wd]at a2;unfold i6;by_cases z:j=k
   ·rw[if_pos z,z]
   ·rw[if_neg z];exact h4 j ((nn.mp a2).resolve_right λy=>z (gK.mp y))
  ·obtain⟨eX,gR⟩:=dY x o cY dC;obtain⟨eY,qL⟩:=fI.keep x o eX gR;obtain⟨II,IJ⟩:=ha.keep x o eY qL;exact ah5 x o II IJ
end
end bu
local macro_rules
| `(tactic|ac_rfl)=>`(tactic|exact .of (by decide+kernel))
namespace gB
open PySem bu
section
variable[bk]{P:dn}{w:cH}{K:b5}{mg:Str->Option aj}{base:cg}
abbrev Lx:cc:=c6 50
def As:List Str:=["ups","told","lets","far","home","musts"]
def U6(eE:Str)(ps:List Str):e4:=λvs H Q _=>∃(U:O->Prop)(v:V)(jv:List (bM×D))(od:List D)(nX:Str->List (bM×D)),vs=[v]/\cn (cut U H) v (.aK jv)/\(∀a,U a->H a≠none)/\(∀a,bk.v a->U a)/\bk.i H/\fo jv (.inr eE)=some (.lst od)/\(∀k∈ps,fo jv (.inr k)=some (.aK (nX k)))/\
 ∀a T aO H' ad dt,(∀i x,x∈aO i->¬T x)->bk.i H'->(∀x,a5 T aO x->H' x≠none)->f5 U (λ_=>[]) H T aO H' a (eE::ps) ad dt->dt eE= .lst od->(∀k∈ps,dt k= .aK (nX k))->Q (.ref a) H'
def LZ:cX ["_law_m","_law_found","_law_part"] ["_law_m"] (bY Lx):=by ac_rfl
def akq(F:bT K "_law_copied" "_law_copied" Lx f aE)(T:el mg):aY P w K mg base bq 1 f aE ["_law_m"] (U6 "order" As):=by
 refine F.ok LZ (λvs H Q E h=>?_) (λbA A a3 s H vs Q E aA h=>?_)
 ·obtain⟨U,v,jv,od,nX,rfl,_⟩:=h;rfl
 ·obtain⟨U,v,jv,od,nX,rfl,r,al,bm,bB,aZ,aB,k⟩:=h;have aD:=ff aA;refine⟨_,a6 (du (i:=1) LZ.a4 rfl (bF rfl) (sJ (sM cx (je vJ (by rfl) T.list PyProof.Rows.Boot.«list» (ay (dh aD (ae 0) cx (λ_ _=>rfl)) aV)) sN) rfl rfl (by simp) (by decide)))
   (a6 (hn io rfl (g9 (kU (ay cx (ay cx (ay cx (ay cx (ay cx (ay cx aV)))))))) (ew (i:=2) LZ.a4 rfl (bF rfl)) (bI (n3 aD (ae 1) (ae 2) (je r3 (by rfl) T.dict PyProof.Rows.Boot.«dict» (ay (dh aD (ae 0) (ae 2) (λ_ _=>rfl)) aV)) rfl)))
   (bI (dr (ae 1)))),?_⟩
  have e:=C2 (N:=["_law_m","_law_found","_law_part"]) (ds:=[.aK jv]) (.cons r .nil) al bm bB;refine ajk (E:=⟨E,H⟩) (mq:=di d2 (iQ (az (aT (.str "ups")) (az (aT (.str "told")) (az (aT (.str "lets")) (az (aT (.str "far")) (az (aT (.str "home")) (az (aT (.str "musts")) aU)))))))) (ps:=As) aZ aB (by decide) (by decide) (g6 (m6 (a8 cQ (a8 cQ (a8 cQ (a8 cQ (a8 cQ (a8 cQ b1)))))))) (λε=>rfl) e λa T' aO H' ad dt σ' xd bQ q0 h1 h2=>?_
  exact k a T' aO H' ad dt bQ.ee bQ.bB bQ.al q0 h1 h2
end
end gB
namespace bu
open PySem PySem.Spec PyProof.Rows
variable[bk]
section
variable{T T':O->Prop}{ω aO:cs}{H H':ak}{a:O}{ks:List Str}{ad:Str->O}{dt:Str->D}{σ:St}{ε:aq}
def bh.nest(e:bh T ω H σ ε)(n:f5 (a5 T ω) (λ_=>[]) H T' aO H' a ks ad dt)(ee:∀i x,x∈aO i->¬T' x)(bB:bk.i H')(al:∀x,a5 T' aO x->H' x≠none):
  ∃rX,bh rX ω H' σ ε/\f5 T ω H rX ω H' a ks ad dt/\vp T ω H rX ω H':=by
 have cD:∀x o,¬a5 T ω x->H x=some o->¬T' x/\(∀i,x∉aO i)/\H' x=some o:=λx o h1 h2=>by
  obtain⟨aN,h4⟩:=n.st.keep x o (λz=>z.elim h1 λ⟨i,y⟩=>by cases y) h2
  refine⟨λz=>?_,λi z=>aN (.inr ⟨i,z⟩),h4⟩;rcases n.fr x z with y | y
  ·exact h1 y
  ·rw[h2]at y;cases y
 have afa:∀i x,x∈aO i->H x=none:=λi x ah=>by
  cases h:H x with
  | none=>rfl
  | some o=>exact absurd ah ((cD x o (λz=>ee i x ah (n.sub x z)) h).2.1 i)
 have m':∀x,a5 T ω x->¬bk.v x->H' x=H x:=λx ah cm=>n.st.same x ah cm;refine⟨λx=>T x∨(T' x/\¬a5 T ω x)∨∃i,x∈aO i,?_⟩;have Aj:∀x o,¬a5 T ω x->H x=some o->¬a5 (λx=>T x∨(T' x/\¬a5 T ω x)∨∃i,x∈aO i) ω x/\H' x=some o:=λx o h1 h2=>by
  obtain⟨aN,h4,cE⟩:=cD x o h1 h2;refine⟨λz=>?_,cE⟩;rcases z with(z | z | ⟨i,z⟩) | z
  ·exact h1 (.inl z)
  ·exact aN z.1
  ·exact h4 i z
  ·exact h1 (.inr z)
 have le:fu (cut (a5 T ω) H) (cut (a5 (λx=>T x∨(T' x/\¬a5 T ω x)∨∃i,x∈aO i) ω) H'):=JW Aj;have ajE:∀i x,x∈ω i->¬bk.v x:=λi x ah z=>e.ee i x ah (e.c7 x z);refine⟨⟨e.len,e.jl,λi x ah z=>?_,λx ah=>?_,λi d au=>?_,λi d au=>?_,λx ah=>.inl (e.c7 x ah),bB⟩,⟨⟨λx o h1 h2=>⟨h1,(cD x o h1 h2).2.2⟩,λx ah cm=>m' x (.inl ah) cm,n.st.c8⟩,λx h=>.inl h,λx h=>?_,e.c7,.inr (.inl ⟨n.aP,n.na⟩),λz=>n.na (.inl z),n.af,n.up,n.inj,λk aw=>⟨.inr (.inl (n.pt k aw)),λz=>(n.pt k aw).2 (.inl z)⟩,λk aw=>?_⟩,Aj⟩
 ·rcases z with z | z | ⟨j,z⟩
  ·exact e.ee i x ah z
  ·exact z.2 (.inr ⟨i,ah⟩)
  ·exact ee j x z (n.sub x (.inr ⟨i,ah⟩))
 ·rcases ah with(z | z | ⟨j,z⟩) | z
  ·exact λy=>e.al x (.inl z) (n.st.c8 x y)
  ·exact al x (.inl z.1)
  ·exact al x (.inr ⟨j,z⟩)
  ·exact λy=>e.al x (.inr z) (n.st.c8 x y)
 ·obtain⟨v,h1,h2⟩:=e.own i d au;exact⟨v,h1,h2.mono le λx ah=>m' x (.inr ⟨i,ah⟩) (ajE i x ah)⟩
 ·obtain⟨v,h1,h2⟩:=e.pl i d au;exact⟨v,h1,h2.mono le⟩
 ·rcases h with z | z | ⟨i,z⟩
  ·exact .inl z
  ·exact .inr ((n.fr x z.1).resolve_left z.2)
  ·exact .inr (afa i x z)
 ·refine(n.part k aw).mono (gE λx z=>?_) λ_ _=>rfl;rcases z with(z | z | z) | z
  ·exact .inl (n.sub x (.inl z))
  ·exact .inl z.1
  ·exact .inr z
  ·exact .inl (n.sub x (.inr z))
end
end bu
namespace bu
open PySem PySem.Spec PyProof.Rows
def aiH:typeLookup (.type "list") "keys"=pure none:=am_miss_of_fast (by decide+kernel)
def aaE{A:d0}{s:aM}{a:O}{Q:Option aj->aM->Prop}
  (ah:s.heap.get? a=some o)(aL:o.cls= .type "list")(RM:o.data= .seq xs k)(hd:o.dict=none)(ahh:typeLookup (.type "list") name=pure none)(t6:(["__module__","__name__","__qualname__","__doc__","__annotations__"]:List Str).contains name=false)(h_:A.handled=none)
  (h:∀h' tk e,Heap.NewExcOf s.heap h' e "AttributeError"->Q none {s with heap:=h',toks:=tk})(hsz:name.length+100<=sizeLine:=by size_fits):
  wpAny (model prog w) A (getAttr? (.ref a) name) Q E s:=by
 obtain⟨c,aK,aqa,fy⟩:=o;simp only at aL RM hd;subst aL RM hd;obtain⟨aB,g,d,tk,os⟩:=s;have de:∀VB,(⟨aB,g,d,VB,os⟩:aM).TypeIs (.ref a) "list":=λ_=>⟨_,ah,rfl⟩;have f1:=sub_AttributeError;have dc:=M8.lookup;have hh:=M8.bind (.ref a);have hx:=am_list_getattr_none;unfold getAttr? getAttrBy? getAttrBy
 repeat (any_goals (first | assumption | exact de _ | ((with_reducible show wpAny _ _ (call (F0 "list.__getattribute__") _ _) _ _ _);refine call_meets M8 (de _) am_entry_list_getattribute (F.args_list_getattribute_2 _ _) (meets_getattribute_miss_list a xs k fy name _ ahh t6 hsz) ⟨ah,h_,λh' VB e R9=>?_⟩) | wp_step))
 obtain⟨t',fg,he⟩:=R9.there;show wpAny _ _ (getattributeRaised _ _ _ _ _ _ _) _ _ _;unfold getattributeRaised
 repeat (any_goals (first | assumption | wp_step))
 exact h _ _ _ R9.of
def ad0:entryFor table "dict.update.loop"=some Builtin.«dict.update.loop»:=XJ (by kernel_rfl)
def Uc:plainId "dict.update.loop"=true:=by decide+kernel
section
variable{X:bp}
def Pl(aL:X.calm=true):ji X (.type "dict") (λxs H Q=>∃(p:O),xs=[.ref p]/\H p=some (.lst [])/\∀l,H l=none->Q (.ref l) (a1 H l (.a7 []))):=by
 intro aa s σ H xs us Q I r h;obtain⟨p,rfl,aB,q⟩:=h;obtain⟨u,rfl,dO⟩:=vals1 r;cases dO;obtain⟨_,its,n,bm,ar,aZ⟩:=I.DQ aB;obtain rfl:its=[]:=by cases its with | nil=>rfl | cons _ _=>simp at ar
 have cu:X.A.handled=none:=I.ok.hd aL;refine callType_codes (Q₁:=λobj s₁=>obj= .ref s.heap.objs.size/\s₁={s with heap:=s.heap.push {cls:=.type "dict",data:=.dict #[]}}) F.kt_called_dict (F.kt_typeCall_dict_1 _) F.entry_dict_init (kt_code_dict_new _ ⟨rfl,rfl⟩) ?_
 rintro obj s₁ ⟨rfl,rfl⟩;have Jn:(s.heap.push {cls:=.type "dict",data:=.dict #[]}).DictOf (fG X.prog X.w) s.heap.objs.size []:=Wo s.heap;have mR:(s.heap.push {cls:=.type "dict",data:=.dict #[]}).get? p=some {cls:=.type "list",data:=.seq ([]:List aj).toArray n}:=cV _ aZ;refine⟨Jn.typeIs,F.args_dict_init_2 _ _,?_⟩;unfold Builtin.«dict.__init__»;refine aQ ?_;unfold aoU;refine aQ (wpAny_notOrdered_dict Jn.typeIs ?_);show wpAny _ _ (pure (s.heap.objs.size,[Value.ref p])) _ _ _;refine bC ?_;show wpAny _ _ (V9 "dict.__init__" s.heap.objs.size (.ref p) [] .none) _ _ _;unfold V9;refine aQ (F' ⟨_,mR,rfl⟩ ?_);rw[if_pos (by decide)]
 refine aQ (aaE mR rfl rfl rfl aiH (by decide+kernel) cu λh1 E8 ag x1=>?_)
 have nT:=x1.keeps _ _ mR;simp only[Option.isNone_none,if_true];refine aQ (Bv ?_);refine aQ (xR (items:=([]:List aj).toArray) ⟨_,nT,rfl,n,rfl⟩ ?_);refine bC ⟨pn Uc _,pk ad0 ?_⟩;rw[qi Uc _];unfold Builtin.«dict.update.loop»;simp only[];refine aQ (F9 (l:=p) (i:=0) (items:=([]:List aj).toArray) (by exact cu) ⟨_,eT _ rfl,rfl,rfl⟩ ⟨_,cV _ nT,rfl,n,rfl⟩ rfl λh2 x2=>?_)
 show wpAny _ _ (aoT s.heap.objs.size []>>=λ_=>ret .none) _ _ _;have cD:∀b o,(s.heap.push {cls:=.type "dict",data:=.dict #[]}).get? b=some o->h2.get? b=some o:=λb o e=>by
  have ag:=x1.keeps b o e;exact x2 b o (d3 (dm ag)) (cV _ ag)
 have dq:gj X aa σ Q (.ref s.heap.objs.size) {s with heap:=h2,toks:=E8}:=
  ⟨.ref s.heap.objs.size,_,I.laid (a:=s.heap.objs.size) (o:=.a7 []) (t':=E8) (λb o e=>cD b o (cV _ e)) (c9 _) (zd (j2 _) (beq_eq_false_iff_ne.mpr (Ne.symm (d3 I.big))) .nil (Jn.keep cD)),rfl,q _ (I.a'.fresh (c9 _))⟩
 exact aQ (bC (bC ⟨rfl,dq⟩))
def Er{p pos e6 f8:d1}(aL:X.calm=true)(aZ:bz X o eS)(bl:fd X "sorted")(bx:X.mg "sorted"=none)
  (I4:attributeBase o "items" X.env (eval o X.env)=eval o X.env:=by rfl)(Jh:(e6.endLine==f8.line)=true:=by rfl)
  (he:starEach [.Call (.Attribute o "items" e6) [] [] f8] X.env=(false,eval (.Call (.Attribute o "items" e6) [] [] f8) X.env)::starEach [] X.env:=by rfl):
  bz X (.Call (.Name "sorted" p) [.Call (.Attribute o "items" e6) [] [] f8] [] pos) (λσ H Q=>eS σ H λx H1=>∃a,x= .ref a/\ec H1 a (.a7 [])/\∀l,H1 l=none->Q (.ref l) (a1 H1 l (.lst []))):=by
 intro aa s σ H Q I h;refine ql (qV I bl bx PyProof.Rows.Boot.«sorted» ?_ (by decide) (by decide))
 refine FK ?_ he rfl;rw[he];show wpAny _ _ (spliced ((false,eval (.Call (.Attribute o "items" e6) [] [] f8) X.env)::backTo pos (starEach [] X.env))) _ _ s;refine uW ?_;refine wpAny_Call_method0_late I4 Jh (bJ (aZ aa s σ H _ I h) λv s1 ⟨x,H1,aW,b4,a,ex,d,q⟩=>?_);subst ex;obtain rfl:v=Value.ref a:=b4;obtain⟨fm,dw,_⟩:=DG aW (.inl ⟨_,d⟩);obtain⟨z,lo,vs,rel,bN⟩:=lZ aW.a' d;cases rel;refine⟨"dict","dict.items",FN,Xe,PySem.F.type_dict_items,fm,dw,A7 rfl (PySem.evalArgs_none ?_)⟩;refine xN Xe bN.typeIs PySem.F.entry_dict_items (PySem.F.args_dict_items_1 _) (meets_dict_items (fG X.prog X.w) a lo) ⟨⟨_,bN⟩,?_⟩;refine xn ?_;have bU:Inv X aa σ H1 {s1 with heap:=s1.heap.push {cls:=.type "dict_items",data:=.fields #[.ref a]}}:=aW.kept (t':=s1.toks) λb u e=>cV _ e
 have HH:=bN.push {cls:=.type "dict_items",data:=.fields #[.ref a]};obtain⟨ep,I3⟩:=HH.dictAt;have cu:X.A.in1.handled=none:=I.ok.hd aL;refine U3 (ss:=[]) (by decide) (λR kK=>PySem.W.kdx_collect cu ⟨_,eT _ rfl,rfl,rfl⟩ I3 (j2 _) λh' tk as en ev _=>?_) ?_
 ·obtain rfl:as=[]:=Nf.mp ev;exact kK h' tk [] (Mo rfl λj u aD=>by simp at aD) en
 ·intro h1 h' tk l ih e ss' en ev ar he dE so aS;obtain rfl:ss'=[]:=List.perm_nil.mp so;obtain⟨nl,dX⟩:=bU.DR (tk:=tk) en ev ar he dE (j2 _);exact⟨.ref l,_,dX,rfl,q l nl⟩
end
end bu
namespace bu
open PySem PySem.Spec PyProof.Rows
variable[bk]
def Qf:D->Option D
 | .lst []=>some (.aK [])
 | _=>none
def Po:ou (λxs H Q=>∃(p:O),xs=[V.ref p]/\H p=some (.lst [])/\∀l,H l=none->Q (.ref l) (a1 H l (.a7 []))) Qf:=λT ω H σ ε x dx d Q e d6 aH k=>by
 cases dx<;>simp[Qf]at aH;rename_i ds;cases ds with
 | cons a b=>cases aH
 | nil=>
  cases aH;obtain⟨a,vs,rfl,h1,h2⟩:=jX d6;cases h2;exact⟨a,rfl,h1,λl ar=>k _ _ (e.new ar) (e.hl ar) (Td e ar .nil)⟩
def ll:D->Option D
 | .aK []=>some (.lst [])
 | _=>none
def aef(h:ll x=some d):x= .aK []/\d= .lst []:=by
 unfold ll at h;split at h
 ·cases h;exact⟨rfl,rfl⟩
 ·cases h
def EA(af:b8 E aP bf):b8 E (λσ H Q=>aP σ H λx H1=>∃a,x=V.ref a/\ec H1 a (.a7 [])/\∀l,H1 l=none->Q (.ref l) (a1 H1 l (.lst []))) (bg ll bf):=λT ω H σ ε Q e q=>by
 unfold bg at q;refine af T ω H σ ε _ e (dJ.then q λx aC v a0 H1 _ ag s1 bc ao=>?_);obtain⟨d,hd,bZ⟩:=ao.opt;obtain⟨rfl,rfl⟩:=aef hd;obtain⟨a,vs,rfl,h1,h2⟩:=m8 (.inl bc);cases h2;exact⟨a,rfl,h1,λl ar=>bZ _ a0 _ (ag.new ar) (ag.hl ar) (q1 ag ar .nil)⟩
end bu
namespace bu
open PySem
variable[bk]
def EC{α:Type}(f:α->D)(l:List (Str×α))(x:Str)(d:α)(h:x∉l.map (·.1)):md (l.map λp=>((.inr p.1:bM),f p.2)) (.inr x) (f d)=(l++[(x,d)]).map λp=>(.inr p.1,f p.2):=by
 unfold md;rw[if_neg,og]
 ·rfl
 ·intro z;obtain⟨q,h1,h2⟩:=uX.mp z;obtain⟨j,aN,rfl⟩:=fB.mp h1;have:j.1=x:=by simpa using h2
  exact h (by rw[<- this];exact fB.mpr ⟨j,aN,rfl⟩)
def fh.seq{E:e5}{ro:List Nat}{t u:d8}{β:aq->Out}{T:O->Prop}{ω:cs}{H:ak}{σ:St}{ε ε':aq}{Y:Ends}(h:fh E ro t β)(e:bh T ω H σ ε)(eZ:β ε= .nx ε')(c:∀σ' aO H',jh ro T ω H σ ε' σ' aO H'->u Y σ' H'):e1 t u Y σ H:=h T ω H σ ε _ e (by rw[eZ];exact c)
def L3{t:TE}{g:gM}{u:d8}{H:ak}(h:t σ H λx H1=>g x σ H1 (u Y)):e1 (ml t g) u Y σ H:=h
def uJ{t u:d8}{Y:Ends}{σ:St}{H:ak}(h:t {Y with nx:=u Y} σ H):e1 t u Y σ H:=h
def an9:a5 U (λ_=>[])=U:=by
 funext a;exact propext ⟨λh=>h.elim id λ⟨i,z⟩=>(by cases z),.inl⟩
open Classical in
noncomputable def zu (M:Md) (x:Str) (ups:List Str):List D->b':=λds=>if ds=[a_ M,.str x,av ups,.lst []]then .ok (a_ (M.next x ups))else .no
def i7(M:Md)(x:Str)(ups:List Str)(a b c d e:Option (Bool×D)):aq:=[G (a_ M),G (.str x),G (av ups),G (.lst []),a,b,c,d,e]
def adY(M:Md){ups:List Str}(ar:∀u∈ups,M.lets.lookup u=some []):∃v,fa (di d2 (J 2)) (bo 6) (p5 (aI bw (aI bw (J 0) (aT (.str "lets"))) (J 6)) (bo 7) (λ_=>.no)) (i7 M x ups none (some (true,.aK [])) none none none)= .nx (i7 M x ups none (some (true,.aK [])) v none none):=by
 obtain⟨ε',ag,v,rfl⟩:=qX (γ:=bo 6) (β:=p5 (aI bw (aI bw (J 0) (aT (.str "lets"))) (J 6)) (bo 7) (λ_=>.no)) D.str
  (λpre ε=>∃v,ε=i7 M x ups none (some (true,.aK [])) v none none) ups (i7 M x ups none (some (true,.aK [])) none none none) ⟨none,rfl⟩ (by
   rintro pre u hs ε e ⟨v,rfl⟩;refine⟨i7 M x ups none (some (true,.aK [])) (G (.str u)) none none,rfl,i7 M x ups none (some (true,.aK [])) (G (.str u)) none none,.inl ?_,_,rfl⟩;have aD:u∈ups:=by rw[e];simp
   have aF:bw (.aK (M.lets.map λp=>(.inr p.1,iC p.2))) (.str u)=some (.aK []):=by
    show fo _ (.inr u)=_;rw[uQ iC u,ar u aD];rfl
   unfold p5 i7;simp only[aI,J,aT,gg,hU,aJ.bind,J_,dv,aF,aJ.out];rfl)
 exact⟨v,ag⟩
end bu
namespace gB
open PySem bu
section
variable[bk]{P:dn}{w:cH}{K:b5}{mg:Str->Option aj}{base:cg}
abbrev Ly:cc:=c6 58
def uI:cX ["_law_m","_law_name","_law_ups","_law_some_rooms","_law_found","_law_lets","_law_up","_law_room","_law_kind"] ["_law_m","_law_name","_law_ups","_law_some_rooms"] (bY Ly):=by ac_rfl
def akr{M:Md}{x:Str}{ups:List Str}(R:Run M)(ah:x∉M.order)(aD:∀u∈ups,u∈M.order)(ne:ups≠[])(c_:ups.length<=4){f:O}{aE:f4}{QC QE:O}{PA CV:f4}(Yk:e3 K mg "_law_copied" QC PA ["_law_m"])(Zp:aY P w K mg base bq 1 QC PA ["_law_m"] (U6 "order" As))
  (Gb:e3 K mg "_law_far_of" QE CV ["_law_m","_law_ups"])(Gx:aY P w K mg base bq 1 QE CV ["_law_m","_law_ups"] (bV (bS qC 2 4)))(F:bT K "_law_entered" "_law_entered" Ly f aE)(T:el mg):aY P w K mg base bq 2 f aE ["_law_m","_law_name","_law_ups","_law_some_rooms"] (bV (zu M x ups)):=by
 have dE:∀{vs H Q E},bV (zu M x ups) vs H Q E->∃U,cP (cut U H) vs [a_ M,.str x,av ups,.lst []]/\(∀a,U a->H a≠none)/\(∀a,bk.v a->U a)/\bk.i H/\∀v H',fO H H'->cn (cut U H') v (a_ (M.next x ups))->Q v H':=λ{vs H Q E} h=>by
  obtain⟨U,ds,r,al,bm,bB,q⟩:=h;by_cases z:ds=[a_ M,.str x,av ups,.lst []]
  ·subst z;unfold zu at q;rw[if_pos rfl]at q;exact⟨U,r,al,bm,bB,q⟩
  ·unfold zu at q;rw[if_neg z]at q;exact q.elim
 refine F.ok uI (λvs H Q E h=>?_) (λbA A a3 s H vs Q E aA h=>?_)
 ·obtain⟨U,r,_⟩:=dE h;exact r.length
 ·obtain⟨U,r,al,bm,bB,q⟩:=dE h;have oU:=ff aA;refine⟨_,a6 (du (i:=4) uI.a4 rfl (bF rfl) (eF Zp aA Yk (ay (ae 0) aV)))
   (a6 (du (i:=5) uI.a4 rfl (bF rfl) n2)
   (a6 (hn io rfl (g9 (ae 2)) (ew (i:=6) uI.a4 rfl (bF rfl)) (bI (wM (hn io rfl (uz (dh oU (dh oU (ae 0) cx (λ_ _=>rfl)) (ae 6) (λ_ _=>rfl))) (ew (i:=7) uI.a4 rfl (bF rfl)) hQ))))
   (a6 (fU (Ep (ae 5) (je (Pl rfl) (by rfl) T.dict PyProof.Rows.Boot.«dict» (ay (ae 3) aV)) ⟨rfl,rfl,rfl,rfl⟩))
   (a6 (fU (En FO FP FQ Ab (dh oU (ae 4) cx (λ_ _=>rfl)) (ay (ae 1) aV)))
   (a6 (n3 oU (dh oU (ae 4) cx (λ_ _=>rfl)) (ae 1) (ea (Ht rfl) (by rfl) T.sorted PyProof.Rows.Boot.«sorted» (ay (je (Hs rfl) (by rfl) T.set PyProof.Rows.Boot.«set» (ay (ae 2) aV)) aV)) rfl)
   (a6 (n3 oU (dh oU (ae 4) cx (λ_ _=>rfl)) (ae 1) (je (Pl rfl) (by rfl) T.dict PyProof.Rows.Boot.«dict» (ay (ae 3) aV)) rfl)
   (a6 (n3 oU (dh oU (ae 4) cx (λ_ _=>rfl)) (ae 1) (ae 5) rfl)
   (a6 (n3 oU (dh oU (ae 4) cx (λ_ _=>rfl)) (ae 1) (f' TJ (eF Gx aA Gb (ay (ae 0) (ay (ae 2) aV))) (kU (ay (ae 1) aV))) rfl)
   (a6 (hn io rfl (g9 (ae 3)) (Es rfl (sL (ew (i:=7) uI.a4 rfl (bF rfl)) (sL (ew (i:=8) uI.a4 rfl (bF rfl)) Et))) hQ)
   (bI (dr (ae 4)))))))))))),?_⟩
  have eu:bh U (λ_=>[]) H (start ["_law_m","_law_name","_law_ups","_law_some_rooms","_law_found","_law_lets","_law_up","_law_room","_law_kind"] vs) (i7 M x ups none none none none none):=C2 (N:=["_law_m","_law_name","_law_ups","_law_some_rooms","_law_found","_law_lets","_law_up","_law_room","_law_kind"]) (ds:=[a_ M,.str x,av ups,.lst []]) r al bm bB;generalize aqv:start ["_law_m","_law_name","_law_ups","_law_some_rooms","_law_found","_law_lets","_law_up","_law_room","_law_kind"] vs=Fp at eu;have eh:Fp.length=9:=eu.len;refine L3 ?_;refine a8 (E:=⟨E,H⟩) (ax 0) b1 U (λ_=>[]) H Fp _ _ eu ?_;intro s4 a0 H1 ag s1 b4;cases b4 with
  | cons bc da=>
  cases da;refine⟨a5 U a0,_,_,_,λk=>if k="ups" then M.ups.map λp=>(.inr p.1,av p.2)else if k="told" then M.told.map λp=>(.inr p.1,iC p.2)else if k="lets" then M.lets.map λp=>(.inr p.1,iC p.2)else if k="far" then M.ai.map λp=>(.inr p.1,av p.2)else if k="home" then M.home.map λp=>(.inr p.1,.str p.2)else [],rfl,bc,ag.al,λa af=>.inl (ag.c7 a af),ag.bB,rfl,?_,?_⟩
  ·intro k aw;simp only[As,dR,xA,or_false]at aw;rcases aw with rfl | rfl | rfl | rfl | rfl | rfl<;>rfl
  intro a T' aO H2 ad dt ajC an' O2 fH agI wa;obtain⟨rX,aF,jQ,hj⟩:=ag.nest fH ajC an' O2;show e1 _ _ _ (Fp.set 4 (some (.ref a))) H2;have cU:=aF.UY (i:=4) (v:=.ref a) rfl;have fI:(Fp.set 4 (some (V.ref a)))[4]? =some (some (.ref a)):=j1 (by omega)
  have lo:M.order.length<=24:=R.ok.c_;have aqC:M.ups.length<=24:=by rw[show M.ups.length=M.order.length from by rw[<- R.ue,dV]];exact lo
  have lt:M.told.length<=24:=by rw[show M.told.length=M.order.length from by rw[<- R.kt,dV]];exact lo
  have aqB:M.lets.length<=24:=by rw[show M.lets.length=M.order.length from by rw[<- R.wo,dV]];exact lo
  have DO:M.ai.length<=24:=by rw[show M.ai.length=M.order.length from by rw[<- R.iy,dV]];exact lo
  refine(p9 (E:=⟨E,H⟩) (ro:=[4]) (i:=5) v7).seq cU (ε':=i7 M x ups none (some (true,.aK [])) none none none) rfl λxj pd H4 gD=>?_;obtain⟨dQ,ahE⟩:=adY M (x:=x) (ups:=ups) λu ahB=>R.lets u (aD u ahB);refine(jz (E:=⟨E,H⟩) (ro:=[4]) (g6 (ax 2)) (cG (i:=6)) (AN (dz (dz (ax 0) cQ) (ax 6)) (cG (i:=7)) uM)).seq gD.env ahE λVU Fq H5 kc=>?_;refine(E0 (E:=⟨E,H⟩) (ro:=[4]) (i:=5) (gc Po (ax 3).b)).seq kc.env (ε':=i7 M x ups none (some (true,.aK [])) dQ none none) rfl λMT A5 mD eB=>?_;have Kb:=((jQ.step gD.step).step kc.step).step eB.step;have jY:MT[4]? =some (some (.ref a)):=by rw[eB.ro 4 (by simp),kc.ro 4 (by simp),gD.ro 4 (by simp)];exact fI
  refine uJ ?_;refine ajj (E:=⟨E,H⟩) (ax 1) eB.env Kb jY (by simp) agI (by rw[dV];omega) rfl λaq0 hg zf uo=>?_
  have adO:bg zv (J 2) (i7 M x ups none (some (true,.aK [])) dQ none none)= .ok (av (cI (bN ups))) (i7 M x ups none (some (true,.aK [])) dQ none none):=mJ (a:=av ups) rfl (by
   show((ups.map D.str).mapM hr).bind _=_;rw[rn,om,if_pos ⟨by omega,ne⟩]
   rfl)
  have acB:dt "ups"= .aK (M.ups.map λp=>(.inr p.1,av p.2)):=by
   rw[wa "ups" (by decide)]
   dsimp only;rw[if_pos rfl]
  have acz:dt "told"= .aK (M.told.map λp=>(.inr p.1,iC p.2)):=by
   rw[wa "told" (by decide)]
   dsimp only;rw[if_neg (by decide),if_pos rfl]
  have aci:dt "lets"= .aK (M.lets.map λp=>(.inr p.1,iC p.2)):=by
   rw[wa "lets" (by decide)]
   dsimp only;rw[if_neg (by decide),if_neg (by decide),if_pos rfl]
  have CV:dt "far"= .aK (M.ai.map λp=>(.inr p.1,av p.2)):=by
   rw[wa "far" (by decide)]
   dsimp only;rw[if_neg (by decide),if_neg (by decide),if_neg (by decide),if_pos rfl]
  have acb:dt "home"= .aK (M.home.map λp=>(.inr p.1,.str p.2)):=by
   rw[wa "home" (by decide)]
   dsimp only;rw[if_neg (by decide),if_neg (by decide),if_neg (by decide),if_neg (by decide),if_pos rfl]
  have acr:dt "musts"= .aK []:=by
   rw[wa "musts" (by decide)]
   dsimp only;rw[if_neg (by decide),if_neg (by decide),if_neg (by decide),if_neg (by decide),if_neg (by decide)]
  have gx:∀{dt:Str->D}{j k:Str}{d:D},j≠k->i6 dt k d j=dt j:=λh=>if_neg h;have A3:∀{dt:Str->D}{k:Str}{d:D},i6 dt k d k=d:=if_pos rfl;refine uJ ?_;refine DZ (E:=⟨E,H⟩) (ax 1) (KS (ax 2).b) zf uo jY (k:="ups") (by decide) ((gx (by decide)).trans acB) (by rw[dV];omega) adO rfl rfl λaoQ rS HN ajb=>?_
  refine uJ ?_;refine DZ (E:=⟨E,H⟩) (ax 1) (gc Po (ax 3).b) HN ajb jY (k:="told") (by decide) ((gx (by decide)).trans ((gx (by decide)).trans acz)) (by rw[dV];omega) rfl rfl rfl λMU qw HO Kc=>?_
  refine uJ ?_;refine DZ (E:=⟨E,H⟩) (ax 1) (ax 5) HO Kc jY (k:="lets") (by decide) ((gx (by decide)).trans ((gx (by decide)).trans ((gx (by decide)).trans aci))) (by rw[dV];omega) (ε':=i7 M x ups none (G (.aK [])) dQ none none) rfl rfl rfl λaoP tn HM ai9=>?_
  have cZ:(Tab.dd (bO M) ups).length<=24:=v5 R.good R.ok.c_ aD;have adW:aI tN (c4 (bS qC 2 4) (az (J 0) (az (J 2) aU))) (iQ (az (J 1) aU)) (i7 M x ups none (G (.aK [])) dQ none none)= .ok (av (Tab.dd (bO M) ups++[x])) (i7 M x ups none (G (.aK [])) dQ none none):=by
   have ag:c4 (bS qC 2 4) (az (J 0) (az (J 2) aU)) (i7 M x ups none (G (.aK [])) dQ none none)= .ok (av (Tab.dd (bO M) ups)) (i7 M x ups none (G (.aK [])) dQ none none):=by
    show(match bS qC 2 4 [a_ M,av ups]with | .ok d=>aJ.ok d (i7 M x ups none (G (.aK [])) dQ none none) | _=>.no)=_
    rw[PK M R.ok ups aD R.toqy.fl (by omega)]
   refine f9 ag (b:=.lst [.str x]) (bD:=i7 M x ups none (G (.aK [])) dQ none none) rfl ?_;show(n9 ((Tab.dd (bO M) ups).map D.str++[.str x])).map D.lst=_;unfold n9;rw[if_pos (by rw[oc,dV];show _+1<=1000;omega)]
   unfold av;rw[og];rfl
  refine uJ ?_;refine DZ (E:=⟨E,H⟩) (ax 1) (e0 Tx (gb (a8 (ax 0) (a8 (ax 2) b1))) (m6 (a8 (ax 1) b1)).b) HM ai9 jY (k:="far") (by decide) ((gx (by decide)).trans ((gx (by decide)).trans ((gx (by decide)).trans ((gx (by decide)).trans CV)))) (by rw[dV];omega) adW rfl rfl λaqY apM adP ai_=>?_
  refine(jz (E:=⟨E,H⟩) (ro:=[4]) (g6 (ax 3)) (Dn (sh (cG (i:=7)) (sh (cG (i:=8)) Dm))) uM).seq adP (ε':=i7 M x ups none (G (.aK [])) dQ none none) rfl λaoL aqZ apN Cv=>?_;have S8:=ai_.step Cv.step;have amw:aoL[4]? =some (some (.ref a)):=(Cv.ro 4 (by simp)).trans jY
  refine⟨.ref a,amw,q _ _ ?_ ?_⟩
  ·have s:=s1.trans S8.st;exact⟨λb o cm aR=>by
    by_cases z:U b
    ·rw[s.same b z cm];exact aR
    ·exact(s.keep b o (by rw[an9];exact z) aR).2,s.c8,Cv.env.bB⟩
  ·have Lc:=(S8.rep Cv.env).mono (gE λb z=>.inl z);have aib:=EC av M.ups x (cI (bN ups)) (by rw[R.ue];exact ah)
   have aia:=EC iC M.told x [] (by rw[R.kt];exact ah)
   have ah':=EC iC M.lets x [] (by rw[R.wo];exact ah)
   have ah_:=EC av M.ai x (Tab.dd (bO M) ups++[x]) (by rw[R.iy];exact ah)
   generalize tZ:i6 (i6 (i6 (i6 (i6 dt "order" _) "ups" _) "told" _) "lets" _) "far" _=lb at Lc;have Df:lb "order"=av (M.order++[x]):=by
    rw[<- tZ,gx (by decide),gx (by decide),gx (by decide),gx (by decide),A3]
    unfold av;rw[og];rfl
   have cY:lb "ups"= .aK ((M.next x ups).ups.map λp=>(.inr p.1,av p.2)):=by
    rw[<- tZ,gx (by decide),gx (by decide),gx (by decide),A3,aib]
    rfl
   have dC:lb "told"= .aK ((M.next x ups).told.map λp=>(.inr p.1,iC p.2)):=by
    rw[<- tZ,gx (by decide),gx (by decide),A3]
    exact congrArg D.aK aia
   have eX:lb "lets"= .aK ((M.next x ups).lets.map λp=>(.inr p.1,iC p.2)):=by
    rw[<- tZ,gx (by decide),A3]
    exact congrArg D.aK ah'
   have gR:lb "far"= .aK ((M.next x ups).ai.map λp=>(.inr p.1,av p.2)):=by
    rw[<- tZ,A3,ah_];rfl
   have eY:lb "home"=iC M.home:=by
    rw[<- tZ,gx (by decide),gx (by decide),gx (by decide),gx (by decide),gx (by decide),acb]
    rfl
   have qL:lb "musts"= .aK []:=by
    rw[<- tZ,gx (by decide),gx (by decide),gx (by decide),gx (by decide),gx (by decide),acr]
   have:((rI "order"::As).map λk=>((.inr k:bM),lb k))=[(.inr "order",lb "order"),(.inr "ups",lb "ups"),(.inr "told",lb "told"),(.inr "lets",lb "lets"),(.inr "far",lb "far"),(.inr "home",lb "home"),(.inr "musts",lb "musts")]:=rfl;rw[this,Df,cY,dC,eX,gR,eY,qL]at Lc;exact Lc
end
end gB
namespace bu
open PySem
def cP.inv:∀{vs:List V}{ds:List D},cP H vs ds->(match ds with
 | []=>vs=[]
 | d::ds=>∃v w,vs=v::w/\cn H v d/\cP H w ds)
 | _,_,.nil=>rfl
 | _,_,.cons a b=>⟨_,_,rfl,a,b⟩
def jL.inv:∀{vs:List (Str×V)}{ds:List (Str×D)},jL H vs ds->(match ds with
 | []=>vs=[]
 | d::ds=>∃v w,vs=(d.1,v)::w/\cn H v d.2/\jL H w ds)
 | _,_,.nil=>rfl
 | _,_,.cons a b=>⟨_,_,rfl,a,b⟩
def cn.inv:∀{v:V}{d:D},cn H v d->(match d with
 | .int i=>v= .int i
 | .str i=>v= .str i
 | .lst ds=>∃a vs,v= .ref a/\H a=some (.lst vs)/\cP H vs ds
 | .aK ds=>∃a vs,v= .ref a/\ec H a (.a7 vs)/\dS H vs ds
 | _=>True)
 | _,_,.bb=>trivial
 | _,_,.aG b=>trivial
 | _,_,.int i=>rfl
 | _,_,.str x=>rfl
 | _,_,.ty n=>trivial
 | _,_,.lst h r=>⟨_,_,rfl,h,r⟩
 | _,_,.tup h r=>trivial
 | _,_,.aK h r=>⟨_,_,rfl,h,r⟩
 | _,_,.ins h r=>trivial
def L6{t u:d8}{H:ak}(h:∀cK:d8,cK=u->e1 t cK Y σ H):e1 t u Y σ H:=h u rfl
def mh{cK t u:d8}{H:ak}(e:cK=e1 t u)(h:∀cK:d8,cK=u->e1 t cK Y σ H):cK Y σ H:=e▸h u rfl
def fe.swap{L:List (O×dB)}{a b:O×dB}(g:fe H0 H M (a::b::L)):fe H0 H M (b::a::L):=
 have dM:(b::a::L).Perm (a::b::L):=.swap a b L
 ⟨g.fr,⟨λe he=>g.hold.lA e (dM.mem_iff.mp he),(dM.map _).nodup_iff.mpr g.hold.a4⟩,λe he=>g.src e (dM.mem_iff.mp he),λa af=>(dM.map _).mem_iff.mpr (g.mem a af)⟩
def fe.anR{L:List (O×dB)}{a b c:O×dB}(g:fe H0 H M (a::b::c::L)):fe H0 H M (c::a::b::L):=
 have dM:(c::a::b::L).Perm (a::b::c::L):=(Wt a c _).trans (.cons a (.swap b c L))
 ⟨g.fr,⟨λe he=>g.hold.lA e (dM.mem_iff.mp he),(dM.map _).nodup_iff.mpr g.hold.a4⟩,λe he=>g.src e (dM.mem_iff.mp he),λa af=>(dM.map _).mem_iff.mpr (g.mem a af)⟩
def fe.jS{p:O}{o u:dB}{R:List (O×dB)}(g:fe H0 H [p] ((p,o)::R))(i:Nat){a:O}(e:R[i]? =some (a,u)):H0 a=none:=
 g.isNew (i+1) e (by simpa using g.ne (i+1) 0 e rfl (Nat.succ_ne_zero i))
def Mi{K:b5}{Y:Ends}{σ:St}{R:List (O×dB)}{p C dx:O}{t:TE}(g:fe H0 H M ((p,.ins C dx fs)::R))(bE:σ[0]? =some (some (.ref p)))(cl:jG K C)(eg:fv K C f)(c_:fs.length < 1000)
  (oP:O->List (Str×V))(e:∀x,ie f (.ref x) fs=oP x)(cj:∀Q:c3,(∀x,H x=none->Q (.ref x) (a1 H x o))->t σ H Q)(k:∀x H3,fe H0 H3 M ((p,.ins C dx (oP x))::(x,o)::R)->Y.nx σ H3):EJ K (dP 0) t f Y σ H:=
 cj _ λx nx=>⟨_,bE,p,C,dx,fs,rfl,(g.new nx).at_ 1 rfl,cl,eg,c_,by rw[e x];exact k x _ ((g.new nx).put 1 rfl).swap⟩
def sW{K:b5}{σ:St}{R:List (O×dB)}{p C dx:O}{t:TE}{r:d8}(g:fe H0 H M ((p,.ins C dx fs)::R))(bE:σ[0]? =some (some (.ref p)))(cl:jG K C)(eg:fv K C f)(c_:fs.length < 1000)
  (oP:O->List (Str×V))(e:∀x,ie f (.ref x) fs=oP x)(cj:∀Q:c3,(∀x,H x=none->Q (.ref x) (a1 H x o))->t σ H Q)(k:∀x H3,fe H0 H3 M ((p,.ins C dx (oP x))::(x,o)::R)->r Y σ H3):e1 (EJ K (dP 0) t f) r Y σ H:=Mi (Y:={Y with nx:=r Y}) g bE cl eg c_ oP e cj k
def EX{K:b5}{σ:St}{R:List (O×dB)}{p C dx:O}{o:O->dB}{u:dB}{t:TE}{r:d8}(_:fe H0 H M ((p,.ins C dx fs)::R))(bE:σ[0]? =some (some (.ref p)))(cl:jG K C)(eg:fv K C f)(c_:fs.length < 1000)
  (oP:O->List (Str×V))(e:∀x,ie f (.ref x) fs=oP x)(cj:∀Q:c3,(∀x y H3,fe H0 H3 M ((x,o y)::(y,u)::(p,.ins C dx fs)::R)->Q (.ref x) H3)->t σ H Q)
  (k:∀x y H3,fe H0 H3 M ((p,.ins C dx (oP x))::(x,o y)::(y,u)::R)->r Y σ H3):e1 (EJ K (dP 0) t f) r Y σ H:=
 cj _ λx y H1 g=>⟨_,bE,p,C,dx,fs,rfl,g.at_ 2 rfl,cl,eg,c_,by
  rw[e x];exact k x y _ (g.put 2 rfl).anR⟩
def vP{K:b5}{σ:St}{H:ak}{j:Nat}{kvs:List (bM×V)}(h1:σ[j]? =some (some (.ref q)))(a9:H q=some (.ins C dx fs))(cl:jG K C)(eg:fv K C f)(ar:fs.lookup f=some (.ref a))(r:ec H a (.a7 kvs))(Q:c3)(k:∀x,H x=none->Q (.ref x) (a1 H x (.a7 kvs))):
  kp (λxs H Q=>∃(p:O)(kvs:List (bM×V)),xs=[.ref p]/\ec H p (.a7 kvs)/\∀l,H l=none->Q (.ref l) (a1 H l (.a7 kvs))) (gd (E3 K (dP j) f) gy) σ H Q:=⟨_,h1,q,C,dx,fs,_,rfl,a9,cl,eg,ar,a,kvs,rfl,r,k⟩
def aiI{K:b5}{σ:St}{H:ak}{j:Nat}{ys:List V}(h1:σ[j]? =some (some (.ref q)))(a9:H q=some (.ins C dx fs))(cl:jG K C)(eg:fv K C f)(ar:fs.lookup f=some (.ref a))(r:H a=some (.lst ys))(Q:c3)(k:∀x,H x=none->Q (.ref x) (a1 H x (.lst ys))):
  kp (λxs H Q=>∃p ys,xs=[.ref p]/\(cS K H p ys∨gL K H p ys)/\∀l,H l=none->Q (.ref l) (a1 H l (.lst ys))) (gd (E3 K (dP j) f) gy) σ H Q:=⟨_,h1,q,C,dx,fs,_,rfl,a9,cl,eg,ar,a,ys,rfl,.inl (cS.of r),k⟩
def L7{cK t:d8}{H:ak}(e:cK=t)(h:t Y σ H):cK Y σ H:=e▸h
structure d4 where
 dx:O
 gm:O
 gn:O
 gp:O
 gO:O
 gN:O
 iM:O
 iL:O
 xs:List V
 kS:List (bM×V)
 nV:List (bM×V)
 nW:List (bM×V)
 mU:List (bM×V)
 wk:List (bM×V)
 wj:List (bM×V)
def iy(gm gn gp gO gN iM iL:O):List (Str×V):=
 [("order",.ref gm),("straight",.ref gn),("upward",.ref gp),("own",.ref gO),("lets",.ref gN),("homes",.ref iM),("bound",.ref iL)]
def ud:(iy a b c d e f g).length < 1000:=by show 7 < 1000;decide
def d4.ents(d:d4)(C p:O):List (O×dB):=
 [(p,.ins C d.dx (iy d.gm d.gn d.gp d.gO d.gN d.iM d.iL)),(d.gm,.lst d.xs),(d.gn,.a7 d.kS),(d.gp,.a7 d.nV),(d.gO,.a7 d.nW),(d.gN,.a7 d.mU),(d.iM,.a7 d.wk),(d.iL,.a7 d.wj)]
def d4.new(d:d4):List O:=[d.gm,d.gn,d.gp,d.gO,d.gN,d.iM,d.iL]
abbrev rT(C:O)(H:ak)(p:O)(d:d4):Prop:=kD H (d.ents C p)
def amb{H H2:ak}{p a:O}{o:dB}(k:∀b o,H b=some o->b∉[p]->H2 b=some o)(h:ec H a o)(n:a≠p):ec H2 a o:=by
 rcases h with h | ⟨b,h⟩
 ·exact .inl (k _ _ h (by simpa using n))
 ·exact .inr ⟨b,k _ _ h (by simpa using n)⟩
def amc{H:ak}{p a C dx:O}{fs:List (Str×V)}(aB:H p=some (.ins C dx fs))(h:ec H a o)(n:∀C dx fs,o≠ .ins C dx fs):a≠p:=by
 rintro rfl;rcases h with h | ⟨b,h⟩
 ·rw[aB]at h;cases h;exact n _ _ _ rfl
 ·rw[aB]at h;cases h
structure tr(C:O)(H:ak)(q:O)(d:d4):Prop where
 obj:H q=some (.ins C d.dx (iy d.gm d.gn d.gp d.gO d.gN d.iM d.iL))
 o:H d.gm=some (.lst d.xs)
 s:ec H d.gn (.a7 d.kS)
 u:ec H d.gp (.a7 d.nV)
 w:ec H d.gO (.a7 d.nW)
 l:ec H d.gN (.a7 d.mU)
 h:ec H d.iM (.a7 d.wk)
 b:ec H d.iL (.a7 d.wj)
def d4.wu(d e:d4):Prop:=d.xs=e.xs/\d.kS=e.kS/\d.nV=e.nV/\d.nW=e.nW/\d.mU=e.mU/\d.wk=e.wk/\d.wj=e.wj
end bu
namespace gB
open PySem bu
section
variable[bk]{P:dn}{w:cH}{K:b5}{mg:Str->Option aj}{base:cg}
abbrev JK:cc:=fx (c6 42) 0
abbrev JN:cc:=fx (c6 42) 27
abbrev JM:cc:=fx (c6 42) 28
def Mg(C:O):e4:=λvs H Q _=>∃(p q dx o1 s1 qa n' ic h1 dI:O)(d:d4),vs=[.ref p,.ref q]/\H p=some (.ins C dx (iy o1 s1 qa n' ic h1 dI))/\tr C H q d/\p≠q/\
 ∀(d':d4)(H':ak),rT C H' p d'->d'.dx=dx->d'.wu d->(∀b o,H b=some o->b∉[p]->H' b=some o)->(∀a∈d'.new,H a=none)->Q .bb H'
def amL:cX ["self","other"] ["self","other"] (bY JM):=by ac_rfl
def akR(F:bT K "take_over" "Kinds.take_over" JM f aE)(cF:hK K C)(T:el mg):aY P w K mg base bq 1 f aE ["self","other"] (Mg C):=by
 refine F.ok amL (λvs H Q E h=>?_) (λbA A a3 s H vs Q E aA h=>?_)
 ·obtain⟨p,q,dx,o1,s1,qa,n',ic,h1,dI,d,rfl,_⟩:=h;rfl
 ·obtain⟨p,q,dx,o1,s1,qa,n',ic,h1,dI,d,rfl,aB,D,Kk,k⟩:=h;refine⟨_,a6 (mc (ae 0) (je vJ (by rfl) T.list PyProof.Rows.Boot.«list» (ay (fT (ae 1) rfl) aV)) rfl)
   (a6 (mc (ae 0) (je r3 (by rfl) T.dict PyProof.Rows.Boot.«dict» (ay (fT (ae 1) rfl) aV)) rfl)
   (a6 (mc (ae 0) (je r3 (by rfl) T.dict PyProof.Rows.Boot.«dict» (ay (fT (ae 1) rfl) aV)) rfl)
   (a6 (mc (ae 0) (je r3 (by rfl) T.dict PyProof.Rows.Boot.«dict» (ay (fT (ae 1) rfl) aV)) rfl)
   (a6 (mc (ae 0) (je r3 (by rfl) T.dict PyProof.Rows.Boot.«dict» (ay (fT (ae 1) rfl) aV)) rfl)
   (a6 (mc (ae 0) (je r3 (by rfl) T.dict PyProof.Rows.Boot.«dict» (ay (fT (ae 1) rfl) aV)) rfl)
   (bI (mc (ae 0) (je r3 (by rfl) T.dict PyProof.Rows.Boot.«dict» (ay (fT (ae 1) rfl) aV)) rfl))))))),?_⟩
  have tw:∀{H2:ak},(∀b o,H b=some o->b∉[p]->H2 b=some o)->H2 q=some (.ins C d.dx (iy d.gm d.gn d.gp d.gO d.gN d.iM d.iL)):=λev=>ev q _ D.obj (by simpa using Ne.symm Kk)
  have g:=fe.one aB;have hF:∀{H2:ak}{a:O}{kvs:List (bM×V)},(∀b o,H b=some o->b∉[p]->H2 b=some o)->ec H a (.a7 kvs)->ec H2 a (.a7 kvs):=λf r=>amb f r (amc aB r (by intro _ _ _ z;cases z))
  refine sW g rfl cF.cl cF.sC ud (λx=>iy x s1 qa n' ic h1 dI) (λ_=>rfl) (aiI rfl (tw g.fr) cF.cl cF.sC rfl (g.fr _ _ D.o (by simpa using Tb D.o aB (by intro z;cases z)))) λkv H0 g=>?_
  refine sW g rfl cF.cl cF.Ag ud (λx=>iy kv x qa n' ic h1 dI) (λ_=>rfl) (vP rfl (tw g.fr) cF.cl cF.Ag rfl (hF g.fr D.s)) λx1 H1 g=>?_;refine sW g rfl cF.cl cF.m1 ud (λx=>iy kv x1 x n' ic h1 dI) (λ_=>rfl) (vP rfl (tw g.fr) cF.cl cF.m1 rfl (hF g.fr D.u)) λx2 H2 g=>?_;refine sW g rfl cF.cl cF.Af ud (λx=>iy kv x1 x2 x ic h1 dI) (λ_=>rfl) (vP rfl (tw g.fr) cF.cl cF.Af rfl (hF g.fr D.w)) λx3 H3 g=>?_;refine sW g rfl cF.cl cF.Ae ud (λx=>iy kv x1 x2 x3 x h1 dI) (λ_=>rfl) (vP rfl (tw g.fr) cF.cl cF.Ae rfl (hF g.fr D.l)) λx4 H4 g=>?_;refine sW g rfl cF.cl cF.wx ud (λx=>iy kv x1 x2 x3 x4 x dI) (λ_=>rfl) (vP rfl (tw g.fr) cF.cl cF.wx rfl (hF g.fr D.h)) λA1 H5 g=>?_;refine Mi g rfl cF.cl cF.Ad ud (λx=>iy kv x1 x2 x3 x4 A1 x) (λ_=>rfl) (vP rfl (tw g.fr) cF.cl cF.Ad rfl (hF g.fr D.b)) λFl mD g=>?_;refine k ⟨dx,kv,x1,x2,x3,x4,A1,Fl,d.xs,d.kS,d.nV,d.nW,d.mU,d.wk,d.wj⟩ _ (g.hold.pick [0,7,6,5,4,3,2,1] (by decide) rfl) rfl ⟨rfl,rfl,rfl,rfl,rfl,rfl,rfl⟩ g.fr ?_
  intro a af;have af:a∈[kv,x1,x2,x3,x4,A1,Fl]:=af;simp only[dR,xA,or_false]at af;rcases af with rfl | rfl | rfl | rfl | rfl | rfl | rfl
  ·exact g.jS 6 rfl
  ·exact g.jS 5 rfl
  ·exact g.jS 4 rfl
  ·exact g.jS 3 rfl
  ·exact g.jS 2 rfl
  ·exact g.jS 1 rfl
  ·exact g.jS 0 rfl
def gq:Str:="any"
def Ma(C:O):e4:=λvs H Q _=>∃(p dx:O),vs=[.ref p]/\H p=some (.ins C dx [])/\
 ∀(gm gn gp gO gN iM iL t oB ju i2:O)(H':ak),kD H' ((⟨dx,gm,gn,gp,gO,gN,iM,iL,[.str gq],[(.inr gq,.ref t)],[(.inr gq,.ref oB)],[(.inr gq,.ref ju)],[(.inr gq,.ref i2)],[],[]⟩:d4).ents C p++[(t,.tup []),(oB,.a7 [(.inr gq,.aG true)]),(ju,.a7 []),(i2,.a7 [])])->
  (∀b o,H b=some o->b∉[p]->H' b=some o)->(∀a∈[gm,gn,gp,gO,gN,iM,iL,t,oB,ju,i2],H a=none)->Q .bb H'
def amK:cX ["self"] ["self"] (bY JK):=by ac_rfl
def aky(F:bT K "__init__" "Kinds.__init__" JK f aE)(T:hK K C)(h_:mg "ANY"=some (.str gq tA)):aY P w K mg base bq 1 f aE ["self"] (Ma C):=by
 refine F.ok amK (λvs H Q E h=>?_) (λbA A a3 s H vs Q E aA h=>?_)
 ·obtain⟨p,dx,rfl,_⟩:=h;rfl
 ·obtain⟨p,dx,rfl,aB,k⟩:=h;refine⟨_,a6 (mc (ae 0) (kU (ay (q7 (by rfl) h_ (v:=.str gq) ⟨_,rfl⟩) aV)) rfl)
   (a6 (mc (ae 0) (sJ (sM (q7 (by rfl) h_ (v:=.str gq) ⟨_,rfl⟩) (iA aV) sN) rfl rfl (by simp) (by decide)) rfl)
   (a6 (mc (ae 0) (sJ (sM (q7 (by rfl) h_ (v:=.str gq) ⟨_,rfl⟩) (sJ (sM (q7 (by rfl) h_ (v:=.str gq) ⟨_,rfl⟩) wG sN) rfl rfl (by simp) (by decide)) sN) rfl rfl (by simp) (by decide)) rfl)
   (a6 (mc (ae 0) (sJ (sM (q7 (by rfl) h_ (v:=.str gq) ⟨_,rfl⟩) n2 sN) rfl rfl (by simp) (by decide)) rfl)
   (a6 (mc (ae 0) (sJ (sM (q7 (by rfl) h_ (v:=.str gq) ⟨_,rfl⟩) n2 sN) rfl rfl (by simp) (by decide)) rfl)
   (a6 (mc (ae 0) n2 rfl)
   (bI (mc (ae 0) n2 rfl))))))),?_⟩
  have g:=fe.one aB;refine sW g rfl T.cl T.sC (by decide) (λx=>[("order",.ref x)]) (λ_=>rfl) (λQ k=>⟨by decide,k⟩) λgm H1 g=>?_
  refine EX (o:=λy=>.a7 [(.inr gq,.ref y)]) (u:=.tup []) g rfl T.cl T.Ag (xE rfl) (λx=>[("order",.ref gm),("straight",.ref x)]) (λ_=>rfl) (λQ k=>?_) λgn t H2 g=>?_
  ·intro x ah;refine⟨by decide,λy b2=>?_⟩
   exact⟨(g.new ah |>.new b2).at_ 1 rfl,[(.inr gq,.ref y)],rfl,(by decide:1<=15),k _ _ _ ((g.new ah |>.new b2).put 1 rfl).swap⟩
  refine EX (o:=λy=>.a7 [(.inr gq,.ref y)]) (u:=.a7 [(.inr gq,.aG true)]) g rfl T.cl T.m1 (xE rfl) (λx=>[("order",.ref gm),("straight",.ref gn),("upward",.ref x)]) (λ_=>rfl) (λQ k=>?_) λgp oB H3 g=>?_
  ·intro x ah y b2;have g:=g.new (o:=.a7 []) ah |>.new (o:=.a7 []) b2
   refine⟨g.at_ 0 rfl,[(.inr gq,.aG true)],rfl,(by decide:1<=15),?_⟩
   have g:=g.put 0 (o':=.a7 [(.inr gq,.aG true)]) rfl;exact⟨g.at_ 1 rfl,[(.inr gq,.ref y)],rfl,(by decide:1<=15),k _ _ _ (g.put 1 rfl).swap⟩
  refine EX (o:=λy=>.a7 [(.inr gq,.ref y)]) (u:=.a7 []) g rfl T.cl T.Af (xE rfl) (λx=>[("order",.ref gm),("straight",.ref gn),("upward",.ref gp),("own",.ref x)]) (λ_=>rfl) (λQ k=>?_) λgO ju H4 g=>?_
  ·intro x ah y b2;exact⟨(g.new ah |>.new b2).at_ 1 rfl,[(.inr gq,.ref y)],rfl,(by decide:1<=15),k _ _ _ ((g.new ah |>.new b2).put 1 rfl).swap⟩
  refine EX (o:=λy=>.a7 [(.inr gq,.ref y)]) (u:=.a7 []) g rfl T.cl T.Ae (xE rfl) (λx=>[("order",.ref gm),("straight",.ref gn),("upward",.ref gp),("own",.ref gO),("lets",.ref x)]) (λ_=>rfl) (λQ k=>?_) λgN i2 H5 g=>?_
  ·intro x ah y b2;exact⟨(g.new ah |>.new b2).at_ 1 rfl,[(.inr gq,.ref y)],rfl,(by decide:1<=15),k _ _ _ ((g.new ah |>.new b2).put 1 rfl).swap⟩
  refine sW g rfl T.cl T.wx (xE rfl) (λx=>[("order",.ref gm),("straight",.ref gn),("upward",.ref gp),("own",.ref gO),("lets",.ref gN),("homes",.ref x)]) (λ_=>rfl) (λQ k=>k) λiM mD g=>?_;refine Mi g rfl T.cl T.Ad (xE rfl) (λx=>iy gm gn gp gO gN iM x) (λ_=>rfl) (λQ k=>k) λiL hg g=>?_;refine k gm gn gp gO gN iM iL t oB ju i2 _ (g.hold.pick [0,11,9,7,5,3,2,1,10,8,6,4] (by decide) rfl) g.fr ?_
  intro a af;simp only[dR,xA,or_false]at af;rcases af with rfl | rfl | rfl | rfl | rfl | rfl | rfl | rfl | rfl | rfl | rfl
  ·exact g.jS 10 rfl
  ·exact g.jS 8 rfl
  ·exact g.jS 6 rfl
  ·exact g.jS 4 rfl
  ·exact g.jS 2 rfl
  ·exact g.jS 1 rfl
  ·exact g.jS 0 rfl
  ·exact g.jS 9 rfl
  ·exact g.jS 7 rfl
  ·exact g.jS 5 rfl
  ·exact g.jS 3 rfl
def U_(C:O):e4:=λvs H Q _=>∃(q:O)(d:d4),vs=[.ref q]/\tr C H q d/\
 ∀(p:O)(d':d4)(H':ak),H p=none->rT C H' p d'->d'.wu d->mG H H'->(∀a∈d'.new,H a=none)->Q (.ref p) H'
def US:cX ["self","new"] ["self"] (bY JN):=by ac_rfl
def _root_.bu.tr.same(D:tr C H q d)(s:mG H H'):tr C H' q d:=by
 have r:∀{a o},ec H a o->ec H' a o:=λh=>h.imp (s _ _) λ⟨b,z⟩=>⟨b,s _ _ z⟩;exact⟨s _ _ D.obj,s _ _ D.o,r D.s,r D.u,r D.w,r D.l,r D.h,r D.b⟩
def akT{f C h6 eW:O}{aE Q0 hy:f4}(F:bT K "twin" "Kinds.twin" JN f aE)(T:hK K C)(M:Cm K C h6)(Ka:mg "Kinds"=some (.ref C))(Zc:aY P w K mg base bq 1 h6 Q0 ["self"] (Ma C))(aaJ:Binds K Q0 ["self"] [])
  (iH:aY P w K mg base bq 1 eW hy ["self","other"] (Mg C))(Hi:Binds K hy ["self","other"] [])(J8:eO K C "take_over" eW):aY P w K mg base bq 3 f aE ["self"] (U_ C):=by
 refine F.ok US (λvs H Q E h=>?_) (λbA A a3 s H vs Q E aA h=>?_)
 ·obtain⟨q,d,rfl,_⟩:=h;rfl
 ·obtain⟨q,d,rfl,D,k⟩:=h;refine⟨_,a6 (du (i:=1) US.a4 rfl (bF rfl) (T2 M Zc aA.m (by rfl) Ka aaJ .nil er))
   (a6 (fU (gS (ae 1) T.cl J8 iH aA.m Hi .nil er (ay (ae 0) aV)))
   (bI (dr (ae 1)))),?_⟩
  intro x dx nx Ke ajq;refine⟨x,dx,rfl,cw,λgm gn gp gO gN iM iL t oB ju i2 H1 yb cD _=>⟨rfl,?_⟩⟩;have hR:mG H (a1 (a1 H dx (.own x)) x (.ins C dx [])):=λb o e=>by
   rw[bj (eK e nx),bj (eK e Ke)];exact e
  have s1:mG H H1:=λb o e=>cD b o (hR b o e) (by simpa using eK e nx)
  have Y1:tr C H1 q d:=D.same s1;refine⟨_,rfl,x,dx,_,rfl,yb.at_ 0 rfl,rfl,_,rfl,?_⟩;refine⟨x,q,dx,_,_,_,_,_,_,_,d,rfl,yb.at_ 0 rfl,Y1,(eK D.obj nx).symm,λd' H' YZ _ lk aim new=>?_⟩;refine⟨_,rfl,?_⟩;exact k x d' H' nx YZ lk (λb o e=>aim b o (s1 b o e) (by simpa using eK e nx)) λa af=>s1.free (new a af)
end
end gB
namespace bu
open PySem PySem.Spec PyProof.Rows
variable[bk]
def Mb(F:List D->b'):e4:=λvs H Q _=>∃(U:O->Prop)(ds:List D)(d:D),cP (cut U H) vs ds/\(∀a,U a->H a≠none)/\(∀a,bk.v a->U a)/\bk.i H/\F ds= .ok d/\
 ∀l H',H l=none->fO H H'->eI U H' (.ref l) d [l]->Q (.ref l) H'
def TP(i:Nat):Out->b'
 | .nx ε=>match ε[i]? with
  | some (some (true,d))=>.ok d
  | _=>.no
 | _=>.no
def tH(β:aq->Out)(i np n:Nat):List D->b':=λds=>if ds.length=np then TP i (β (eR n ds))else .no
def xc:a5 U (λ_=>[])=U:=by
 funext a;exact propext ⟨λh=>h.elim id λ⟨i,z⟩=>(by cases z),.inl⟩
def Step.amG(s:Step U (λ_=>[]) H aO H')(bB:bk.i H'):fO H H':=⟨λa o cm aR=>by
 by_cases z:U a
 ·rw[s.same a z cm];exact aR
 ·exact(s.keep a o (by rw[xc];exact z) aR).2,s.c8,bB⟩
def aaW{E:eP}{H:ak}{N ps:List Str}{i:Nat}(ab:fh ⟨E,H⟩ ro u β)(h:Mb (tH β i ps.length N.length) vs H Q E):e1 u (w8 (dP i)) {nx:=λ_ H'=>Q .bb H',ey:=Q} (start N vs) H:=by
 obtain⟨U,ds,d,r,al,bm,bB,cZ,q⟩:=h;have eu:=C2 (N:=N) r al bm bB;unfold tH at cZ;by_cases ar:ds.length=ps.length
 ·rw[if_pos ar]at cZ;refine ab U (λ_=>[]) H _ _ _ eu ?_;cases eZ:β (eR N.length ds)with
  | nx ε=>
   rw[eZ]at cZ;unfold TP at cZ;dsimp only at cZ;split at cZ
   ·rename_i d' zW;cases cZ;intro σ' aO H' a;obtain⟨l,h1,h2,aN⟩:=a.env.sI zW;have ba:H l=none:=by
     cases ah:H l with
     | none=>rfl
     | some o=>
      exfalso;by_cases z:U l
      ·exact a.env.ee i l (by rw[h2];simp) z
      ·exact(a.step.keep l o (by rw[xc];exact z) ah).1 (.inr ⟨i,by rw[h2];simp⟩)
    exact⟨.ref l,h1,q l H' ba (a.step.amG a.env.bB) (aN.mono (gE λx z=>.inl z) λ_ _=>rfl)⟩
   ·cases cZ
  | no=>rw[eZ]at cZ;cases cZ
  | f7 ε=>rw[eZ]at cZ;cases cZ
  | ct ε=>rw[eZ]at cZ;cases cZ
  | ey d ε=>rw[eZ]at cZ;cases cZ
  | cp C fs=>rw[eZ]at cZ;cases cZ
 ·rw[if_neg ar]at cZ;cases cZ
def acK{i np n:Nat}(h:tH β i np n ds= .ok d):ds.length=np:=by
 unfold tH at h;by_cases ar:ds.length=np
 ·exact ar
 ·rw[if_neg ar]at h;cases h
end bu
namespace bu
open PySem
variable[bk]
def acN(b7:Tab.Good ns ai)(c_:ns.length<=24){ups:List Str}(aD:∀u∈ups,u∈ns):
  tH (bK (ko (aT (.aK [])) 2) (fa (di d2 (J 1)) (bo 3) (n7 2 (aI bw (bg (e8 C "upward") (J 0)) (J 3))))) 2 2 4 [bG C ns ai str,av ups]= .ok (dk (Tab.dd ai ups)):=by
 obtain⟨ε',ag,v,rfl⟩:=qX (γ:=bo 3) (β:=n7 2 (aI bw (bg (e8 C "upward") (J 0)) (J 3))) D.str
  (λpre ε=>∃v,ε=[G (bG C ns ai str),G (av ups),some (true,dk (Tab.dd ai pre)),v]) ups [G (bG C ns ai str),G (av ups),some (true,dk []),none] ⟨none,rfl⟩ (by
   rintro pre u hs ε e ⟨v,rfl⟩;refine⟨[G (bG C ns ai str),G (av ups),some (true,dk (Tab.dd ai pre)),G (.str u)],rfl,?_⟩;have t9:u∈ns:=aD u (by rw[e];simp)
   have Jq:∀x∈pre,x∈ns:=λx ah=>aD x (by rw[e];simp[ah])
   refine⟨_,.inl (VK (acc:=Tab.dd ai pre) (l:=ai u) rfl ?_ (by have:=v5 b7 c_ Jq;have:=IA b7 c_ t9;omega) (b7.sd u t9)),G (.str u),?_⟩
   ·simp only[aI,bg,J,gg,hU,aJ.bind,uO,dv,AV ai t9]
   ·unfold Tab.dd;rw[Nc];rfl)
 unfold tH;rw[if_pos (show [bG C ns ai str,av ups].length=2 from rfl),show eR 4 [bG C ns ai str,av ups]=[G (bG C ns ai str),G (av ups),none,none]from rfl]
 rw[c5 (β:=ko (aT (D.aK [])) 2) (aC:=[G (bG C ns ai str),G (av ups),some (true,dk []),none]) rfl];have s2:fa (di d2 (J 1)) (bo 3) (n7 2 (aI bw (bg (e8 C "upward") (J 0)) (J 3))) [G (bG C ns ai str),G (av ups),some (true,dk []),none]=_:=ag;rw[s2];rfl
structure nB(dW:ak)(d:d4)(M:Md):Prop where
 o:cP dW d.xs (M.order.map .str)
 s:dS dW d.kS (M.order.map λk=>(.inr k,.tup ((jZ M k).map .str)))
 u:dS dW d.nV (M.order.map λk=>(.inr k,dk (bO M k)))
 w:dS dW d.nW (M.order.map λk=>(.inr k,.aK []))
 l:dS dW d.mU (M.order.map λk=>(.inr k,.aK []))
 h:d.wk=[]
 b:d.wj=[]
def nB.mono(r:nB H d M)(le:fu H H'):nB H' d M:=⟨r.o.mono le,r.s.mono le,r.u.mono le,r.w.mono le,r.l.mono le,r.h,r.b⟩
def bL(C:O)(M:Md):D:=bG C M.order (bO M) (jZ M)
def nB.rep{d:d4}{U V:O->Prop}(r:nB (cut V H) d M)(D:rT C H p d)(agl:∀a,U a->V a)(np:¬U p)(q2:∀a∈d.new,¬U a):cn (cut U H) (.ref p) (bL C M):=by
 have dA:=r.mono (gE agl);have n:∀{a},a∈d.new->¬U a:=λh=>q2 _ h;have bE:=dA.h;have h1:=dA.b;refine .ins (cB.mpr ⟨np,D.at_ 0 rfl⟩) ?_;refine .cons (.lst (cB.mpr ⟨n (by simp[d4.new]),D.at_ 1 rfl⟩) dA.o) ?_
 refine .cons (.aK (.inl (cB.mpr ⟨n (by simp[d4.new]),D.at_ 2 rfl⟩)) dA.s) ?_
 refine .cons (.aK (.inl (cB.mpr ⟨n (by simp[d4.new]),D.at_ 3 rfl⟩)) dA.u) ?_
 refine .cons (.aK (.inl (cB.mpr ⟨n (by simp[d4.new]),D.at_ 4 rfl⟩)) dA.w) ?_
 refine .cons (.aK (.inl (cB.mpr ⟨n (by simp[d4.new]),D.at_ 5 rfl⟩)) dA.l) ?_
 refine .cons (.aK (.inl (cB.mpr ⟨n (by simp[d4.new]),D.at_ 6 rfl⟩)) (by rw[bE];exact .nil)) ?_
 refine .cons (.aK (.inl (cB.mpr ⟨n (by simp[d4.new]),D.at_ 7 rfl⟩)) (by rw[h1];exact .nil)) .nil
def UG:∀{l:List Str}{kvs:List (bM×V)},dS H kvs (l.map λx=>(.inr x,.aG true))->kvs=l.map λx=>(.inr x,.aG true)
 | [],_,h=>by cases h;rfl
 | x::l,_,.cons a r=>by
  rw[UG r];cases a;rfl
def AA{ns:List Str}{g:Str->D}{x:Str}(r:dS dW kvs (ns.map λk=>(.inr k,g k)))(cf:cn dW v d)(ah:x∉ns){g':Str->D}(bl:∀k∈ns,g' k=g k)(hd:g' x=d):dS dW (et kvs (.inr x) v) ((ns++[x]).map λk=>(.inr k,g' k)):=by
 have h1:=r.put (k:=.inr x) cf;have h2:md (ns.map λk=>((.inr k:bM),g k)) (.inr x) d=(ns++[x]).map λk=>(.inr k,g' k):=by
  unfold md;rw[if_neg,og]
  ·congr 1
   ·apply Nh;intro k aw;rw[bl k aw]
   ·simp[hd]
  ·intro z;obtain⟨q,h1,h2⟩:=uX.mp z;obtain⟨j,aN,rfl⟩:=fB.mp h1;have:j=x:=by simpa using h2
   exact ah (by rw[<- this];exact aN)
 rw[h2]at h1;exact h1
end bu
namespace gB
open PySem bu
section
variable[bk]{P:dn}{w:cH}{K:b5}{mg:Str->Option aj}{base:cg}
abbrev UQ:cc:=fx (c6 42) 5
def LY:cX ["self","ups","above","up"] ["self","ups"] (bY UQ):=by ac_rfl
abbrev OA(C:O):List D->b':=tH (bK (ko (aT (.aK [])) 2) (fa (di d2 (J 1)) (bo 3) (n7 2 (aI bw (bg (e8 C "upward") (J 0)) (J 3))))) 2 2 4
def ako(cF:hK K C)(F:bT K "above_all" "Kinds.above_all" UQ f aE)(T:el mg):aY P w K mg base bq 1 f aE ["self","ups"] (Mb (OA C)):=by
 refine F.ok LY (λvs H Q E h=>?_) (λbA A a3 s H vs Q E aA h=>?_)
 ·obtain⟨U,ds,d,r,_,_,_,cZ,_⟩:=h;rw[r.length];exact acK cZ
 ·have aD:=ff aA;refine⟨_,(a6 (du (i:=2) LY.a4 rfl (bF rfl) n2)
   (a6 (hn io rfl (g9 (ae 1)) (ew (i:=3) LY.a4 rfl (bF rfl)) (bI (fU (Ep (ae 2) (dh aD (fT (ae 0) rfl) (ae 3) (λ_ _=>rfl)) ⟨rfl,rfl,rfl,rfl⟩))))
   (bI (dr (ae 2))))),?_⟩
  exact aaW (N:=["self","ups","above","up"]) (ps:=["self","ups"]) (i:=2) (cq (ro:=[]) (p9 (i:=2) v7) (jz (g6 (ax 1)) (cG (i:=3)) (E0 (i:=2) (dz (jw cF.cl cF.m1 (ax 0)) (ax 3))))) h
end
end gB
namespace bu
open PySem
variable[bk]
def ir(U:O->Prop)(p:O)(d:d4):O->Prop:=λa=>U a∨a=p∨a∈d.new
def SG{V:O->Prop}{H H':ak}(k:∀a o,¬V a->H a=some o->H' a=some o):fu (cut V H) (cut V H'):=λa o h=>.inl (by
 obtain⟨h1,h2⟩:=cB.mp h;exact cB.mpr ⟨h1,k a o h1 h2⟩)
def P2{T:O->Prop}{H:ak}{σ:St}{ε:aq}(len:σ.length=ε.length)(al:∀a,T a->H a≠none)(pl:∀(i:Nat) b d,ε[i]? =some (some (b,d))->b=false/\∃v,σ[i]? =some (some v)/\cn (cut T H) v d)(c7:∀a,bk.v a->T a)(bB:bk.i H):bh T (λ_=>[]) H σ ε:=by
 refine⟨len,λ_ _ _ h=>(by cases h),λ_ _ h=>(by cases h),λa h=>al a (by rw[xc]at h;exact h),λi d h=>?_,λi d h=>?_,c7,bB⟩
 ·obtain⟨z,_⟩:=pl i _ _ h;cases z
 ·obtain⟨_,v,h1,h2⟩:=pl i _ _ h;exact⟨v,h1,by rw[xc];exact h2⟩
def adx{eS ty gU:TE}{Y:Ends}{H:ak}(h:gU σ H λv H1=>eS σ H1 λx H2=>ty σ H2 λy H3=>∃a H4,x= .ref a/\pv H3 a y v H4/\Y.nx σ H4):uF eS ty gU Y σ H:=h
def UH:∀(l:List Str),dS dW (l.map λx=>(.inr x,.aG true)) (l.map λx=>(.inr x,.aG true))
 | []=>.nil
 | x::l=>.cons (.aG true) (UH l)
def RZ{L:List (O×dB)}(h:kD H L)(s:Step T ω H aO H')(de:∀e∈L,T e.1/\¬bk.v e.1):kD H' L:=⟨λe he=>by rw[s.same _ (de e he).1 (de e he).2];exact h.lA e he,h.a4⟩
def af7{L ym:List (O×dB)}(g:fe H H' M ym)(h:∀b,H' b=none->b∉M):∀b,H' b=none->H b=none:=λb ab=>by
 cases e:H b with
 | none=>rfl
 | some o=>rw[g.fr b o e (h b ab)]at ab;cases ab
end bu
namespace gB
open PySem bu
section
variable[bk]{P:dn}{w:cH}{K:b5}{mg:Str->Option aj}{base:cg}
abbrev JL:cc:=fx (c6 42) 9
abbrev aje:List Str:=["self","name","ups","told","lets","above","room"]
abbrev Ei:List Str:=["self","name","ups","told","lets"]
def LV:cX aje Ei (bY JL):=by ac_rfl
def U7(C:O):e4:=λvs H Q _=>∃(U:O->Prop)(p:O)(gJ c7 nf:V)(nm:Str)(d:d4)(M:Md)(ups:List Str),vs=[.ref p,.str nm,gJ,c7,nf]/\rT C H p d/\¬U p/\(∀a∈d.new,¬U a)/\(∀a,U a->H a≠none)/\(∀a,bk.v a->U a)/\bk.i H/\
 nB (cut (ir U p d) H) d M/\cn (cut (ir U p d) H) gJ (av ups)/\cn (cut (ir U p d) H) c7 (.aK [])/\cn (cut (ir U p d) H) nf (.aK [])/\Run M/\nm∉M.order/\(∀u∈ups,u∈M.order)/\ups≠[]/\ups.length<=4/\
 ∀(d':d4)(H':ak),rT C H' p d'->d'.new=d.new->(∀b o,¬bk.v b->b∉d.new->H b=some o->H' b=some o)->(∀b,H' b=none->H b=none)->bk.i H'->nB (cut (ir U p d) H') d' (M.next nm ups)->Q .bb H'
def akG(F:bT K "place" "Kinds.place" JL f aE)(cF:hK K C)(T:el mg)(Za:aY P w K mg base bq 1 ad' aeK ["self","ups"] (Mb (OA C)))(aaG:Binds K aeK ["self","ups"] [])(mA:eO K C "above_all" ad'):
  aY P w K mg base bq 2 f aE Ei (U7 C):=by
 refine F.ok LV (λvs H Q E h=>?_) (λbA A a3 s H vs Q E aA h=>?_)
 ·obtain⟨U,p,gJ,c7,nf,nm,d,M,ups,rfl,_⟩:=h;rfl
 ·obtain⟨U,p,gJ,c7,nf,nm,d,M,ups,rfl,D,np,q2,al,bm,bB,g7,dO,ey,EI,R,ah,sr,ne,c_,k⟩:=h;have aD:=ff aA;refine⟨_,a6 (du (i:=5) LV.a4 rfl (bF rfl) (gS (ae 0) cF.cl mA Za aA.m aaG .nil er (ay (ae 2) aV)))
   (a6 (n3 aD (ae 5) (ae 1) wG rfl)
   (a6 (fU (En FO FP FQ Ab (fT (ae 0) rfl) (ay (ae 1) aV)))
   (a6 (n3 aD (fT (ae 0) rfl) (ae 1) (je aa1 (by rfl) T.tuple PyProof.Rows.Boot.«tuple» (ay (ea (Ht rfl) (by rfl) T.sorted PyProof.Rows.Boot.«sorted» (ay (je (Hs rfl) (by rfl) T.set PyProof.Rows.Boot.«set» (ay (ae 2) aV)) aV)) aV)) rfl)
   (a6 (n3 aD (fT (ae 0) rfl) (ae 1) (ae 5) rfl)
   (a6 (n3 aD (fT (ae 0) rfl) (ae 1) (ae 3) rfl)
   (a6 (n3 aD (fT (ae 0) rfl) (ae 1) (ae 4) rfl)
   (bI (wM (hn io rfl (uz (ae 3)) (ew (i:=6) LV.a4 rfl (bF rfl)) hQ))))))))),?_⟩
  have RB:∀a,U a->ir U p d a:=λa h=>.inl h;have lo:M.order.length<=24:=R.ok.c_;have z:sizeLine=16777216:=k1;refine L6 λkH fW=>?_;refine⟨_,rfl,p,d.dx,_,rfl,D.at_ 0 rfl,rfl,_,rfl,⟨U,[bL C M,av ups],dk (Tab.dd (bO M) ups),.cons (g7.rep D RB np q2) (.cons (dO.mono (gE RB)) .nil),al,bm,bB,acN R.good lo sr,λl H1 nl s1 o1=>?_⟩⟩;cases o1 with
  | aK ao b4=>
  rename_i kvs;obtain rfl:=UG b4;have aqx:∀a o,¬bk.v a->H a=some o->H1 a=some o:=s1.keep;have pY:¬bk.v p:=λh=>np (bm _ h);have Ak:∀a∈d.new,¬bk.v a:=λa af h=>q2 a af (bm _ h);have yb:rT C H1 p d:=⟨λe he=>s1.keep _ _ (by
   have:e.1∈(d.ents C p).map (·.1):=fB.mpr ⟨e,he,rfl⟩;rcases dR.mp this with h | h
   ·rw[h];exact pY
   ·exact Ak _ h) (D.lA e he),D.a4⟩
  have SD:¬ir U p d l:=λh=>by
   rcases h with h | h | h
   ·exact al l h nl
   ·rw[h,D.at_ 0 rfl]at nl;cases nl
   ·obtain⟨e,he,q⟩:∃e∈d.ents C p,e.1=l:=by
     have:l∈(d.ents C p).map (·.1):=nq _ h;obtain⟨e,he,q⟩:=fB.mp this;exact⟨e,he,q⟩
    have:=D.lA e he;rw[q,nl]at this;cases this
  have Ie:∀e∈(l,dB.a7 ((Tab.dd (bO M) ups).map λx=>(.inr x,.aG true)))::d.ents C p,(ir U p d e.1∨e.1=l)/\¬bk.v e.1:=λe he=>by
   rcases dR.mp he with h | h
   ·subst h;exact⟨.inr rfl,λh=>al _ (bm _ h) nl⟩
   ·have:e.1∈(d.ents C p).map (·.1):=fB.mpr ⟨e,h,rfl⟩;rcases dR.mp this with h | h
    ·exact⟨.inl (.inr (.inl h)),by rw[h];exact pY⟩
    ·exact⟨.inl (.inr (.inr h)),Ak _ h⟩
  have OM:kD H1 ((l,dB.a7 ((Tab.dd (bO M) ups).map λx=>(.inr x,.aG true)))::d.ents C p):=⟨λe he=>by
   rcases dR.mp he with h | h
   ·subst h;exact ao
   ·exact yb.lA e h,by
   rw[fM,nr];exact⟨λh=>SD (.inr (dR.mp h)),yb.a4⟩⟩
  have g:fe H1 H1 (l::p::d.new) _:=OM.start (M:=l::p::d.new) (λa af=>af) λe he=>fB.mpr ⟨e,he,rfl⟩;have cZ:(Tab.dd (bO M) ups).length<=24:=v5 R.good R.ok.c_ sr;refine(mh fW λkH fW=>?_:);refine⟨_,rfl,_,rfl,l,_,rfl,pv.k (k:=hu nm) (g.at_ 0 rfl) (by rw[dV];omega),?_⟩
  have g:=g.put 0 (o':=.a7 (et ((Tab.dd (bO M) ups).map λx=>(.inr x,.aG true)) (.inr nm) (.aG true))) rfl;have aqD:d.xs.length<=24:=by rw[g7.o.length,dV];exact lo
  refine(mh fW λkH fW=>?_:);refine⟨_,rfl,p,C,d.dx,_,_,rfl,g.at_ 1 rfl,cF.cl,cF.sC,rfl,.inl ⟨rfl,_,cS.of (g.at_ 2 rfl)⟩,_,rfl,d.gm,_,_,rfl,rfl,g.at_ 2 rfl,by omega,?_⟩
  have g:=g.put 2 (o':=.lst (d.xs++[.str nm])) rfl;generalize agf:a1 _ d.gm (dB.lst (d.xs++[V.str nm]))=H3 at g ⊢;have Sw:∀a o,¬bk.v a->a∉l::p::d.new->H a=some o->H3 a=some o:=λa o cm na aR=>g.fr a o (s1.keep a o cm aR) na;have PQ:∀b,H3 b=none->H b=none:=λb ab=>s1.c8 b (af7 (L:=[]) g (λb ab bx=>by
   obtain⟨e,he,q⟩:=fB.mp (show b∈((l,dB.a7 ((Tab.dd (bO M) ups).map λx=>(.inr x,.aG true)))::d.ents C p).map (·.1)from bx)
   obtain⟨bQ,t1,q'⟩:=fB.mp (g.mem b bx);have:=g.hold.lA bQ t1;rw[q',ab]at this;cases this) b ab)
  have Ti:∀a,¬ir U p d a->∀o,H a=some o->a∉l::p::d.new:=λa na o aR h=>by
   rcases dR.mp h with h | h
   ·rw[h,nl]at aR;cases aR
   ·exact na (.inr (dR.mp h))
  have JU:fu (cut (ir U p d) H) (cut (λa=>ir U p d a∨a=l) H3):=λa o h=>.inl (by
   obtain⟨h1,h2⟩:=cB.mp h;have aN:=Ti a h1 o h2;exact cB.mpr ⟨λz=>z.elim h1 λz=>aN (by rw[z];simp),Sw a o (λz=>h1 (.inl (bm a z))) aN h2⟩)
  have aoa:bk.i H3:=by
   refine bk.st H1 H3 (λa φ af=>?_) (λa af=>?_) s1.bB
   ·by_cases bx:a∈l::p::d.new
    ·obtain⟨e,he,q⟩:=fB.mp (show a∈((l,dB.a7 ((Tab.dd (bO M) ups).map λx=>(.inr x,.aG true)))::d.ents C p).map (·.1)from bx)
     have:=OM.lA e he;rw[q,af]at this;have tU:∀e∈(l,dB.a7 ((Tab.dd (bO M) ups).map λx=>(.inr x,.aG true)))::d.ents C p,∀φ,e.2≠ .ext φ:=by
      intro e he φ;simp only[d4.ents,dR,xA,or_false]at he;rcases he with rfl | rfl | rfl | rfl | rfl | rfl | rfl | rfl | rfl<;>(intro z;cases z)
     exact absurd (hW this).symm (tU e he φ)
    ·exact g.fr a _ af bx
   ·have ia:H1 a≠none:=λz=>al a (bm a af) (s1.c8 a z);cases cu:H1 a with
    | none=>exact absurd cu ia
    | some o=>exact g.fr a o cu (λbx=>by
      obtain⟨e,he,q⟩:=fB.mp (show a∈((l,dB.a7 ((Tab.dd (bO M) ups).map λx=>(.inr x,.aG true)))::d.ents C p).map (·.1)from bx)
      exact(Ie e he).2 (by rw[q];exact af))
  have cU:bh (λa=>ir U p d a∨a=l) (λ_=>[]) H3 [some (.ref p),some (.str nm),some gJ,some c7,some nf,some (.ref l),none] [none,G (.str nm),G (av ups),G (.aK []),G (.aK []),none,none]:=by
   refine P2 rfl (λa af z=>?_) (λi b bN au=>?_) (λa af=>.inl (.inl (bm a af))) aoa
   ·have eH:=PQ a z;rcases af with(h | h | h) | h
    ·exact al a h eH
    ·rw[h,D.at_ 0 rfl]at eH;cases eH
    ·obtain⟨e,he,q⟩:=fB.mp (show a∈(d.ents C p).map (·.1)from nq _ h)
     have:=D.lA e he;rw[q,eH]at this;cases this
    ·have:=g.at_ 0 rfl;rw[h]at z;rw[z]at this;cases this
   ·match i,au with
    | 1,au=>cases au;exact⟨rfl,_,rfl,.str _⟩
    | 2,au=>cases au;exact⟨rfl,_,rfl,dO.mono JU⟩
    | 3,au=>cases au;exact⟨rfl,_,rfl,ey.mono JU⟩
    | 4,au=>cases au;exact⟨rfl,_,rfl,EI.mono JU⟩
    | 0,au=>cases au
    | 5,au=>cases au
    | 6,au=>cases au
    | n+7,au=>simp at au
  refine(mh fW λkH fW=>?_:);dsimp only;refine uJ (adx ?_);refine(gc aa4 (KS (ax 2).b).b:b8 ⟨E,H⟩ _ _) _ _ H3 _ _ _ cU ?_;have qH:bg Iv (bg zv (J 2)) [none,G (.str nm),G (av ups),G (.aK []),G (.aK []),none,none]= .ok (.tup ((cI (bN ups)).map .str)) [none,G (.str nm),G (av ups),G (.aK []),G (.aK []),none,none]:=
   mJ (mJ (a:=av ups) (d:=av (cI (bN ups))) rfl (by
    show((ups.map bu.D.str).mapM hr).bind _=_;rw[rn,om,if_pos ⟨by omega,ne⟩]
    rfl)) rfl
  rw[qH];intro fc Fq H5 ke ha rf;have anU:∀e∈((l,dB.a7 (et ((Tab.dd (bO M) ups).map λx=>(.inr x,.aG true)) (.inr nm) (.aG true)))::d.ents C p).set 2 (d.gm,dB.lst (d.xs++[V.str nm])),(ir U p d e.1∨e.1=l)/\¬bk.v e.1:=λe he=>by
   have:e.1∈((l,dB.a7 ((Tab.dd (bO M) ups).map λx=>(.inr x,.aG true)))::d.ents C p).map (·.1):=by
    have h2:e.1∈(((l,dB.a7 (et ((Tab.dd (bO M) ups).map λx=>(.inr x,.aG true)) (.inr nm) (.aG true)))::d.ents C p).set 2 (d.gm,dB.lst (d.xs++[V.str nm]))).map (·.1):=fB.mpr ⟨e,he,rfl⟩;exact h2
   obtain⟨bQ,t1,q⟩:=fB.mp this;rw[<- q];exact Ie bQ t1
  have ZK:=RZ g.hold ha anU;have eY:fe H5 H5 (l::p::d.new) _:=ZK.start (M:=l::p::d.new) (λa af=>af) λe he=>fB.mpr ⟨e,he,rfl⟩;have wq:d.kS.length<=24:=by rw[g7.s.length,dV];exact lo
  have aqz:d.nV.length<=24:=by rw[g7.u.length,dV];exact lo
  have aqA:d.nW.length<=24:=by rw[g7.w.length,dV];exact lo
  have SA:d.mU.length<=24:=by rw[g7.l.length,dV];exact lo
  have gf:∀a∈d.new,(ir U p d a∨a=l)/\¬bk.v a:=λa af=>⟨.inl (.inr (.inr af)),Ak a af⟩;have nM:=ke.rt (o:=.a7 (et d.kS (.inr nm) fc)) (gf d.gn (by simp[d4.new])).1 (gf d.gn (by simp[d4.new])).2 (λφ z=>by rw[eY.at_ 3 rfl]at z;cases z)
  refine⟨_,rfl,p,C,d.dx,_,_,rfl,eY.at_ 1 rfl,cF.cl,cF.Ag,rfl,_,rfl,d.gn,_,rfl,pv.k (k:=hu nm) (eY.at_ 3 rfl) (by omega),?_⟩
  have eY:=eY.put 3 (o':=.a7 (et d.kS (.inr nm) fc)) rfl;have uC:cn (cut (a5 (λa=>ir U p d a∨a=l) Fq) (a1 H5 d.gn (.a7 (et d.kS (.inr nm) fc)))) fc (.tup ((cI (bN ups)).map .str)):=by rw[k' (.inl (gf d.gn (by simp[d4.new])).1)];exact rf
  have nM:=nM.rt (o:=.a7 (et d.nV (.inr nm) (.ref l))) (gf d.gp (by simp[d4.new])).1 (gf d.gp (by simp[d4.new])).2 (λφ z=>by rw[eY.at_ 4 rfl]at z;cases z)
  refine(mh fW λkH fW=>?_:);refine⟨_,rfl,_,rfl,p,C,d.dx,_,_,rfl,eY.at_ 1 rfl,cF.cl,cF.m1,rfl,_,rfl,d.gp,_,rfl,pv.k (k:=hu nm) (eY.at_ 4 rfl) (by omega),?_⟩
  have eY:=eY.put 4 (o':=.a7 (et d.nV (.inr nm) (.ref l))) rfl;rw[<- k' (b:=d.gp) (o:=.a7 (et d.nV (.inr nm) (.ref l))) (.inl (gf d.gp (by simp[d4.new])).1)]at uC
  have nM:=nM.rt (o:=.a7 (et d.nW (.inr nm) c7)) (gf d.gO (by simp[d4.new])).1 (gf d.gO (by simp[d4.new])).2 (λφ z=>by rw[eY.at_ 5 rfl]at z;cases z)
  refine(mh fW λkH fW=>?_:);refine⟨_,rfl,_,rfl,p,C,d.dx,_,_,rfl,eY.at_ 1 rfl,cF.cl,cF.Af,rfl,_,rfl,d.gO,_,rfl,pv.k (k:=hu nm) (eY.at_ 5 rfl) (by omega),?_⟩
  have eY:=eY.put 5 (o':=.a7 (et d.nW (.inr nm) c7)) rfl;rw[<- k' (b:=d.gO) (o:=.a7 (et d.nW (.inr nm) c7)) (.inl (gf d.gO (by simp[d4.new])).1)]at uC
  have nM:=nM.rt (o:=.a7 (et d.mU (.inr nm) nf)) (gf d.gN (by simp[d4.new])).1 (gf d.gN (by simp[d4.new])).2 (λφ z=>by rw[eY.at_ 6 rfl]at z;cases z)
  refine(mh fW λkH fW=>?_:);refine⟨_,rfl,_,rfl,p,C,d.dx,_,_,rfl,eY.at_ 1 rfl,cF.cl,cF.Ae,rfl,_,rfl,d.gN,_,rfl,pv.k (k:=hu nm) (eY.at_ 6 rfl) (by omega),?_⟩
  have eY:=eY.put 6 (o':=.a7 (et d.mU (.inr nm) nf)) rfl;rw[<- k' (b:=d.gN) (o:=.a7 (et d.mU (.inr nm) nf)) (.inl (gf d.gN (by simp[d4.new])).1)]at uC
  refine(L7 fW ?_:);generalize aqe:a1 _ d.gN (dB.a7 (et d.mU (.inr nm) nf))=qw at eY nM uC ⊢;dsimp only;refine(AN (E:=⟨E,H⟩) (ro:=[]) (ax 3) (cG (i:=6)) uM) _ Fq qw _ _ _ nM ?_;show g0 _ _ _ _ _ _ (Out.nx [none,G (.str nm),G (av ups),G (.aK []),G (.aK []),none,none]) _;intro aqX aoP tn OZ;have wR:=OZ.step;have GA:=RZ eY.hold wR (λe he=>by
   have h1:=WS (f:=λx:O×dB=>x.1) he;have h2:e.1∈((l,dB.a7 ((Tab.dd (bO M) ups).map λx=>(.inr x,.aG true)))::d.ents C p).map (·.1):=h1;obtain⟨bQ,t1,q⟩:=fB.mp h2;rw[<- q];exact Ie bQ t1)
  have Sv:∀b o,¬bk.v b->b∉l::p::d.new->H b=some o->tn b=some o:=λb o cm hC cC=>by
   have aN:=Sw b o cm hC cC;by_cases de:ir U p d b∨b=l
   ·have cE:H5 b=some o:=(ha.same b de cm).trans aN;exact(wR.same b de cm).trans (eY.fr b o cE hC)
   ·obtain⟨h4,cE⟩:=ha.keep b o (by rw[xc];exact de) aN
    exact(wR.keep b o h4 (eY.fr b o cE hC)).2
  have JT:fu (cut (ir U p d) H) (cut (ir U p d) tn):=SG λa o na aR=>Sv a o (λz=>na (.inl (bm a z))) (Ti a na o aR) aR;have z3:=g7.mono JT;have cf:cn (cut (ir U p d) tn) fc (.tup ((cI (bN ups)).map .str)):=(uC.mono wR.le).mono (gE λa af=>.inl (.inl af));have ajc:nm∉Tab.dd (bO M) ups:=λh=>by
   obtain⟨u,h1,h2⟩:=Tab.um.mp h;exact ah (R.good.sub u (sr u h1) nm h2)
  have amj:cn (cut (ir U p d) tn) (.ref l) (dk (Tab.dd (bO M) ups++[nm])):=by
   refine .aK (.inl (cB.mpr ⟨SD,GA.at_ 0 rfl⟩)) ?_;exact AA (g:=λ_=>.aG true) (g':=λ_=>.aG true) (UH _) (.aG true) ajc (λ_ _=>rfl) rfl
  refine k {d with xs:=d.xs++[.str nm],kS:=et d.kS (.inr nm) fc,nV:=et d.nV (.inr nm) (.ref l),nW:=et d.nW (.inr nm) c7,mU:=et d.mU (.inr nm) nf} tn (GA.pick [1,2,3,4,5,6,7,8] (by decide) rfl) rfl (λb o cm hC cC=>?_) (λb ab=>?_) OZ.env.bB ⟨?_,?_,?_,?_,?_,g7.h,g7.b⟩
  ·by_cases aB:b=p
   ·subst aB;rw[D.at_ 0 rfl]at cC;cases cC;exact GA.at_ 1 rfl
   ·refine Sv b o cm (λbx=>?_) cC;rcases dR.mp bx with h | h
    ·rw[h,nl]at cC;cases cC
    ·exact(dR.mp h).elim aB hC
  ·have tU:=wR.c8 b ab;refine PQ b (ha.c8 b ?_);cases cE:H5 b with
   | none=>rfl
   | some o=>
    by_cases bx:b∈l::p::d.new
    ·obtain⟨e,he,q⟩:=fB.mp (eY.mem b bx);have:=eY.hold.lA e he;rw[q,tU]at this;cases this
    ·rw[eY.fr b o cE bx]at tU;cases tU
  ·show cP _ (d.xs++[.str nm]) ((M.order++[nm]).map .str);rw[og];exact z3.o.append (.cons (.str nm) .nil)
  ·refine AA z3.s cf ah (g':=λk=>.tup ((jZ (M.next nm ups) k).map .str)) (λk aw=>?_) ?_
   ·show bu.D.tup _=_;rw[R.jZ ah k,if_neg (λz=>ah (by rw[<- z];exact aw))]
   ·show bu.D.tup _=_;rw[R.jZ ah nm,if_pos rfl]
  ·refine AA z3.u amj ah (g':=λk=>dk (bO (M.next nm ups) k)) (λk aw=>?_) ?_
   ·show dk _=_;rw[R.bO ah,Tab.kX (λz=>ah (by rw[<- z];exact aw))]
   ·show dk _=_;rw[R.bO ah,Tab.KV]
  ·exact AA z3.w (ey.mono JT) ah (g':=λ_=>.aK []) (λ_ _=>rfl) rfl
  ·exact AA z3.l (EI.mono JT) ah (g':=λ_=>.aK []) (λ_ _=>rfl) rfl
end
end gB
namespace bu
open PySem
variable[bk]
def fO.trans(a:fO H H1)(b:fO H1 H2):fO H H2:=⟨λx o cm e=>b.keep x o cm (a.keep x o cm e),λx h=>a.c8 x (b.c8 x h),b.bB⟩
def fO.le{V:O->Prop}(s:fO H H')(bm:∀a,bk.v a->V a):fu (cut V H) (cut V H'):=SG λa o na aR=>s.keep a o (λz=>na (bm a z)) aR
def fO.al{U:O->Prop}(s:fO H H')(al:∀a,U a->H a≠none):∀a,U a->H' a≠none:=λa h z=>al a h (s.c8 a z)
def UI{H:ak}(a9:H q=some (.ins C dx fs))(r:cn (cut U H) v (.aK [])):cn (cut (λa=>U a∨a=q) H) v (.aK []):=Tk a9 3 rfl r
def Eg(o:eI U H (.ref q) (bL C M) [q]):∃d:d4,tr C H q d/\nB (cut U H) d M:=by
 unfold bL bG oO at o;cases o with
 | ins a9 r=>
  rename_i dx fs;obtain⟨_,_,rfl,b4,r⟩:=r.inv;obtain⟨_,_,rfl,da,r⟩:=r.inv;obtain⟨_,_,rfl,kY,r⟩:=r.inv;obtain⟨_,_,rfl,rd,r⟩:=r.inv;obtain⟨_,_,rfl,rf,r⟩:=r.inv;obtain⟨_,_,rfl,uC,r⟩:=r.inv;obtain⟨_,_,rfl,rg,r⟩:=r.inv;obtain rfl:=r.inv;obtain⟨x1,aoz,rfl,dK,dI⟩:=b4.inv;obtain⟨x2,aoA,rfl,dy,em⟩:=da.inv;obtain⟨x3,aoB,rfl,fD,iP⟩:=kY.inv;obtain⟨x4,aoC,rfl,gD,yL⟩:=rd.inv;obtain⟨A1,MQ,rfl,kc,yM⟩:=rf.inv;obtain⟨Fl,_,rfl,eB,yN⟩:=uC.inv;obtain⟨MO,_,rfl,aak,aaF⟩:=rg.inv;cases yN;cases aaF;exact⟨⟨dx,x1,x2,x3,x4,A1,Fl,MO,aoz,aoA,aoB,aoC,MQ,[],[]⟩,⟨a9,(cB.mp dK).2,(oF dy).2,(oF fD).2,(oF gD).2,(oF kc).2,(oF eB).2,(oF aak).2⟩,⟨dI,em,iP,yL,yM,rfl,rfl⟩⟩
def TS{V:O->Prop}{H:ak}{p C:O}{d:d4}{M:Md}(g7:nB (cut V H) d M)(D:rT C H p d)(q2:∀a∈d.new,¬V a):eI V H (.ref p) (bL C M) [p]:=by
 have n:∀{a},a∈d.new->¬V a:=λh=>q2 _ h;have bE:=g7.h;have h1:=g7.b;refine .ins (D.at_ 0 rfl) ?_;refine .cons (.lst (cB.mpr ⟨n (by simp[d4.new]),D.at_ 1 rfl⟩) g7.o) ?_
 refine .cons (.aK (.inl (cB.mpr ⟨n (by simp[d4.new]),D.at_ 2 rfl⟩)) g7.s) ?_
 refine .cons (.aK (.inl (cB.mpr ⟨n (by simp[d4.new]),D.at_ 3 rfl⟩)) g7.u) ?_
 refine .cons (.aK (.inl (cB.mpr ⟨n (by simp[d4.new]),D.at_ 4 rfl⟩)) g7.w) ?_
 refine .cons (.aK (.inl (cB.mpr ⟨n (by simp[d4.new]),D.at_ 5 rfl⟩)) g7.l) ?_
 refine .cons (.aK (.inl (cB.mpr ⟨n (by simp[d4.new]),D.at_ 6 rfl⟩)) (by rw[bE];exact .nil)) ?_
 refine .cons (.aK (.inl (cB.mpr ⟨n (by simp[d4.new]),D.at_ 7 rfl⟩)) (by rw[h1];exact .nil)) .nil
def nB.wu{d e:d4}(g7:nB dW d M)(h:e.wu d):nB dW e M:=by
 obtain⟨h1,h2,aN,h4,cE,dY,l7⟩:=h;exact⟨by rw[h1];exact g7.o,by rw[h2];exact g7.s,by rw[aN];exact g7.u,by rw[h4];exact g7.w,by rw[cE];exact g7.l,by rw[dY];exact g7.h,by rw[l7];exact g7.b⟩
def EV(F:D->List D->k7):e4:=λvs H Q E=>∃(U:O->Prop)(b:O)(cJ:List V)(eJ:D)(ds:List D),vs= .ref b::cJ/\¬U b/\eI (λa=>U a∨a=b) H (.ref b) eJ [b]/\cP (cut (λa=>U a∨a=b) H) cJ ds/\(∀a,U a->H a≠none)/\(∀a,bk.v a->U a)/\bk.i H/\(match F eJ ds with
 | .no=>False
 | .ok d hN=>∀v H',tB b H H'->eI (λa=>U a∨a=b) H' (.ref b) hN [b]->cn (cut (λa=>U a∨a=b) H') v d->Q v H'
 | .cp C fs=>∀x H',fO H H'->H' x=some (jH x fs)->E (.ref C) (some x) H')
open Classical in
noncomputable def tR (C B yx jj gZ:O) (M:Md) (x:Str) (ups:List Str):D->List D->k7:=λeJ ds=>if eJ=bL C M/\ds=[.str x,av ups,.lst []]then
 (if h9 x=false then .cp B [("called",.str "BadName"),("name",.str x)]else if x∈M.order then .cp yx [("called",.str "Taken"),("name",.str x)]else if 24<=M.order.length then .cp jj [("called",.str "Full")]else
  match lp M ups with
  | some (a,b)=>.cp gZ [("called",.str "Forked"),("one",.str a),("other",.str b)]
  | none=>.ok .bb (bL C (M.next x ups)))else .no
end bu
namespace gB
open PySem bu
section
variable[bk]{P:dn}{w:cH}{K:b5}{mg:Str->Option aj}{base:cg}
abbrev wm:cc:=fx (c6 42) 1
abbrev ajf:List Str:=["self","name","ups","rooms","told","lets","trial"]
abbrev ux:List Str:=["self","name","ups","rooms"]
def EK:cX ajf ux (bY wm):=by ac_rfl
structure Z7(P:dn)(w:cH)(K:b5)(mg:Str->Option aj)(base:cg)(C:O)(Ip Iw eW r' Im Iu vZ Iq:O)(Hw Hz i5 zb CT Hy vO za:f4)(BF BH BD BG BE:List D->b'):Prop where
 DT:eO K C "check_new" Ip
 aaK:Binds K Hw ["self","name"] []
 afs:aY P w K mg base (eb P w) 4 Ip Hw ["self","name"] (bV BF)
 J9:eO K C "check_ups" Iw
 aaP:Binds K Hz ["self","ups"] []
 afx:aY P w K mg base (eb P w) 5 Iw Hz ["self","ups"] (bV BH)
 J8:eO K C "twin" eW
 Hi:Binds K i5 ["self"] []
 afw:aY P w K mg base bq 3 eW i5 ["self"] (U_ C)
 z9:eO K C "place" r'
 Hf:Binds K zb Ei []
 Dh:aY P w K mg base bq 2 r' zb Ei (U7 C)
 z8:eO K C "lets_below" Im
 aaI:Binds K CT ["self","ups","told"] []
 afq:aY P w K mg base (eb P w) 4 Im CT ["self","ups","told"] (bV BD)
 DU:eO K C "checked_rooms" Iu
 aaN:Binds K Hy ["self","ups","rooms"] []
 afu:aY P w K mg base (eb P w) 6 Iu Hy ["self","ups","rooms"] (bV BG)
 aar:e3 K mg "has_ring" vZ vO ["upward","musts"]
 afr:aY P w K mg base bq 2 vZ vO ["upward","musts"] (bV BE)
 aiR:eO K C "take_over" Iq
 aaL:Binds K za ["self","other"] []
 aft:aY P w K mg base bq 1 Iq za ["self","other"] (Mg C)
def akJ{x:Str}{ups:List Str}(R:Run M)(aqs:x.length<=1000)(sr:∀u∈ups,u∈M.order)(ne:ups≠[])(c_:ups.length<=4){BF BH BD BG BE:List D->b'}
  (e9:BF [bL C M,.str x]=if h9 x=false then .cp B [("called",.str "BadName"),("name",.str x)]else if x∈M.order then .cp yx [("called",.str "Taken"),("name",.str x)]else if 24<=M.order.length then .cp jj [("called",.str "Full")]else .ok .bb)
  (fR:BH [bL C M,av ups]=match lp M ups with
   | some (a,b)=>.cp gZ [("called",.str "Forked"),("one",.str a),("other",.str b)]
   | none=>.ok .bb)
  (kK:BG [bL C M,av ups,.lst []]= .ok (.aK []))(cZ:BD [bL C M,av ups,.aK []]= .ok (.aK []))(age:∀u,BE [u,.aK []]= .ok (.aG false))
  (F:bT K "put" "Kinds.put" wm f aE)(cF:hK K C)(cK:Z7 P w K mg base C Ip Iw eW r' Im Iu vZ Iq Hw Hz i5 zb CT Hy vO za BF BH BD BG BE):
  aY P w K mg base (eb P w) 7 f aE ux (EV (tR C B yx jj gZ M x ups)):=by
 have dE:∀{vs H Q E},EV (tR C B yx jj gZ M x ups) vs H Q E->∃(U:O->Prop)(q:O)(gJ n_:V),vs=[.ref q,.str x,gJ,n_]/\¬U q/\eI (λa=>U a∨a=q) H (.ref q) (bL C M) [q]/\cn (cut (λa=>U a∨a=q) H) gJ (av ups)/\cn (cut (λa=>U a∨a=q) H) n_ (.lst [])/\(∀a,U a->H a≠none)/\(∀a,bk.v a->U a)/\bk.i H/\
   (match (if h9 x=false then .cp B [("called",.str "BadName"),("name",.str x)]else if x∈M.order then .cp yx [("called",.str "Taken"),("name",.str x)]else if 24<=M.order.length then .cp jj [("called",.str "Full")]else
  match lp M ups with
  | some (a,b)=>.cp gZ [("called",.str "Forked"),("one",.str a),("other",.str b)]
  | none=>.ok .bb (bL C (M.next x ups)):k7)with
   | .no=>False
   | .ok d hN=>∀v H',tB q H H'->eI (λa=>U a∨a=q) H' (.ref q) hN [q]->cn (cut (λa=>U a∨a=q) H') v d->Q v H'
   | .cp C fs=>∀x H',fO H H'->H' x=some (jH x fs)->E (.ref C) (some x) H'):=λ{vs H Q E} h=>by
  obtain⟨U,q,cJ,eJ,ds,rfl,n0,o,r,al,bm,bB,k⟩:=h;by_cases z:eJ=bL C M/\ds=[.str x,av ups,.lst []]
  ·obtain⟨rfl,rfl⟩:=z;unfold tR at k;rw[if_pos ⟨rfl,rfl⟩]at k;obtain⟨_,_,rfl,b4,r⟩:=r.inv;obtain⟨_,_,rfl,da,r⟩:=r.inv;obtain⟨_,_,rfl,kY,r⟩:=r.inv;obtain rfl:=r.inv;obtain rfl:=b4.inv;exact⟨U,q,_,_,rfl,n0,o,da,kY,al,bm,bB,k⟩
  ·unfold tR at k;rw[if_neg z]at k;exact k.elim
 refine F.TB EK (λvs H Q E h=>?_) (λbA A a3 s H vs Q E aA h=>?_)
 ·obtain⟨U,q,gJ,n_,rfl,_⟩:=dE h;rfl
 ·obtain⟨U,q,gJ,n_,rfl,n0,o,dO,uE,al,bm,bB,k⟩:=dE h;refine⟨_,a6 (fU (gS (ae 0) cF.cl cK.DT cK.afs aA.m cK.aaK .nil n1 (ay (ae 1) aV)))
   (a6 (fU (gS (ae 0) cF.cl cK.J9 cK.afx aA.m cK.aaP .nil n1 (ay (ae 2) aV)))
   (a6 (du (i:=4) EK.a4 rfl (bF rfl) (gS (ae 0) cF.cl cK.DU cK.afu aA.m cK.aaN .nil n1 (ay (ae 2) (ay (ae 3) aV))))
   (a6 (du (i:=5) EK.a4 rfl (bF rfl) (gS (ae 0) cF.cl cK.z8 cK.afq aA.m cK.aaI .nil n1 (ay (ae 2) (ay (ae 4) aV))))
   (a6 (du (i:=6) EK.a4 rfl (bF rfl) (KD (ae 0) cF.cl cK.J8 cK.afw aA.m cK.Hi .nil er))
   (a6 (fU (gS (ae 6) cF.cl cK.z9 cK.Dh aA.m cK.Hf .nil er (ay (ae 1) (ay (ae 2) (ay (ae 4) (ay (ae 5) aV))))))
   (a6 (dN (jV (eF cK.afr aA cK.aar (ay (fT (ae 6) rfl) (ay (fT (ae 6) rfl) aV)))) hQ dZ)
   (bI (fU (gS (ae 0) cF.cl cK.aiR cK.aft aA.m cK.aaL .nil er (ay (ae 6) aV)))))))))),?_⟩
  have lz:∀a,bk.v a->(U a∨a=q):=λa h=>.inl (bm a h);have uq:¬bk.v q:=λz=>n0 (bm q z);have aqK:∀{H'},fO H H'->tB q H H':=λs=>⟨λa o cm _ e=>s.keep a o cm e,s.c8,s.bB⟩;have own:∀{H'},fO H H'->eI (λa=>U a∨a=q) H' (.ref q) (bL C M) [q]:=λ{H'} s=>o.mono (s.le lz) λa af=>by
   rw[gK.mp af];obtain⟨u,aD⟩:=TU o;rw[aD];exact s.keep q u uq aD
  have DW:∀{H'},fO H H'->cn (cut U H') (.ref q) (bL C M):=λs=>(own s).plain (λa z=>.inl z) λa af=>by rw[gK.mp af];exact n0
  have MI:∀{H'},fO H H'->cn (cut U H') gJ (av ups):=λs=>(dO.mono (s.le lz)).mono (gE λa z=>.inl z);have amn:∀{H'},fO H H'->cn (cut U H') n_ (.lst []):=λs=>(uE.mono (s.le lz)).mono (gE λa z=>.inl z);have obj:∀{H'},fO H H'->∃dx fs,H' q=some (.ins C dx fs)/\fs.lookup ("check_new":Str)=none/\fs.lookup ("check_ups":Str)=none/\fs.lookup ("checked_rooms":Str)=none/\fs.lookup ("lets_below":Str)=none/\fs.lookup ("twin":Str)=none/\fs.lookup ("take_over":Str)=none:=λs=>by
   obtain⟨d,D,_⟩:=Eg (own s);exact⟨d.dx,_,D.obj,rfl,rfl,rfl,rfl,rfl,rfl⟩
  have hR:fO H H:=⟨λ_ _ _ e=>e,λ_ e=>e,bB⟩;obtain⟨adI,afe,aZ,ar,-⟩:=obj hR;refine L6 λkH fW=>?_;refine⟨_,rfl,q,adI,afe,rfl,aZ,ar,_,rfl,U,[bL C M,.str x],.cons (DW hR) (.cons (.str x) .nil),al,bm,bB,?_⟩;rw[e9];by_cases hM:h9 x=false
  ·rw[if_pos hM]at k ⊢;exact λy H' s e=>k y H' s e
  rw[if_neg hM]at k ⊢;by_cases d_:x∈M.order
  ·rw[if_pos d_]at k ⊢;exact λy H' s e=>k y H' s e
  rw[if_neg d_]at k ⊢;by_cases nH:24<=M.order.length
  ·rw[if_pos nH]at k ⊢;exact λy H' s e=>k y H' s e
  rw[if_neg nH]at k ⊢;intro Fd H1 s1 _;obtain⟨adJ,aff,nT,-,sn,-⟩:=obj s1;refine(mh fW λkH fW=>?_:);refine⟨_,rfl,q,adJ,aff,rfl,nT,sn,_,rfl,U,[bL C M,av ups],.cons (DW s1) (.cons (MI s1) .nil),s1.al al,bm,s1.bB,?_⟩;rw[fR];cases aH:lp M ups with
  | some iN=>
   obtain⟨a,b⟩:=iN;rw[aH]at k;exact λy H' s e=>k y H' (s1.trans s) e
  | none=>
  rw[aH]at k;intro ru H2 s2 _;have s2:=s1.trans s2;obtain⟨adK,oP,ahl,-,-,nS,-⟩:=obj s2;refine(mh fW λkH fW=>?_:);refine⟨_,rfl,q,adK,oP,rfl,ahl,nS,_,rfl,_,rfl,U,[bL C M,av ups,.lst []],.cons (DW s2) (.cons (MI s2) (.cons (amn s2) .nil)),s2.al al,bm,s2.bB,?_⟩;rw[kK];intro c7 H3 s3 ey;have amo:=ey;have s3:=s2.trans s3;obtain⟨adL,afg,RV,-,-,-,ahb,-⟩:=obj s3;refine(mh fW λkH fW=>?_:);refine⟨_,rfl,q,adL,afg,rfl,RV,ahb,_,rfl,_,rfl,U,[bL C M,av ups,.aK []],.cons (DW s3) (.cons (MI s3) (.cons ey .nil)),s3.al al,bm,s3.bB,?_⟩;rw[cZ];intro nf H4 UL EI;have fI:=s3.trans UL;have amq:cn (cut (λa=>U a∨a=q) H4) c7 (.aK []):=(UI RV amo).mono (UL.le lz);obtain⟨adM,afh,Dx,-,-,-,-,ahc,-⟩:=obj fI;have amk:cn (cut (λa=>U a∨a=q) H4) nf (.aK []):=UI Dx EI;obtain⟨d,D,g7⟩:=Eg (own fI);refine(mh fW λkH fW=>?_:);refine⟨_,rfl,q,adM,afh,rfl,Dx,ahc,q,d,rfl,D,λp dt H5 np Oy lk ha wy=>?_⟩;have aip:=g7.wu lk;have tD:∀a,(U a∨a=q)->H4 a≠none:=λa af z=>af.elim (λh=>fI.al al a h z) λh=>by rw[h,Dx]at z;cases z
  have DM:fu (cut (λa=>U a∨a=q) H4) (cut (ir (λa=>U a∨a=q) p dt) H5):=λa o h=>.inl (by
   obtain⟨h1,h2⟩:=cB.mp h;refine cB.mpr ⟨λz=>?_,ha a o h2⟩;rcases z with z | z | z
   ·exact h1 z
   ·rw[z,np]at h2;cases h2
   ·rw[wy a z]at h2;cases h2)
  have aob:bk.i H5:=bk.st H4 H5 (λa φ h=>ha a _ h) (λa h=>by
   cases cu:H4 a with
   | none=>exact absurd cu (tD a (lz a h))
   | some o=>exact ha a o cu) fI.bB
  refine(mh fW λkH fW=>?_:);refine⟨_,rfl,p,dt.dx,_,rfl,Oy.at_ 0 rfl,rfl,_,rfl,_,rfl,_,rfl,_,rfl,λa=>U a∨a=q,p,gJ,c7,nf,x,dt,M,ups,rfl,Oy,λz=>tD p z np,λa af z=>tD a z (wy a af),λa af z=>tD a af (ha.free z),lz,aob,aip.mono DM,(dO.mono (fI.le lz)).mono DM,amq.mono DM,amk.mono DM,R,d_,sr,ne,c_,λdf mD vf aR tL PR aoc Sx=>?_⟩;have a4:∀a∈df.new,H4 a=none:=λa af=>wy a (by rw[<- aR];exact af)
  have Qc:∀b o,¬bk.v b->H4 b=some o->mD b=some o:=λb o cm e=>tL b o cm (λz=>by rw[wy b z]at e;cases e) (ha b o e)
  have O3:∀a,(U a∨a=q)->mD a≠none:=λa af z=>tD a af (ha.free (PR a z));have Kl:∀a∈df.new,¬(U a∨a=q):=λa af z=>tD a z (a4 a af);have Sy:=Sx.mono (gE (qz:=λa=>U a∨a=q) λa z=>.inl z);have Az:cn (cut (λa=>U a∨a=q) mD) (.ref df.gp) (ej (M.next x ups).order (bO (M.next x ups))):=.aK (.inl (cB.mpr ⟨Kl _ (by simp[d4.new]),vf.at_ 3 rfl⟩)) Sy.u
  have alY:cn (cut (λa=>U a∨a=q) mD) (.ref df.iL) (.aK []):=.aK (.inl (cB.mpr ⟨Kl _ (by simp[d4.new]),vf.at_ 7 rfl⟩)) (by rw[Sy.b];exact .nil)
  refine(mh fW λkH fW=>?_:);refine⟨_,rfl,p,C,df.dx,_,_,rfl,vf.at_ 0 rfl,cF.cl,cF.m1,rfl,_,rfl,p,C,df.dx,_,_,rfl,vf.at_ 0 rfl,cF.cl,cF.Ad,rfl,λa=>U a∨a=q,[ej (M.next x ups).order (bO (M.next x ups)),.aK []],.cons Az (.cons alY .nil),O3,lz,aoc,?_⟩;rw[age];intro gV hg kn rg;cases rg;refine⟨_,rfl,lB ?_⟩;have pY:¬bk.v p:=λz=>tD p (lz p z) np;have Ak:∀a∈df.new,¬bk.v a:=λa af z=>Kl a af (lz a z);have rN:rT C hg p df:=⟨λe he=>kn.keep _ _ (by
   have:e.1∈(df.ents C p).map (·.1):=fB.mpr ⟨e,he,rfl⟩;rcases dR.mp this with h | h
   ·rw[h];exact pY
   ·exact Ak _ h) (vf.lA e he),vf.a4⟩
  have Jt:hg q=some (.ins C d.dx (iy d.gm d.gn d.gp d.gO d.gN d.iM d.iL)):=kn.keep _ _ uq (Qc _ _ uq D.obj);have Kk:q≠p:=λz=>by rw[<- z,Dx]at np;cases np
  refine(L7 fW ?_:);refine⟨_,rfl,q,d.dx,_,rfl,Jt,rfl,_,rfl,q,p,d.dx,_,_,_,_,_,_,_,df,rfl,Jt,⟨rN.at_ 0 rfl,rN.at_ 1 rfl,.inl (rN.at_ 2 rfl),.inl (rN.at_ 3 rfl),.inl (rN.at_ 4 rfl),.inl (rN.at_ 5 rfl),.inl (rN.at_ 6 rfl),.inl (rN.at_ 7 rfl)⟩,Kk,λap2 rS Ox _ aiJ zs ajI=>?_⟩;have O4:∀a,(U a∨a=q)->hg a≠none:=kn.al O3;have adu:∀b,rS b=none->hg b=none:=λb ab=>by
   cases cu:hg b with
   | none=>rfl
   | some o=>
    by_cases z:b=q
    ·rw[z,Ox.at_ 0 rfl]at ab;cases ab
    ·rw[zs b o cu (by simpa using z)]at ab;cases ab
  have aod:bk.i rS:=by
   refine bk.st hg rS (λa φ h=>zs a _ h (by
    intro z;rw[gK.mp z,Jt]at h;cases h)) (λa h=>?_) kn.bB
   cases cu:hg a with
   | none=>exact absurd cu (O4 a (lz a h))
   | some o=>exact zs a o cu (by
     intro z;rw[gK.mp z]at h;exact uq h)
  have aiz:fu (cut (ir (λa=>U a∨a=q) p dt) mD) (cut (λa=>U a∨a=q) rS):=λa o h=>.inl (by
   obtain⟨h1,h2⟩:=cB.mp h;have dD:¬(U a∨a=q):=λz=>h1 (.inl z);exact cB.mpr ⟨dD,zs a o (kn.keep a o (λz=>dD (lz a z)) h2) (by simpa using λz=>dD (.inr z))⟩)
  refine k .bb rS ⟨λb o cm hC e=>?_,λb ab=>fI.c8 b (ha.free (PR b (kn.c8 b (adu b ab)))),aod⟩ (TS ((Sx.mono aiz).wu aiJ) Ox λa af z=>O4 a z (ajI a af)) .bb;exact zs b o (kn.keep b o cm (Qc b o cm (fI.keep b o cm e))) (by simpa using hC)
end
end gB
namespace bu
open PySem PySem.Spec PyProof.Rows PySem.W
section
variable{X:bp}{a F mB mC:O}{x x1 x2:Str}{p bc cL pt pos:d1}{kt:Nat}{name:Option Str}{body:List cc}{dG aS:List xp}{rr:O->O->d8}
def T5(h1:oy X a aS t)(h2:oy X a aS u):oy X a aS (λC d D σ H=>t C d D σ H∨u C d D σ H):=λaa s σ H D C d I aR fl q=>q.elim (h1 aa s σ H D C d I aR fl) (h2 aa s σ H D C d I aR fl)
def aly(bl:fd X x)(bx:X.mg x=some (.ref F))(aD:Cq X a name body pos rr)(iT:fC x:=by decide):
  oy X a (.ExceptHandler (some (.Name x p)) name body pos::dG) (λC d D σ H=>exmOne X.K (.ref C) (.ref F)=some true/\rr C d D σ H):=by
 intro aa s σ H D C d I aR fl ⟨ah,q⟩;refine Bq (Bo ?_) (by intro z;cases z)
 refine lF (X:=X.mk' (.ref a) X.cb) (I.mk' _ _) bl bx ?_ iT;refine(exm_one I.eo (C3 I aR) ah).here ?_;exact aD aa s σ H D C d I aR fl q
def anY{s:aM}{H:ak}{Q:Bool->aM->Prop}(I:Inv X aa σ H s)(aR:H a=some (jI C d a))(ah:exmAny X.K (.ref C) [.ref mB,.ref mC]=some b)
  (cY:fd X x1)(g8:X.mg x1=some (.ref mB))(dC:fd X x2)(hB:X.mg x2=some (.ref mC))
  (h:∀h',(∀c u,s.heap.get? c=some u->h'.get? c=some u)->Q b {s with heap:=h'})
  (hN:fC x1:=by decide)(oG:fC x2:=by decide):
  wpAny (model X.prog X.w) (X.A.mark (some (.ref a))) (eval (.Tuple [.Name x1 bc,.Name x2 cL] kt pt) X.env) (λc s₁=>wpAny (model X.prog X.w) (X.A.mark (some (.ref a))) (excMatches (.ref a) c) Q cb s₁) cb s:=by
 have dX:Inv (X.mk' (.ref a) cb) aa σ H s:=I.mk' _ _;refine wpAny_Tuple (xQ (lF (X:=X.mk' (.ref a) cb) dX cY g8 (xQ (lF (X:=X.mk' (.ref a) cb) dX dC hB (X8 ⟨by size_fits,?_⟩) oG)) hN))
 have cD:∀q o,s.heap.get? q=some o->(s.heap.push {cls:=.type "tuple",data:=.seq [Value.ref mB,Value.ref mC].toArray}).get? q=some o:=λ_ _ z=>cV _ z;exact(exm_tup2 (I.eo.keeps cD) ((C3 I aR).keeps cD) (eT s.heap rfl) ah).here (h _ cD)
def alz(cY:fd X x1)(g8:X.mg x1=some (.ref mB))(dC:fd X x2)(hB:X.mg x2=some (.ref mC))(aD:Cq X a name body pos rr)
  (hN:fC x1:=by decide)(oG:fC x2:=by decide):
  oy X a (.ExceptHandler (some (.Tuple [.Name x1 bc,.Name x2 cL] kt pt)) name body pos::dG) (λC d D σ H=>exmAny X.K (.ref C) [.ref mB,.ref mC]=some true/\rr C d D σ H):=by
 intro aa s σ H D C d I aR fl ⟨ah,q⟩;refine Bq (Bo (anY I aR ah cY g8 dC hB (λh' k=>?_) hN oG)) (by intro z;cases z)
 obtain⟨T,fl⟩:=fl;exact aD aa _ σ H D C d (I.kept (t':=s.toks) k) aR ⟨T,IC fl k⟩ q
end
end bu
namespace bu
open PySem
variable[bk]
def mm(M:Md)(x:Str)(ups:List Str):D:=if h9 x=false then ku "BadName" (.str x)else if x∈M.order then ku "Taken" (.str x)else if 24<=M.order.length then ku "Full" (.str "")else
 match lp M ups with
 | some p=>ku "Forked" (kV p)
 | none=>ku "" (.str "")
def Md.after(M:Md)(x:Str)(ups:List Str):Md:=if h9 x=false then M else if x∈M.order then M else if 24<=M.order.length then M else
 match lp M ups with
 | some _=>M
 | none=>M.next x ups
open Classical in
noncomputable def sa (C:O) (M:Md) (x:Str) (ups:List Str):D->List D->k7:=λeJ ds=>if eJ=bL C M/\ds=[.str x,av ups,.lst []]then .ok (mm M x ups) (bL C (M.after x ups))else .no
def TR{U:O->Prop}(bm:∀a,bk.v a->U a)(n0:¬U q)(s:fO H H')(o:eI (λa=>U a∨a=q) H (.ref q) d [q]):eI (λa=>U a∨a=q) H' (.ref q) d [q]:=o.mono (s.le λa h=>.inl (bm a h)) λa af=>by
 rw[gK.mp af];obtain⟨u,aD⟩:=TU o;rw[aD];exact s.keep q u (λz=>n0 (bm q z)) aD
def LU{U:O->Prop}{H:ak}(bm:∀a,bk.v a->U a)(al:∀a,U a->H a≠none)(bB:bk.i H)(ee:H t=none):fO H (a1 H t o):=
 ⟨λa u _ e=>by rw[bj (eK e ee)];exact e,λa h=>r5 ee a h,bk.st H _ (λa φ e=>by rw[bj (eK e ee)];exact e) (λa h=>bj λz=>al a (bm a h) (by rw[z];exact ee)) bB⟩
end bu
namespace gB
open PySem bu
section
variable[bk]{P:dn}{w:cH}{K:b5}{mg:Str->Option aj}{base:cg}
abbrev Lg:cc:=c6 64
abbrev Am:List Str:=["_law_made","_law_name","_law_ups","_law_some_rooms"]
abbrev ajg:List Str:=["_law_made","_law_name","_law_ups","_law_some_rooms","_law_told","e"]
def sS:cX ajg Am (bY Lg):=by ac_rfl
def ET{σ:St}(h:σ.length=6):∃yH dK dy fD gD kc,σ=[yH,dK,dy,fD,gD,kc]:=by
 obtain⟨a,r,rfl,h1⟩:=qU h;obtain⟨b,r,rfl,h2⟩:=qU h1;obtain⟨c,r,rfl,aN⟩:=qU h2;obtain⟨x,y,z,rfl⟩:=wt aN;exact⟨a,b,c,x,y,z,rfl⟩
structure Ov(K:b5)(mg:Str->Option aj)(B N jj gZ hM d_ nH lX vH vF vG:O):Prop where
 z8:mg "Forked"=some (.ref gZ)
 g8:mg "Twice"=some (.ref hM)
 hB:mg "Strange"=some (.ref d_)
 ui:mg "Wider"=some (.ref nH)
 uj:mg "NoFit"=some (.ref lX)
 S0:mg "BadName"=some (.ref B)
 DT:mg "Taken"=some (.ref N)
 DU:mg "Ring"=some (.ref vH)
 S1:mg "NoKind"=some (.ref vF)
 J9:mg "Full"=some (.ref jj)
 z9:mg "BadParts"=some (.ref vG)
 f1:ta K (.ref gZ) (.ref gZ)=some true
 dI:ta K (.ref B) (.ref gZ)=some false
 em:my K (.ref B) [.ref hM,.ref d_,.ref nH,.ref lX]=some false
 iP:my K (.ref B) [.ref B,.ref N,.ref vH,.ref vF]=some true
 dD:ta K (.ref N) (.ref gZ)=some false
 fH:my K (.ref N) [.ref hM,.ref d_,.ref nH,.ref lX]=some false
 jQ:my K (.ref N) [.ref B,.ref N,.ref vH,.ref vF]=some true
 qa:ta K (.ref jj) (.ref gZ)=some false
 MG:my K (.ref jj) [.ref hM,.ref d_,.ref nH,.ref lX]=some false
 VJ:my K (.ref jj) [.ref B,.ref N,.ref vH,.ref vF]=some false
 MH:my K (.ref jj) [.ref jj,.ref vG]=some true
 CZ:iF K gZ
 PW:iF K B
 vT:iF K N
 adQ:iF K jj
 aaq:fv K gZ "called"
 aao:fv K gZ "one"
 aap:fv K gZ "other"
 aal:fv K B "called"
 aam:fv K B "name"
 aas:fv K N "called"
 aat:fv K N "name"
 aau:fv K jj "called"
def akS{C B N jj gZ hM d_ nH lX vH vF vG r' f:O}(F:bT K "_law_put_told" "_law_put_told" Lg f aE)(cF:hK K C)
  (z9:eO K C "put" r')(Zd:aY P w K mg base (eb P w) 7 r' zb ux (EV (tR C B N jj gZ M x ups)))(Hf:yl K zb ux ["rooms"] g nP)(agU:∀a b c d:V,nP [a,b,c] [d]=[a,b,c,d])
  (cK:Ov K mg B N jj gZ hM d_ nH lX vH vF vG):aY P w K mg base bq 8 f aE Am (mj (sa C M x ups)):=by
 have dE:∀{vs H Q E},mj (sa C M x ups) vs H Q E->∃(U:O->Prop)(q:O)(gJ n_:V),vs=[.ref q,.str x,gJ,n_]/\¬U q/\eI (λa=>U a∨a=q) H (.ref q) (bL C M) [q]/\cn (cut (λa=>U a∨a=q) H) gJ (av ups)/\cn (cut (λa=>U a∨a=q) H) n_ (.lst [])/\(∀a,U a->H a≠none)/\(∀a,bk.v a->U a)/\bk.i H/\
   ∀v H',tB q H H'->eI (λa=>U a∨a=q) H' (.ref q) (bL C (M.after x ups)) [q]->cn (cut (λa=>U a∨a=q) H') v (mm M x ups)->Q v H':=λ{vs H Q E} h=>by
  obtain⟨U,q,cJ,eJ,ds,rfl,n0,o,r,al,bm,bB,k⟩:=h;by_cases z:eJ=bL C M/\ds=[.str x,av ups,.lst []]
  ·obtain⟨rfl,rfl⟩:=z;unfold sa at k;rw[if_pos ⟨rfl,rfl⟩]at k;obtain⟨_,_,rfl,b4,r⟩:=r.inv;obtain⟨_,_,rfl,da,r⟩:=r.inv;obtain⟨_,_,rfl,kY,r⟩:=r.inv;obtain rfl:=r.inv;obtain rfl:=b4.inv;exact⟨U,q,_,_,rfl,n0,o,da,kY,al,bm,bB,k⟩
  ·unfold sa at k;rw[if_neg z]at k;exact k.elim
 refine F.ok sS (λvs H Q E h=>?_) (λbA A a3 s H vs Q E aA h=>?_)
 ·obtain⟨U,q,gJ,n_,rfl,_⟩:=dE h;rfl
 ·obtain⟨U,q,gJ,n_,rfl,n0,o,dO,uE,al,bm,bB,k⟩:=dE h;refine⟨_,a6 (du (i:=4) sS.a4 rfl (bF rfl) (iA (ay cx (ay cx aV))))
   (a6 (alF (n:=6) (tb:=λE'=>w7 _ Mz _) rfl rfl rfl
    (λcv cb E' ah=>bI (dN (g_ (Ao (alo (ae 0) cF.cl z9 Zd aA.m Hf ah (ay (ae 1) (ay (ae 2) aV)) (Ua (ae 3) Ub)))) hQ dZ))
    (λa=>T5 (aly (by rfl) cK.z8 (KQ (i:=5) sS.a4 rfl rfl (bI (du (i:=4) sS.a4 rfl (bF rfl) (iA (ay (wI (ae 5) rfl) (ay (iA (ay (wI (ae 5) rfl) (ay (wI (ae 5) rfl) aV))) aV)))))))
     (alx (by rfl) cK.z8 (T6 (by rfl) cK.g8 (by rfl) cK.hB (by rfl) cK.ui (by rfl) cK.uj (T5 (alA (by rfl) cK.S0 (by rfl) cK.DT (by rfl) cK.DU (by rfl) cK.S1
      (KQ (i:=5) sS.a4 rfl rfl (bI (du (i:=4) sS.a4 rfl (bF rfl) (iA (ay (wI (ae 5) rfl) (ay (wI (ae 5) rfl) aV)))))))
      (T6 (by rfl) cK.S0 (by rfl) cK.DT (by rfl) cK.DU (by rfl) cK.S1 (alz (by rfl) cK.J9 (by rfl) cK.z9
       (KQ (i:=5) sS.a4 rfl rfl (bI (du (i:=4) sS.a4 rfl (bF rfl) (iA (ay (wI (ae 5) rfl) (ay cx aV)))))))))))))
   (bI (dr (ae 4)))),?_⟩
  have lz:∀a,bk.v a->(U a∨a=q):=λa h=>.inl (bm a h);obtain⟨d,D,-⟩:=Eg o;have Ha:∀{H1},fO H H1->∀a,(U a∨a=q)->H1 a≠none:=λs a af z=>af.elim (λh=>s.al al a h z) λh=>by
   have:=s.c8 a z;rw[h,D.obj]at this;cases this
  have dq:∀{H1}(s:fO H H1){p:O}(np:H1 p=none){vs:List V}{ds:List bu.D}(iB:cP (cut (λa=>U a∨a=q) (a1 H1 p (.tup vs))) vs ds),M.after x ups=M->mm M x ups= .tup ds->Q (.ref p) (a1 H1 p (.tup vs)):=λ{H1} s{p} np{vs}{ds} iB h1 h2=>by
   have s2:=s.trans (LU (o:=.tup vs) bm (s.al al) s.bB np);refine k (.ref p) _ ⟨λa o cm _ e=>s2.keep a o cm e,s2.c8,s2.bB⟩ (by rw[h1];exact TR bm n0 s2 o) ?_
   rw[h2];exact .tup (cB.mpr ⟨λz=>Ha s p z np,cw⟩) iB
  refine⟨by show 2<=sizeLine;decide,λt0 oX=>?_⟩
  have hR:fO H (a1 H t0 (.tup [.str "",.str ""])):=LU bm al bB oX;have wz:=TR bm n0 hR o;obtain⟨eJ,Y0,-⟩:=Eg wz;refine⟨_,rfl,q,eJ.dx,_,rfl,Y0.obj,rfl,_,rfl,_,rfl,_,rfl,?_⟩;unfold gy;dsimp only;rw[agU];refine⟨U,q,[.str x,gJ,n_],bL C M,[.str x,av ups,.lst []],rfl,n0,wz,.cons (.str x) (.cons (dO.mono (hR.le lz)) (.cons (uE.mono (hR.le lz)) .nil)),hR.al al,bm,hR.bB,?_⟩;unfold tR;rw[if_pos ⟨rfl,rfl⟩];by_cases dI:h9 x=false
  ·rw[if_pos dI];intro y H1 s1 ag;refine⟨B,y,rfl,rfl,λa σ' eh aR=>.inr ⟨cK.dI,cK.em,.inl ⟨cK.iP,?_⟩⟩⟩;obtain⟨yH,dK,dy,fD,gD,kc,rfl⟩:=ET eh;refine⟨_,rfl,a,B,y,_,_,rfl,aR,ag,cK.PW,cK.aal,rfl,_,rfl,a,B,y,_,_,rfl,aR,ag,cK.PW,cK.aam,rfl,by show 2<=sizeLine;decide,λp np=>?_⟩
   exact⟨_,rfl,dq (hR.trans s1) np (.cons (.str _) (.cons (.str _) .nil)) (by unfold Md.after;rw[if_pos dI]) (by unfold mm;rw[if_pos dI];rfl)⟩
  rw[if_neg dI];by_cases em:x∈M.order
  ·rw[if_pos em];intro y H1 s1 ag;refine⟨N,y,rfl,rfl,λa σ' eh aR=>.inr ⟨cK.dD,cK.fH,.inl ⟨cK.jQ,?_⟩⟩⟩;obtain⟨yH,dK,dy,fD,gD,kc,rfl⟩:=ET eh;refine⟨_,rfl,a,N,y,_,_,rfl,aR,ag,cK.vT,cK.aas,rfl,_,rfl,a,N,y,_,_,rfl,aR,ag,cK.vT,cK.aat,rfl,by show 2<=sizeLine;decide,λp np=>?_⟩
   exact⟨_,rfl,dq (hR.trans s1) np (.cons (.str _) (.cons (.str _) .nil)) (by unfold Md.after;rw[if_neg dI,if_pos em]) (by unfold mm;rw[if_neg dI,if_pos em];rfl)⟩
  rw[if_neg em];by_cases iP:24<=M.order.length
  ·rw[if_pos iP];intro y H1 s1 ag;refine⟨jj,y,rfl,rfl,λa σ' eh aR=>.inr ⟨cK.qa,cK.MG,.inr ⟨cK.VJ,cK.MH,?_⟩⟩⟩;obtain⟨yH,dK,dy,fD,gD,kc,rfl⟩:=ET eh;refine⟨_,rfl,a,jj,y,_,_,rfl,aR,ag,cK.adQ,cK.aau,rfl,by show 2<=sizeLine;decide,λp np=>?_⟩
   exact⟨_,rfl,dq (hR.trans s1) np (.cons (.str _) (.cons (.str _) .nil)) (by unfold Md.after;rw[if_neg dI,if_neg em,if_pos iP]) (by unfold mm;rw[if_neg dI,if_neg em,if_pos iP];rfl)⟩
  rw[if_neg iP];cases aH:lp M ups with
  | some iN=>
   obtain⟨en,ev⟩:=iN;intro y H1 s1 ag;refine⟨gZ,y,rfl,rfl,λa σ' eh aR=>.inl ⟨cK.f1,?_⟩⟩;obtain⟨yH,dK,dy,fD,gD,kc,rfl⟩:=ET eh;refine⟨_,rfl,a,gZ,y,_,_,rfl,aR,ag,cK.CZ,cK.aaq,rfl,_,rfl,a,gZ,y,_,_,rfl,aR,ag,cK.CZ,cK.aao,rfl,_,rfl,a,gZ,y,_,_,rfl,aR,ag,cK.CZ,cK.aap,rfl,by show 2<=sizeLine;decide,λbc Tt=>⟨by show 2<=sizeLine;decide,λp np=>?_⟩⟩
   have s3:=hR.trans s1;have fI:=s3.trans (LU (o:=.tup [.str en,.str ev]) bm (s3.al al) s3.bB Tt);have dD:bc≠p:=λz=>by rw[<- z,cw]at np;cases np
   refine⟨_,rfl,dq fI np (.cons (.str _) (.cons (.tup (cB.mpr ⟨λz=>Ha s3 bc z Tt,by rw[bj dD,cw]⟩) (.cons (.str _) (.cons (.str _) .nil))) .nil)) (by unfold Md.after;rw[if_neg dI,if_neg em,if_neg iP,aH]) (by unfold mm;rw[if_neg dI,if_neg em,if_neg iP,aH];rfl)⟩
  | none=>
   intro v H1 s1 o1 cf;cases cf;refine⟨_,rfl,lB ?_⟩;have ajF:¬bk.v t0:=λz=>al t0 (bm t0 z) oX;have ajA:t0≠q:=λz=>by rw[z,D.obj]at oX;cases oX
   refine⟨_,rfl,k (.ref t0) H1 ⟨λa o cm na e=>s1.keep a o cm na (hR.keep a o cm e),λa h=>hR.c8 a (s1.c8 a h),s1.bB⟩ (by unfold Md.after;rw[if_neg dI,if_neg em,if_neg iP,aH];exact o1) ?_⟩
   unfold mm;rw[if_neg dI,if_neg em,if_neg iP,aH];exact .tup (cB.mpr ⟨λz=>Ha ⟨λ_ _ _ e=>e,λ_ h=>h,bB⟩ t0 z oX,s1.keep t0 _ ajF ajA cw⟩) (.cons (.str _) (.cons (.str _) .nil))
end
end gB
namespace bu
open PySem
def fS(ns:List Int)(p c z many:Int):Int×Int×Int:=if c < many/\p < (ns.length:Int)then
  (p+1,if 1000000000000000000<=(if ns.getD p.toNat 0 < 0 then 7 - 3 * ns.getD p.toNat 0 else ns.getD p.toNat 0)then(if ns.getD p.toNat 0 < 0 then 7 - 3 * ns.getD p.toNat 0 else ns.getD p.toNat 0)else 0,
   (z * 48271+(if ns.getD p.toNat 0 < 0 then 7 - 3 * ns.getD p.toNat 0 else ns.getD p.toNat 0) * 7919+(p+1) * 101) % 2147483647)
 else(p,c,z)
def iW(p c z many:Int):Int×Int×Int×Int:=if many<=c then(c % many,p,c / many,z)else
 ((z * z % 2147483629 * 16807+z * 40692+12345) % 2147483647 / 53 % many,p,c,(z * z % 2147483629 * 16807+z * 40692+12345) % 2147483647)
abbrev hX(t:TE)(σ:St)(H:ak)(v:V):Prop:=∀Q:c3,Q v H->t σ H Q
section
variable{K:b5}{σ:St}{H:ak}{aP tb:TE}{s u T:d8}{Y:Ends}{i j:Int}{v:V}{b:O}{xs:List V}{g:Int->Int->V}{C:Int->Int->Prop}{x y:Bool}{k m:Nat}{n:Int}
def lj(h:σ[k]? =some (some v)):hX (dP k) σ H v:=λ_ q=>⟨v,h,q⟩
def i8:hX (gT v) σ H v:=λ_ q=>q
def oJ(a:hX aP σ H (.int i))(b:hX tb σ H (.int j)):hX (nc (lJ g) aP tb) σ H (g i j):=λ_ q=>a _ (b _ ⟨i,j,rfl,rfl,q⟩)
def lh(a:hX aP σ H (.int i))(b:hX tb σ H (.int j))(c:C i j):hX (nc (p3 C g) aP tb) σ H (g i j):=λ_ q=>a _ (b _ ⟨i,j,rfl,rfl,c,q⟩)
def C4(a:hX aP σ H (.ref b))(c:hX tb σ H (.int (k:Int)))(ab:H b=some (.lst xs))(h:xs[k]? =some v):hX (nc (n5 K) aP tb) σ H v:=λ_ q=>a _ (c _ ⟨b,xs,k,v,rfl,rfl,cS.of ab,yK h,q⟩)
def ad9(a:hX aP σ H (.ref b))(ab:H b=some (.lst xs)):hX (kp (λxs H Q=>∃p ys,xs=[V.ref p]/\(cS K H p ys∨gL K H p ys)/\Q (V.int ys.length) H) (gd aP gy)) σ H (.int xs.length):=λ_ q=>a _ ⟨b,xs,rfl,.inl (cS.of ab),q⟩
def AJ(h:e1 s (e1 r u) Y σ H):e1 (e1 s r) u Y σ H:=h
def ES(a:hX aP σ H v)(h:u Y (σ.set k (some v)) H):e1 (ml aP (lr k)) u Y σ H:=a _ h
def wX(a:hX aP σ H v)(bE:σ[m]? =some (some (.ref b)))(ab:H b=some (.lst xs))(e:sv xs.length n=some k)(h:u Y σ (a1 H b (.lst (xs.set k v)))):e1 (ml aP (IM (dP m) (gT (.int n)) K5)) u Y σ H:=a _ ⟨_,bE,b,xs,n,k,rfl,rfl,ab,e,h⟩
def L4(a:hX aP σ H (.aG x))(h1:x=true->e1 s u Y σ H)(h2:¬x=true->u Y σ H):e1 (w7 (w9 aP) s AR) u Y σ H:=a _ ⟨x,rfl,JG h1 h2⟩
def anb(a:hX aP σ H (.aG x))(c:hX tb σ H (.aG y))(h1:x=true->y=true->e1 s u Y σ H)(h2:¬(x=true/\y=true)->u Y σ H):e1 (w7 (Ms (w9 aP) (w9 tb)) s AR) u Y σ H:=
 a _ ⟨x,rfl,JG (λe=>c _ ⟨y,rfl,JG (h1 e) λf=>h2 λz=>f z.2⟩) λe=>lB (h2 λz=>e z.1)⟩
def anc(a:hX aP σ H v)(h:Y.ey v H):e1 (w8 aP) u Y σ H:=a _ h
def amg(a:hX aP σ H v)(h:Y.ey v H):w8 aP Y σ H:=a _ h
def tail3{S:St->ak->Prop}(a:∀σ' H',S σ' H'->e1 T u Y σ' H')(b:∀R:d8,(∀σ' H',S σ' H'->R Y σ' H')->e1 s (e1 s' R) Y σ H):e1 (e1 s (e1 s' T)) u Y σ H:=b (e1 T u) a
end
end bu
namespace gB
open PySem bu
section
variable[bk]{P:dn}{w:cH}{K:b5}{mg:Str->Option aj}{base:cg}
abbrev AD:cc:=c6 45
structure Ot(H:ak)(b l:O)(ns:List Int)(p c z:Int):Prop where
 vE:H b=some (.lst [.ref l,.int p,.int c,.int z])
 its:H l=some (.lst (ns.map V.int))
 m4:0<=p
 ry:0<=z
 eH:z < 2147483647
def U8:e4:=λvs H Q _=>∃(b l:O)(ns:List Int)(p c z many:Int),vs=[.ref b,.int many]/\Ot H b l ns p c z/\ns.length<=63/\0 < many/\many < 1000000/\
 Q (.int (iW (fS ns p c z many).1 (fS ns p c z many).2.1 (fS ns p c z many).2.2 many).1) (a1 H b (.lst [.ref l,.int (iW (fS ns p c z many).1 (fS ns p c z many).2.1 (fS ns p c z many).2.2 many).2.1,.int (iW (fS ns p c z many).1 (fS ns p c z many).2.1 (fS ns p c z many).2.2 many).2.2.1,.int (iW (fS ns p c z many).1 (fS ns p c z many).2.1 (fS ns p c z many).2.2 many).2.2.2]))
abbrev S9:List Str:=["_law_bag_here","_law_many","_law_cell","_law_got","_law_once"]
def AE:cX S9 ["_law_bag_here","_law_many"] (bY AD):=by ac_rfl
def akH(F:bT K "_law_pull" "_law_pull" AD f aE)(T:el mg):aY P w K mg base bq 1 f aE ["_law_bag_here","_law_many"] U8:=by
 refine F.ok AE (λvs H Q E h=>?_) (λbA A a3 s H vs Q E aA h=>?_)
 ·obtain⟨b,l,ns,p,c,z,many,rfl,_⟩:=h;rfl
 ·obtain⟨b,l,ns,p,c,z,many,rfl,B,eh,Jj,ahf,k⟩:=h;obtain⟨dw,h2,bZ⟩:∃dw,hw (jk bq P w K mg base S9 "_law_pull" (bY AD) f bA A a3 s H E).nZ (fE AD).tail dw/\
    ∀(v:Option V)(p c z:Int),0<=z->z < 2147483647->Q (.int (iW p c z many).1) (a1 H b (.lst [.ref l,.int (iW p c z many).2.1,.int (iW p c z many).2.2.1,.int (iW p c z many).2.2.2]))->dw {nx:=λ_ H'=>Q .bb H',ey:=Q} [some (.ref b),some (.int many),v,none,none] (a1 H b (.lst [.ref l,.int p,.int c,.int z])):=by
   refine⟨_,a6 (dN (ho Kw (hD iw (ae 0) dg (λ_ _=>rfl)) (ae 1) (kl _))
     (a6 (du (i:=3) AE.a4 rfl (bF rfl) (f' wD (hD iw (ae 0) dg (λ_ _=>rfl)) (ae 1)))
     (a6 (wL (f' TK (hD iw (ae 0) dg (λ_ _=>rfl)) (ae 1)) (wK (ae 0) dg wY)) (bI (dr (ae 3))))) dZ)
    (a6 (du (i:=4) AE.a4 rfl (bF rfl) (f' sG (f' wD (f' sG (hD iw (ae 0) dg (λ_ _=>rfl)) (hD iw (ae 0) dg (λ_ _=>rfl))) dg) dg))
    (a6 (wL (f' wD (f' q4 (f' q4 (ae 4) (f' sG (hD iw (ae 0) dg (λ_ _=>rfl)) dg)) dg) dg) (wK (ae 0) dg wY))
    (bI (dr (f' wD (f' TK (hD iw (ae 0) dg (λ_ _=>rfl)) dg) (ae 1)))))),?_⟩
   intro v p c z DD DE a9;have cC:∀{σ:St}{k:Nat}{v:V}{xs:List V},σ[0]? =some (some (.ref b))->xs[k]? =some v->hX (nc (n5 K) (dP 0) (gT (.int (k:Int)))) σ (a1 H b (.lst xs)) v:=λbE h=>C4 (lj bE) i8 cw h;unfold iW at a9;refine L4 (oJ (cC (k:=2) rfl rfl) (lj rfl)) (λaL=>?_) (λaL=>?_)
   ·rw[if_pos (of_decide_eq_true aL)]at a9;refine AJ (ES (lh (cC (k:=2) rfl rfl) (lj rfl) Jj) (AJ (wX (lh (cC (k:=2) rfl rfl) (lj rfl) ⟨Jj,by omega⟩) rfl cw rfl (anc (lj rfl) ?_))))
    rw[xa];exact a9
   ·rw[if_neg λz=>aL (decide_eq_true z)]at a9;refine ES (lh (lh (lh (cC (k:=3) rfl rfl) (cC (k:=3) rfl rfl) (.inl ⟨by omega,by omega⟩)) i8 (by show(0:Int)< 2147483629;decide)) i8 (.inr ⟨by decide,by decide⟩)) ?_
    refine wX (lh (oJ (oJ (lj rfl) (lh (cC (k:=3) rfl rfl) i8 (.inr ⟨by decide,by decide⟩))) i8) i8 (by show(0:Int)< 2147483647;decide)) rfl cw rfl ?_
    rw[xa];exact amg (lh (lh (cC (k:=3) rfl rfl) i8 ⟨by decide,by decide⟩) (lj rfl) Jj) a9
  refine⟨_,a6 (dN (qx.pt (o5 (ho Kx (hD iw (ae 0) dg (λ_ _=>rfl)) (ae 1) (kl _)) (p2 (ho Kx (hD iw (ae 0) dg (λ_ _=>rfl))
     (ea pF (by rfl) T.len lT (ay (hD iw (ae 0) dg (λ_ _=>rfl)) aV)) (kl _)))))
    (a6 (du (i:=2) AE.a4 rfl (bF rfl) (hD iw (hD iw (ae 0) dg (λ_ _=>rfl)) (hD iw (ae 0) dg (λ_ _=>rfl)) (λ_ _=>rfl)))
    (a6 (wL (f' q4 (hD iw (ae 0) dg (λ_ _=>rfl)) dg) (wK (ae 0) dg wY))
    (a6 (wL dg (wK (ae 0) dg wY))
    (a6 (dN (ho Kx (ae 2) dg (kl _)) (bI (du (i:=2) AE.a4 rfl (bF rfl) (f' ak7 dg (f' sG dg (ae 2))))) dZ)
    (a6 (dN (ho Kw (ae 2) (f' ak6 dg dg) (kl _)) (bI (wL (ae 2) (wK (ae 0) dg wY))) dZ)
    (bI (wL (f' wD (f' q4 (f' q4 (f' sG (hD iw (ae 0) dg (λ_ _=>rfl)) dg) (f' sG (ae 2) dg)) (f' sG (hD iw (ae 0) dg (λ_ _=>rfl)) dg)) dg) (wK (ae 0) dg wY)))))))) dZ) h2,?_⟩
  have same:H=a1 H b (.lst [.ref l,.int p,.int c,.int z]):=by
   funext x;by_cases ah:x=b
   ·subst ah;rw[cw];exact B.vE
   ·rw[bj ah]
  have cC:∀{σ:St}{k:Nat}{v:V},σ[0]? =some (some (.ref b))->[V.ref l,.int p,.int c,.int z][k]? =some v->hX (nc (n5 K) (dP 0) (gT (.int (k:Int)))) σ H v:=λbE h=>C4 (lj bE) i8 B.vE h;have l1:∀{σ:St}{k:Nat}{v:V}{xs:List V},σ[0]? =some (some (.ref b))->xs[k]? =some v->hX (nc (n5 K) (dP 0) (gT (.int (k:Int)))) σ (a1 H b (.lst xs)) v:=λbE h=>C4 (lj bE) i8 cw h;refine anb (oJ (cC (k:=2) rfl rfl) (lj rfl)) (oJ (cC (k:=1) rfl rfl) (ad9 (cC (k:=0) rfl rfl) B.its)) (λagA zN=>?_) (λcu=>?_)
  rotate_left
  ·have af:fS ns p c z many=(p,c,z):=if_neg λz=>cu ⟨decide_eq_true z.1,decide_eq_true (by simpa using z.2)⟩
   rw[af]at k;have aN:=bZ none p c z B.ry B.eH k;rw[<- same]at aN;exact aN
  have aB:p < (ns.length:Int):=by
   have:=of_decide_eq_true zN;simpa using this
  obtain⟨j,rfl⟩:=M_ B.m4;have a2:j < ns.length:=by omega
  have jq:(ns.map V.int)[j]? =some (.int ns[j]):=by simp[a2]
  refine AJ (ES (C4 (cC (k:=0) rfl rfl) (cC (k:=1) rfl rfl) B.its jq) (AJ (wX (oJ (cC (k:=1) rfl rfl) i8) rfl B.vE rfl (AJ (wX i8 rfl cw rfl ?_)))));rw[xa];have af:fS ns (j:Int) c z many=((j:Int)+1,if 1000000000000000000<=(if ns[j]< 0 then 7 - 3 * ns[j]else ns[j])then(if ns[j]< 0 then 7 - 3 * ns[j]else ns[j])else 0,(z * 48271+(if ns[j]< 0 then 7 - 3 * ns[j]else ns[j]) * 7919+((j:Int)+1) * 101) % 2147483647):=by
   unfold fS;rw[if_pos ⟨of_decide_eq_true agA,aB⟩,show ns.getD ((j:Int)).toNat 0=ns[j]from by simp[a2]]
  rw[af]at k;have PV:(10:Int) ^ A9 18=1000000000000000000:=by decide
  refine tail3 (S:=λσ' H'=>∃x c':Int,σ'=[some (.ref b),some (.int many),some (.int x),none,none]/\H'=a1 H b (.lst [.ref l,.int ((j:Int)+1),.int c',.int z])/\
   (λr:Int×Int×Int×Int=>Q (.int r.1) (a1 H b (.lst [.ref l,.int r.2.1,.int r.2.2.1,.int r.2.2.2]))) (iW ((j:Int)+1) c' ((z * 48271+x * 7919+((j:Int)+1) * 101) % 2147483647) many)) ?_ λR kK=>?_
  ·rintro _ _ ⟨x,c',rfl,rfl,k⟩;refine wX (lh (oJ (oJ (lh (l1 (k:=3) rfl rfl) i8 (.inr ⟨by decide,by decide⟩)) (lh (lj rfl) i8 (.inr ⟨by decide,by decide⟩))) (lh (l1 (k:=1) rfl rfl) i8 (.inr ⟨by decide,by decide⟩))) i8 (by show(0:Int)< 2147483647;decide)) rfl cw rfl ?_
   rw[xa];exact bZ _ _ _ _ (xt _ (by decide)) (xr _ (by decide)) k
  have dq:∀(x:Int)(σ':St)(H':ak),σ'=[some (.ref b),some (.int many),some (.int x),none,none]->H'=a1 H b (.lst [.ref l,.int ((j:Int)+1),.int 0,.int z])->x=(if ns[j]< 0 then 7 - 3 * ns[j]else ns[j])->e1 (w7 (w9 (nc (lJ λi j=>.aG (decide (j<=i))) (dP 2) (nc (p3 Ou λi j=>.int (i ^ j.toNat)) (gT (.int 10)) (gT (.int 18))))) (ml (dP 2) (IM (dP 0) (gT (.int 2)) K5)) AR) R {nx:=λ_ H'=>Q .bb H',ey:=Q} σ' H':=by
   rintro x _ _ rfl rfl e;rw[<- e]at k;refine L4 (oJ (lj rfl) (lh i8 i8 ⟨by decide,by decide,by decide⟩)) (λdC=>wX (lj rfl) rfl cw rfl ?_) (λdC=>?_)
   ·have eX:=of_decide_eq_true dC;rw[PV]at eX;rw[if_pos eX]at k;rw[xa];exact kK _ _ ⟨_,_,rfl,rfl,k⟩
   ·rw[if_neg λz=>dC (decide_eq_true (by rw[PV];exact z))]at k
    exact kK _ _ ⟨_,_,rfl,rfl,k⟩
  exact L4 (oJ (lj rfl) i8) (λcY=>ES (oJ i8 (lh i8 (lj rfl) (.inl ⟨by decide,by decide⟩))) (dq _ _ _ rfl rfl (if_pos (of_decide_eq_true cY)).symm)) (λcY=>dq _ _ _ rfl rfl (if_neg λz=>cY (decide_eq_true z)).symm)
end
end gB
namespace bu
open PySem PySem.Spec PyProof.Rows
section
variable{X:bp}
def Vo(C:O)(sp:e4)(aP:TE):TE:=λσ H Q=>aP σ H λx H1=>∃a dx fs,x= .ref a/\H1 a=some (.ins C dx fs)/\sp [.ref a] H1 (λv H2=>∃n:Int,v= .int n/\0<=n/\n < 2 ^ 63/\Q (.int n) H2) (λ_ _ _=>False)
def aln{f C:O}{p pos:d1}(he:bz X e aP)(bx:eO X.K C "__len__" f)(F:aY X.prog X.w X.K X.mg X.base bq k f aE ["self"] sp)(aA:dT (k+1) X.A)(ab:Binds X.K aE ["self"] [])(bl:fd X "len")(ar:X.mg "len"=none)
  (aS:starEach [e] X.env=(false,eval e X.env)::starEach [] X.env:=by rfl):
  bz X (.Call (.Name "len" p) [e] [] pos) (Vo C sp aP):=by
 intro aa s σ H Q I h;refine ql (qV I bl ar lT ?_ (by decide) (by decide))
 refine FK ?_ aS rfl;rw[aS];show wpAny _ _ (spliced ((false,eval e X.env)::backTo pos (starEach [] X.env))) _ _ s;refine uW (bJ (he aa s σ H _ I h) λu s1 ⟨x,H1,aW,b4,a,dx,fs,ex,aR,q⟩=>xn ?_);subst ex;obtain rfl:u=Value.ref a:=b4;obtain⟨m,fr⟩:=aW.fr;obtain⟨mA,nC,-,-,-,-⟩:=zY aW.a' aR;obtain⟨od,mS,-⟩:=J0 nC.ns;have ahM:Xh s1.heap a (rH C dx) C (some od):=⟨nC.obj,rfl,rfl,mS⟩;refine PySem.W.len_K (h₀:=X.base) fr aW.ok.mod.mW ahM bx.at_ bx.fn ?_;refine qm (pm (F.run X.A.in1 X.stack s1 H1 ⟨[.ref a],[]⟩ [.ref a] [.ref a] _ _ aA.in1 aW.zo.in1 (ab s1 [.ref a] aW.eo rfl) (.cons rfl .nil) q) λr s' a9=>?_);cases r with
 | error e=>exact ik a9
 | ok fl=>
  cases fl with
  | ret u=>
   obtain⟨v,H2,os,iN,un,ok,cf,n,qH,oX,dD,wQ⟩:=a9;subst qH;obtain⟨t,rfl⟩:=cf;have bU:Inv X aa σ H2 s':=aW.r2 (ch:=[]) os un ok iN λb ab=>by simp at ab
   exact⟨⟨oX,dD⟩,.int n,H2,bU.tok _,⟨_,rfl⟩,wQ⟩
  | next=>exact ik a9
  | brk=>exact ik a9
  | cont=>exact ik a9
end
end bu
namespace bu
open PySem
def h7:List D->b'
 | [.int i,.int j]=>.ok (.aG (decide (i=j)))
 | [.lst as,.lst bs]=>match as.mapM hr,bs.mapM hr with
  | some ss,some f2=>if ss.length<=100/\f2.length<=100 then .ok (.aG (decide (ss=f2)))else .no
  | _,_=>.no
 | _=>.no
def aet(ds:List D):h7 ds= .no∨(∃i j,ds=[.int i,.int j]/\h7 ds= .ok (.aG (decide (i=j))))∨∃as bs ss f2,ds=[.lst as,.lst bs]/\as.mapM hr=some ss/\bs.mapM hr=some f2/\ss.length<=100/\f2.length<=100/\h7 ds= .ok (.aG (decide (ss=f2))):=by
 unfold h7;split
 ·exact .inr (.inl ⟨_,_,rfl,rfl⟩)
 ·rename_i as bs;cases ag:as.mapM hr with
  | none=>exact .inl rfl
  | some ss=>
   cases aF:bs.mapM hr with
   | none=>exact .inl rfl
   | some f2=>
    dsimp only;by_cases h:ss.length<=100/\f2.length<=100
    ·rw[if_pos h];exact .inr (.inr ⟨as,bs,ss,f2,rfl,ag,aF,h.1,h.2,rfl⟩)
    ·rw[if_neg h];exact .inl rfl
 ·exact .inl rfl
end bu
namespace gB
open PySem bu
section
variable[bk]{P:dn}{w:cH}{K:b5}{mg:Str->Option aj}{base:cg}
abbrev wU:cc:=c6 46
def U9:e4:=λvs H Q _=>∃a b:Str,vs=[.str a,.str b]/\Q (.aG (decide (a=b))) H
def Me:e4:=λvs H Q _=>∃(p q:O)(as bs:List Str),vs=[.ref p,.ref q]/\H p=some (.lst (as.map V.str))/\H q=some (.lst (bs.map V.str))/\as.length<=100/\bs.length<=100/\
 ∀H',mG H H'->Q (.aG (decide (as=bs))) H'
abbrev m0:List Str:=["_law_found","_law_due"]
def LW:cX m0 m0 (bY wU):=by ac_rfl
def akM(F:bT K "_law_same" "_law_same" wU f aE)(T:el mg):aY P w K mg base bq 1 f aE m0 U9:=by
 refine F.ok LW (λvs H Q E h=>?_) (λbA A a3 s H vs Q E aA h=>?_)
 ·obtain⟨a,b,rfl,_⟩:=h;rfl
 ·obtain⟨a,b,rfl,k⟩:=h;refine⟨_,a6 (dN (g_ (o2 (ae 1))) hQ dZ)
   (a6 (dN (jV (ea k_ (by rfl) T.isinstance PyProof.Rows.Boot.«isinstance» (ay (ae 1) (ay (lH (v:=.ty "bool") (by rfl) T.bool PyProof.Rows.Boot.«bool» rfl) aV)))) hQ dZ)
   (a6 (dN (jV (ea k_ (by rfl) T.isinstance PyProof.Rows.Boot.«isinstance» (ay (ae 1) (ay (lH (v:=.ty "int") (by rfl) T.int PyProof.Rows.Boot.«int» rfl) aV)))) hQ dZ)
   (a6 (dN (jV (ea k_ (by rfl) T.isinstance PyProof.Rows.Boot.«isinstance» (ay (ae 1) (ay (lH (v:=.ty "str") (by rfl) T.str PyProof.Rows.Boot.«str» rfl) aV))))
    (bI (dr (ma (ea k_ (by rfl) T.isinstance PyProof.Rows.Boot.«isinstance» (ay (ae 0) (ay (lH (v:=.ty "str") (by rfl) T.str PyProof.Rows.Boot.«str» rfl) aV))) (mb (wH Kv (ae 0) (ae 1) (kl _)))))) hQ)
   hQ))),?_⟩
  refine⟨_,rfl,_,rfl,lB ?_⟩;refine⟨_,rfl,_,"bool",_,false,rfl,.str b,by rfl,_,rfl,lB ?_⟩
  refine⟨_,rfl,_,"int",_,false,rfl,.str b,by rfl,_,rfl,lB ?_⟩
  refine⟨_,rfl,_,"str",_,true,rfl,.str b,by rfl,_,rfl,wi ?_⟩
  refine⟨_,rfl,_,"str",_,true,rfl,.str a,by rfl,_,rfl,wi ?_⟩
  refine⟨_,rfl,_,rfl,rfl,?_⟩;have e:decide (V.str a=V.str b)=decide (a=b):=by
   by_cases h:a=b
   ·subst h;simp
   ·have h2:¬V.str a=V.str b:=λz=>h (V.str.inj z);rw[decide_eq_false h,decide_eq_false h2]
  rw[e];exact k
def akL(F:bT K "_law_same" "_law_same" wU f aE)(T:el mg)(IY:mg "_law_same"=some (.ref f))(Hg:Binds K aE m0 []):aY P w K mg base bq 2 f aE m0 Me:=by
 have Y':aY P w K mg base bq 1 f aE m0 U9:=akM F T;refine F.ok LW (λvs H Q E h=>?_) (λbA A a3 s H vs Q E aA h=>?_)
 ·obtain⟨p,q,as,bs,rfl,_⟩:=h;rfl
 ·obtain⟨p,q,as,bs,rfl,aB,a9,air,SE,k⟩:=h;refine⟨_,a6 (dN (g_ (o2 (ae 1))) hQ dZ)
   (a6 (dN (jV (ea k_ (by rfl) T.isinstance PyProof.Rows.Boot.«isinstance» (ay (ae 1) (ay (lH (v:=.ty "bool") (by rfl) T.bool PyProof.Rows.Boot.«bool» rfl) aV)))) hQ dZ)
   (a6 (dN (jV (ea k_ (by rfl) T.isinstance PyProof.Rows.Boot.«isinstance» (ay (ae 1) (ay (lH (v:=.ty "int") (by rfl) T.int PyProof.Rows.Boot.«int» rfl) aV)))) hQ dZ)
   (a6 (dN (jV (ea k_ (by rfl) T.isinstance PyProof.Rows.Boot.«isinstance» (ay (ae 1) (ay (lH (v:=.ty "str") (by rfl) T.str PyProof.Rows.Boot.«str» rfl) aV)))) hQ dZ)
   (a6 (dN (ho Ky (ea k_ (by rfl) T.isinstance PyProof.Rows.Boot.«isinstance» (ay (ae 1) (ay (lH (v:=.ty "list") (by rfl) T.list PyProof.Rows.Boot.«list» rfl) aV)))
    (ea k_ (by rfl) T.isinstance PyProof.Rows.Boot.«isinstance» (ay (ae 0) (ay (lH (v:=.ty "list") (by rfl) T.list PyProof.Rows.Boot.«list» rfl) aV))) (kl _)) hQ dZ)
   (a6 (dN (ho Ky (ea k_ (by rfl) T.isinstance PyProof.Rows.Boot.«isinstance» (ay (ae 1) (ay (lH (v:=.ty "tuple") (by rfl) T.tuple PyProof.Rows.Boot.«tuple» rfl) aV)))
    (ea k_ (by rfl) T.isinstance PyProof.Rows.Boot.«isinstance» (ay (ae 0) (ay (lH (v:=.ty "tuple") (by rfl) T.tuple PyProof.Rows.Boot.«tuple» rfl) aV))) (kl _)) hQ dZ)
   (a6 (dN (ho Ky (ea pF (by rfl) T.len lT (ay (ae 0) aV)) (ea pF (by rfl) T.len lT (ay (ae 1) aV)) (kl _)) (bI (dr wG)) dZ)
   (bI (dr (ea (vI rfl) (by rfl) T.all xH (ay
    (uy (own:=["_law_k"]) (caps:=["_law_found","_law_due"]) (cap:=[0,1]) (cl:=[("_law_found",s.heap.objs.size+1),("_law_due",s.heap.objs.size+2)])
     (by exact oD rfl (by decide+kernel) (by decide+kernel) (by decide+kernel) rfl (by intro p aB;simp at aB;rcases aB with rfl | rfl<;>rfl) ⟨⟨rfl,rfl,bF rfl,_,rfl⟩,⟨rfl,rfl,bF rfl,_,rfl⟩,trivial⟩) rfl
     (KG (by rfl) T.range (ay (ea pF (by rfl) T.len lT (ay (ae 1) aV)) aV))
     (λC s H fp cv=>ew (i:=0) (show(["_law_k","_law_found","_law_due"]:List Str).Nodup by decide+kernel) rfl (bF rfl) (.inr rfl)) (l6 (by decide))
     (λC s H fp cv=>TY Y' aA.m (by rfl) IY F.cD Hg .nil er (ay (hD (show nA _ (n5 K)from iw) (ae 1) (ae 0) (λ_ _=>rfl)) (ay (hD (show nA _ (n5 K)from iw) (ae 2) (ae 0) (λ_ _=>rfl)) aV)))) aV)))))))))),?_⟩
  refine⟨_,rfl,_,rfl,lB ?_⟩;refine⟨_,rfl,_,"bool",_,false,rfl,.lst a9,by rfl,_,rfl,lB ?_⟩
  refine⟨_,rfl,_,"int",_,false,rfl,.lst a9,by rfl,_,rfl,lB ?_⟩
  refine⟨_,rfl,_,"str",_,false,rfl,.lst a9,by rfl,_,rfl,lB ?_⟩
  refine⟨_,rfl,_,"list",_,true,rfl,.lst a9,by rfl,_,rfl,_,"list",_,true,rfl,.lst aB,by rfl,rfl,_,rfl,lB ?_⟩
  refine⟨_,rfl,_,"tuple",_,false,rfl,.lst a9,by rfl,_,rfl,_,"tuple",_,false,rfl,.lst aB,by rfl,rfl,_,rfl,lB ?_⟩
  refine⟨_,rfl,p,_,rfl,.inl (cS.of aB),_,rfl,q,_,rfl,.inl (cS.of a9),rfl,_,rfl,?_⟩;rw[dV,dV];by_cases ar:as.length=bs.length
  ·refine(ahX (by rw[ar]) ?_)
   refine⟨_,rfl,q,_,rfl,.inl (cS.of a9),_,rfl,by omega,by rw[dV];omega,λD lu=>?_⟩
   rw[dV];have ajy:p≠D:=eK aB lu;have ajz:q≠D:=eK a9 lu;refine abf bs.length (λi ys H'=>∃iB:List Bool,ys=iB.map V.aG/\iB=((as.zip bs).take i).map (λz=>decide (z.1=z.2))/\H'=a1 H D (.lst ys)) (FH SE (by decide)) ⟨[],rfl,by simp,rfl⟩ ?_ ?_ ?_ ?_
   ·rintro i ys H' au ⟨iB,rfl,e,rfl⟩;refine⟨cw,?_⟩;rw[e];simp;omega
   ·intro i ys H' au _;show i < ((bs.length:Int)).toNat;omega
   ·rintro ys H' ⟨iB,rfl,e,rfl⟩;refine⟨by show((bs.length:Int)).toNat<=bs.length;omega,D,iB,rfl,cw,?_⟩
    have aF:iB.all id=decide (as=bs):=by
     rw[e,xB (by simp;omega),xv]
     clear e k air SE aB a9;induction as generalizing bs with
     | nil=>
      cases bs with
      | nil=>rfl
      | cons b bs=>cases ar
     | cons a as b3=>
      cases bs with
      | nil=>cases ar
      | cons b bs=>
       rw[List.zip_cons_cons,xu,b3 bs (by simpa using ar)]
       by_cases h1:a=b
       ·subst h1;by_cases h2:as=bs
        ·subst h2;simp
        ·simp[h2]
       ·simp[h1]
    rw[aF];exact k _ λb o cC=>by rw[bj (eK cC lu)];exact cC
   ·rintro i ys H' v pC au ⟨iB,rfl,e,rfl⟩ ⟨rfl,rfl⟩;have RN:i < as.length:=by omega
    have aR:(as.map V.str)[i]? =some (.str as[i]):=by simp[RN]
    have cC:(bs.map V.str)[i]? =some (.str bs[i]):=by simp[au]
    have eu:(0:Int)+(i:Int)=(i:Int):=by omega
    refine⟨_,rfl,_,rfl,p,_,_,_,rfl,rfl,cS.of (by rw[bj ajy];exact aB),by rw[eu];exact yK aR,_,rfl,_,rfl,q,_,_,_,rfl,rfl,cS.of (by rw[bj ajz];exact a9),by rw[eu];exact yK cC,as[i],bs[i],rfl,?_⟩
    refine⟨cw,iB++[decide (as[i]=bs[i])],by rw[og];rfl,?_,by rw[xa]⟩
    have Ik:(as.zip bs)[i]? =some (as[i],bs[i]):=by
     rw[List.getElem?_zip_eq_some];exact⟨jC RN,jC au⟩
    rw[e,List.take_add_one,Ik,og];rfl
  ·have ia:¬(V.int (as.length:Int)=V.int (bs.length:Int)):=λz=>ar (by have:=V.int.inj z;omega)
   rw[decide_eq_false ia];refine wi ?_;have e:decide (as=bs)=false:=decide_eq_false λz=>ar (by rw[z])
   rw[<- e];exact k H (mG.refl H)
def Mf:e4:=λvs H Q _=>∃a b:Int,vs=[.int a,.int b]/\Q (.aG (decide (a=b))) H
def akN(F:bT K "_law_same" "_law_same" wU f aE)(T:el mg):aY P w K mg base bq 1 f aE m0 Mf:=by
 refine F.ok LW (λvs H Q E h=>?_) (λbA A a3 s H vs Q E aA h=>?_)
 ·obtain⟨a,b,rfl,_⟩:=h;rfl
 ·obtain⟨a,b,rfl,k⟩:=h;refine⟨_,a6 (dN (g_ (o2 (ae 1))) hQ dZ)
   (a6 (dN (jV (ea k_ (by rfl) T.isinstance PyProof.Rows.Boot.«isinstance» (ay (ae 1) (ay (lH (v:=.ty "bool") (by rfl) T.bool PyProof.Rows.Boot.«bool» rfl) aV)))) hQ dZ)
   (a6 (dN (jV (ea k_ (by rfl) T.isinstance PyProof.Rows.Boot.«isinstance» (ay (ae 1) (ay (lH (v:=.ty "int") (by rfl) T.int PyProof.Rows.Boot.«int» rfl) aV))))
    (bI (dr (ma (ea k_ (by rfl) T.isinstance PyProof.Rows.Boot.«isinstance» (ay (ae 0) (ay (lH (v:=.ty "int") (by rfl) T.int PyProof.Rows.Boot.«int» rfl) aV))) (ma (alq (ea k_ (by rfl) T.isinstance PyProof.Rows.Boot.«isinstance» (ay (ae 0) (ay (lH (v:=.ty "bool") (by rfl) T.bool PyProof.Rows.Boot.«bool» rfl) aV)))) (mb (wH Kv (ae 0) (ae 1) (kl _))))))) hQ)
   hQ)),?_⟩
  refine⟨_,rfl,_,rfl,lB ?_⟩;refine⟨_,rfl,_,"bool",_,false,rfl,.int b,by rfl,_,rfl,lB ?_⟩
  refine⟨_,rfl,_,"int",_,true,rfl,.int b,by rfl,_,rfl,wi ?_⟩
  refine⟨_,rfl,_,"int",_,true,rfl,.int a,by rfl,_,rfl,wi ?_⟩
  refine⟨_,rfl,_,"bool",_,false,rfl,.int a,by rfl,_,rfl,_,rfl,wi ?_⟩
  refine⟨_,rfl,_,rfl,rfl,?_⟩;have e:decide (V.int a=V.int b)=decide (a=b):=by
   by_cases h:a=b
   ·subst h;simp
   ·have h2:¬V.int a=V.int b:=λz=>h (V.int.inj z);rw[decide_eq_false h,decide_eq_false h2]
  rw[e];exact k
def akO(F:bT K "_law_same" "_law_same" wU f aE)(T:el mg)(IY:mg "_law_same"=some (.ref f))(Hg:Binds K aE m0 []):aY P w K mg base bq 2 f aE m0 (bV h7):=by
 have OK:aY P w K mg base bq 2 f aE m0 Me:=akL F T IY Hg;have OL:aY P w K mg base bq 2 f aE m0 Mf:=(akN F T).mono (by decide)
 have dE:∀vs H Q E,bV h7 vs H Q E->Me vs H Q E∨Mf vs H Q E:=λvs H Q E h=>by
  obtain⟨U,ds,r,al,bm,bB,k⟩:=h;rcases aet ds with h | ⟨i,j,rfl,h⟩ | ⟨as,bs,ss,f2,rfl,ag,aF,ic,mY,h⟩
  ·rw[h]at k;exact k.elim
  ·rw[h]at k;cases r with | cons b4 r=>
   cases r with | cons da r=>
   cases r;cases b4;cases da;exact .inr ⟨i,j,rfl,k _ H ⟨λ_ _ _ e=>e,λ_ e=>e,bB⟩ (.aG _)⟩
  ·rw[h]at k;cases r with | cons b4 r=>
   cases r with | cons da r=>
   cases r;cases b4 with | lst dK dI=>
   cases da with | lst dy em=>
   have f1:=rj dI ag;have fF:=rj em aF;subst f1 fF;refine .inl ⟨_,_,ss,f2,rfl,(cB.mp dK).2,(cB.mp dy).2,ic,mY,λH' s=>k _ H' ⟨λa o _ e=>s a o e,λa h=>s.free h,bk.st H H' (λa φ e=>s a _ e) (λa h=>?_) bB⟩ (.aG _)⟩;cases cu:H a with
   | none=>exact absurd cu (al a (bm a h))
   | some o=>exact s a o cu
 exact⟨λvs H Q E h=>(dE vs H Q E h).elim (OK.len vs H Q E) (OL.len vs H Q E),λA a3 s H args us vs Q E aA he ab R8 h=>(dE vs H Q E h).elim (OK.run A a3 s H args us vs Q E aA he ab R8) (OL.run A a3 s H args us vs Q E aA he ab R8)⟩
end
end gB
namespace bu
open PySem PySem.Spec PyProof.Rows
variable[bk]
section
variable{E:e5}{aP:TE}{bf:aq->aJ D}{t:fi}{cy:aq->aJ (List D)}{E':eP}
def HS(C:O)(F:List D->b')(δ:aq->aJ D):aq->aJ D:=λε=>(δ ε).bind λo aC=>match o with
 | .ins dp fs=>if dp=C then(match F [.ins dp fs]with
  | .ok (.int n)=>if 0<=n/\n < 9223372036854775808 then .ok (.int n) aC else .no
  | _=>.no)else .no
 | _=>.no
def alL(af:b8 E aP bf):b8 E (Vo C (bV F) aP) (HS C F bf):=λT ω H σ ε Q e q=>by
 refine af T ω H σ ε _ e (q.then λx aC v a0 H1 _ ag s1 bc ao=>?_);cases x<;>try (exact ao.elim)
 rename_i dp fs _;by_cases aL:dp=C
 ·subst aL;dsimp only at ao;rw[if_pos rfl]at ao;obtain⟨a,dx,vs,rfl,h1,h2⟩:=EF (.inl bc);refine⟨a,dx,vs,rfl,h1,a5 T a0,[.ins dp fs],.cons bc .nil,ag.al,λa h=>.inl (ag.c7 a h),ag.bB,?_⟩;cases cZ:F [.ins dp fs]with
  | no=>rw[cZ]at ao;exact ao.elim
  | cp C fs=>rw[cZ]at ao;exact ao.elim
  | ok d=>
   rw[cZ]at ao;cases d<;>try (exact ao.elim)
   rename_i n;dsimp only at ao;by_cases ba:0<=n/\n < 9223372036854775808
   ·rw[if_pos ba]at ao;intro v H' s cf;cases cf;exact⟨n,rfl,ba.1,by have:=ba.2;show n < 2 ^ 63;omega,ao _ a0 H' (ag.zG s) (ag.w2 s) (.int n)⟩
   ·rw[if_neg ba]at ao;exact ao.elim
 ·dsimp only at ao;rw[if_neg aL]at ao;exact ao.elim
def sT{nh:Type}(c:nh->Prop)(sp:nh->e4):e4:=λvs H Q E=>∃i,c i/\sp i vs H Q E
def aY.ex{nh:Type}{c:nh->Prop}{sp:nh->e4}{P:dn}{w:cH}{K:b5}{mg:Str->Option aj}{base:cg}{cW:kC}{k:Nat}{f:O}{aE:f4}{ps:List Str}(h:∀i,c i->aY P w K mg base cW k f aE ps (sp i)):aY P w K mg base cW k f aE ps (sT c sp):=
 ⟨λvs H Q E ⟨i,au,q⟩=>(h i au).len vs H Q E q,λA a3 s H args us vs Q E aA he ab bm ⟨i,au,q⟩=>(h i au).run A a3 s H args us vs Q E aA he ab bm q⟩
def Uh{nh:Type}{c:nh->Prop}{F:nh->List D->b'}(i:nh)(au:c i)(aS:k6 E t cy):b8 E (o7 (sT c λi=>bV (F i)) [] E' t) (c4 (F i) cy):=λT ω H σ ε Q e q=>by
 refine aS T ω H σ ε _ e (q.then λx aC v a0 H1 _ ag s1 bc ao=>?_);rw[mu];exact⟨i,au,Hr ag bc ao⟩
def alG{nh:Type}{c:nh->Prop}{F:nh->D->List D->k7}(j:nh)(a2:c j){i:Nat}(aS:k6 E t cy):b8 E (o7 (sT c λi=>mj (F i)) [] E' (gd (dP i) t)) (gs (e' (F j)) i cy):=Ug (λvs H Q ⟨U,b,cJ,eJ,ds,h1,h2,aN,h4,cE,l7,zI,dY⟩=>⟨j,a2,by
 refine⟨U,b,cJ,eJ,ds,h1,h2,aN,h4,cE,l7,zI,?_⟩;unfold e' at dY;cases h:F j eJ ds with
 | no=>rw[h]at dY;exact dY
 | ok d hN=>rw[h]at dY;exact dY
 | cp C fs=>rw[h]at dY;exact dY.elim⟩) aS
end
end bu
namespace bu
open PySem PySem.Spec PyProof.Rows
def CF(bH:O)(eU:List D->b'):aq->Out:=
 (bK (mf (l0 bH "check_kind" eU (J 0) (az (J 1) aU))) (cM (bg ll (aI bw (bg (e8 bH "own") (J 0)) (J 1)))))
def CE(bH:O)(eU:List D->b'):aq->Out:=
 (bK (mf (l0 bH "check_kind" eU (J 0) (az (J 1) aU))) (cM (bg ll (aI bw (bg (e8 bH "lets") (J 0)) (J 1)))))
def Hj:aq->Out:=
 (bK (ef (zi (b6 (bg pJ (J 1))) (b6 (bg pJ (J 0)))) (cM (gr (bg pJ (J 0)) (bg pJ (J 1)))) (λε=>.nx ε)) (λ_=>.no))
def CK(bH:O)(ox:List D->b')(rQ:List D->b')(BI:List D->b')(BQ:List D->b')(BJ:List D->b')(BP:List D->b')(Cc:List D->b')(BO:List D->b')(BN:List D->b')(BM:List D->b')(B0:List D->b')(BK:List D->b'):aq->Out:=
 (bK (c1 (gr (c4 ox (az (gu bH "names" rQ (J 0) aU) (az (aI bw (J 1) (aT (.str "order"))) aU))) (c4 ox (az (HS bH BI (J 0)) (az (bg g5 (aI bw (J 1) (aT (.str "order")))) aU)))) (bo 2)) (bK (fa (di d2 (aI bw (J 1) (aT (.str "order")))) (bo 3) (bK (c1 (gr (J 2) (c4 ox (az (gu bH "ups" (hm BQ) (J 0) (az (J 3) aU)) (az (aI bw (aI bw (J 1) (aT (.str "ups"))) (J 3)) aU)))) (bo 2)) (bK (c1 (gr (J 2) (c4 ox (az (gu bH "above" (hm BJ) (J 0) (az (J 3) aU)) (az (bg mO (aI bw (aI bw (J 1) (aT (.str "far"))) (J 3))) aU)))) (bo 2)) (bK (c1 (gr (J 2) (c4 ox (az (gu bH "under" (hm BP) (J 0) (az (J 3) aU)) (az (bg mO (c4 Cc (az (J 1) (az (J 3) aU)))) aU)))) (bo 2)) (bK (c1 (gr (J 2) (c4 ox (az (gu bH "told" (hm BO) (J 0) (az (J 3) aU)) (az (bg ll (aI bw (aI bw (J 1) (aT (.str "told"))) (J 3))) aU)))) (bo 2)) (bK (c1 (gr (J 2) (c4 ox (az (gu bH "rooms" (hm BN) (J 0) (az (J 3) aU)) (az (bg ll (aI bw (aI bw (J 1) (aT (.str "lets"))) (J 3))) aU)))) (bo 2)) (bK (c1 (gu bH "must_of" (hm BM) (J 0) (az (J 3) aU)) (bo 4)) (c1 (gr (J 2) (c4 B0 (az (J 4) (az (r7 (aI bw (J 1) (aT (.str "musts"))) (J 3) (aT .bb)) aU)))) (bo 2))))))))) (bK (p5 (aI bw (J 1) (aT (.str "home"))) (bo 5) (c1 (gr (J 2) (c4 ox (az (gu bH "home" (hm BK) (J 0) (az (J 5) aU)) (az (aI bw (aI bw (J 1) (aT (.str "home"))) (J 5)) aU)))) (bo 2))) (cM (J 2)))))
end bu
namespace bu
open PySem PySem.Spec PyProof.Rows
variable[bk]
section
variable{C:O}{ns:List Str}{ai str:Str->List Str}
def anJ:e8 C "own" (bG C ns ai str)=some (.aK (ns.map λk=>(.inr k,.aK []))):=uN rfl
def O8{ns:List Str}{k:Str}(aw:k∈ns):bw (.aK (ns.map λk=>(.inr k,.aK []))) (.str k)=some (.aK []):=by
 show fo _ (.inr k)=_;rw[xe (λ_=>.aK []) k,if_pos aw]
def ac6{gY:List D->b'}{k:Str}(aw:k∈ns)(h:gY [bG C ns ai str,.str k]= .ok .bb):bS (CF C gY) 2 2 [bG C ns ai str,.str k]= .ok (.lst []):=by
 unfold bS;rw[if_pos (show [bG C ns ai str,.str k].length=2 from rfl),show eR 2 [bG C ns ai str,.str k]=[G (bG C ns ai str),G (.str k)]from rfl]
 unfold CF;rw[c5 (vR rfl rfl h)];unfold cM;simp only[bg,aI,J,gg,hU,aJ.bind,anJ,dv,O8 aw,ll,aJ.out,sH]
def ac3{gY:List D->b'}{k:Str}(aw:k∈ns)(h:gY [bG C ns ai str,.str k]= .ok .bb):bS (CE C gY) 2 2 [bG C ns ai str,.str k]= .ok (.lst []):=by
 unfold bS;rw[if_pos (show [bG C ns ai str,.str k].length=2 from rfl),show eR 2 [bG C ns ai str,.str k]=[G (bG C ns ai str),G (.str k)]from rfl]
 unfold CE;rw[c5 (vR rfl rfl h)];unfold cM;simp only[bg,aI,J,gg,hU,aJ.bind,anI,dv,O8 aw,ll,aJ.out,sH]
def acV:bS Hj 2 2 [.bb,.bb]= .ok (.aG true):=rfl
def same_refl{a:List Str}(h:a.length<=100):h7 [av a,av a]= .ok (.aG true):=by
 unfold av h7;simp only[rn];rw[if_pos ⟨h,h⟩];simp
def ajZ{F:List D->b'}(h:F ds= .ok d):hm F ds= .ok d:=by
 unfold hm;rw[h]
def vA{δ:aq->aJ D}{ε:aq}(bE:ε[2]? =some (G (.aG true)))(ar:2 < ε.length)(h:δ ε= .ok (.aG true) ε):c1 (gr (J 2) δ) (bo 2) ε= .nx ε:=by
 have e:gr (J 2) δ ε= .ok (.aG true) ε:=by
  unfold gr;simp only[J,bE,aJ.bind,dv,hL,if_true,h]
 rw[hq e ar]
 congr 1
 obtain⟨h1,h2⟩:=hf.mp bE;rw[<- h2,Nl]
def ak'{o:Out}(h:o= .ey d ε):sH o= .ok d:=by rw[h];rfl
def ac5{M:Md}(R:Run M){ye vm Ca BR Cb B5 B_ B7 B6 BY Y8:List D->b'}(h1:ye [bL C M]= .ok (av M.order))(h2:vm [bL C M]= .ok (.int M.order.length))(aN:∀k∈M.order,Ca [bL C M,.str k]= .ok (av (jZ M k)))(h4:∀k∈M.order,BR [bL C M,.str k]= .ok (av (cI (bO M k))))
  (cE:∀k∈M.order,Cb [bL C M,.str k]= .ok (av (cI (M.order.filter λj=>decide (k∈bO M j)))))(agb:∀k∈M.order,B5 [a_ M,.str k]= .ok (av (M.order.filter λj=>decide (k∈bO M j))))(dY:∀k∈M.order,B_ [bL C M,.str k]= .ok (.lst []))(l7:∀k∈M.order,B7 [bL C M,.str k]= .ok (.lst []))(zI:∀k∈M.order,B6 [bL C M,.str k]= .ok .bb)(tU:BY [.bb,.bb]= .ok (.aG true))(aD:∀k∈M.order,(jZ M k).length<=100):
  bS (CK C h7 ye vm Ca BR Cb B5 B_ B7 B6 BY Y8) 2 6 [bL C M,a_ M]= .ok (.aG true):=by
 have lo:M.order.length<=24:=R.ok.c_;have body:∀k∈M.order,∀v,(bK (c1 (gr (J 2) (c4 h7 (az (gu C "ups" (hm Ca) (J 0) (az (J 3) aU)) (az (aI bw (aI bw (J 1) (aT (.str "ups"))) (J 3)) aU)))) (bo 2)) (bK (c1 (gr (J 2) (c4 h7 (az (gu C "above" (hm BR) (J 0) (az (J 3) aU)) (az (bg mO (aI bw (aI bw (J 1) (aT (.str "far"))) (J 3))) aU)))) (bo 2)) (bK (c1 (gr (J 2) (c4 h7 (az (gu C "under" (hm Cb) (J 0) (az (J 3) aU)) (az (bg mO (c4 B5 (az (J 1) (az (J 3) aU)))) aU)))) (bo 2)) (bK (c1 (gr (J 2) (c4 h7 (az (gu C "told" (hm B_) (J 0) (az (J 3) aU)) (az (bg ll (aI bw (aI bw (J 1) (aT (.str "told"))) (J 3))) aU)))) (bo 2)) (bK (c1 (gr (J 2) (c4 h7 (az (gu C "rooms" (hm B7) (J 0) (az (J 3) aU)) (az (bg ll (aI bw (aI bw (J 1) (aT (.str "lets"))) (J 3))) aU)))) (bo 2)) (bK (c1 (gu C "must_of" (hm B6) (J 0) (az (J 3) aU)) (bo 4)) (c1 (gr (J 2) (c4 BY (az (J 4) (az (r7 (aI bw (J 1) (aT (.str "musts"))) (J 3) (aT .bb)) aU)))) (bo 2)))))))) [G (bL C M),G (a_ M),G (.aG true),G (.str k),v,none]= .nx [G (bL C M),G (a_ M),G (.aG true),G (.str k),G .bb,none]:=by
  intro k aw v;have iy:(M.ai.lookup k).isSome=true:=R.ok.ai k aw;have ue:bw (.aK (M.ups.map λp=>(.inr p.1,av p.2))) (.str k)=some (av (jZ M k)):=by
   show fo _ (.inr k)=_;rw[uQ av k];have:=J1 (k:=k) (l:=M.ups) (by rw[R.ue];exact aw)
   unfold jZ;cases h:M.ups.lookup k with
   | none=>rw[h]at this;cases this
   | some l=>rfl
  have kt:bw (.aK (M.told.map λp=>(.inr p.1,iC p.2))) (.str k)=some (.aK []):=by
   show fo _ (.inr k)=_;rw[uQ iC k,R.told k aw];rfl
  have wo:bw (.aK (M.lets.map λp=>(.inr p.1,iC p.2))) (.str k)=some (.aK []):=by
   show fo _ (.inr k)=_;rw[uQ iC k,R.lets k aw];rfl
  have DO:(bO M k).length<=24:=R.toqy.fl k aw;have SK:∀p:Str->Bool,(M.order.filter p).length<=24:=λp=>gX (Bb _ _) lo;have SS:∀l:List Str,(cI l).length=l.length:=λl=>(p7 l).length_eq;have ag:(az (J 3) aU) [G (bL C M),G (a_ M),G (.aG true),G (.str k),v,none]= .ok [.str k] [G (bL C M),G (a_ M),G (.aG true),G (.str k),v,none]:=rfl;have ei:∀{m:Str}{F:List D->b'}{d:D},(oO M.order (bO M) (jZ M)).lookup m=none->F [bL C M,.str k]= .ok d->gu C m (hm F) (J 0) (az (J 3) aU) [G (bL C M),G (a_ M),G (.aG true),G (.str k),v,none]= .ok d [G (bL C M),G (a_ M),G (.aG true),G (.str k),v,none]:=λbx cZ=>DY bx rfl ag (ajZ cZ);refine Eq.trans (c5 (vA rfl (by simp) (k9 (ei rfl (aN k aw)) (f9 (f9 rfl rfl (show bw (a_ M) (.str "ups")=_ from rfl)) rfl ue) (same_refl (aD k aw))))) ?_
  refine Eq.trans (c5 (vA rfl (by simp) (k9 (ei rfl (h4 k aw)) (mJ (f9 (f9 rfl rfl (DV M)) rfl (C' M iy)) (C_ (by omega))) (same_refl (by rw[SS];omega))))) ?_
  refine Eq.trans (c5 (vA rfl (by simp) (k9 (ei rfl (cE k aw)) (mJ (k9 rfl rfl (agb k aw)) (C_ (by have:=SK λj=>decide (k∈bO M j);omega))) (same_refl (by rw[SS];have:=SK λj=>decide (k∈bO M j);omega))))) ?_
  refine Eq.trans (c5 (vA rfl (by simp) (k9 (ei rfl (dY k aw)) (mJ (f9 (f9 rfl rfl (show bw (a_ M) (.str "told")=_ from rfl)) rfl kt) (show ll (.aK [])=some (av [])from rfl)) (same_refl (a:=[]) (by decide))))) ?_
  refine Eq.trans (c5 (vA rfl (by simp) (k9 (ei rfl (l7 k aw)) (mJ (f9 (f9 rfl rfl (J_ M)) rfl wo) (show ll (.aK [])=some (av [])from rfl)) (same_refl (a:=[]) (by decide))))) ?_
  refine Eq.trans (c5 (hq (ei rfl (zI k aw)) (by simp))) ?_
  exact vA (ε:=[G (bL C M),G (a_ M),G (.aG true),G (.str k),G .bb,none]) rfl (by simp) (k9 rfl rfl tU)
 obtain⟨ε',Ib,ig,fz,rfl⟩:=qX (γ:=bo 3) (β:=(bK (c1 (gr (J 2) (c4 h7 (az (gu C "ups" (hm Ca) (J 0) (az (J 3) aU)) (az (aI bw (aI bw (J 1) (aT (.str "ups"))) (J 3)) aU)))) (bo 2)) (bK (c1 (gr (J 2) (c4 h7 (az (gu C "above" (hm BR) (J 0) (az (J 3) aU)) (az (bg mO (aI bw (aI bw (J 1) (aT (.str "far"))) (J 3))) aU)))) (bo 2)) (bK (c1 (gr (J 2) (c4 h7 (az (gu C "under" (hm Cb) (J 0) (az (J 3) aU)) (az (bg mO (c4 B5 (az (J 1) (az (J 3) aU)))) aU)))) (bo 2)) (bK (c1 (gr (J 2) (c4 h7 (az (gu C "told" (hm B_) (J 0) (az (J 3) aU)) (az (bg ll (aI bw (aI bw (J 1) (aT (.str "told"))) (J 3))) aU)))) (bo 2)) (bK (c1 (gr (J 2) (c4 h7 (az (gu C "rooms" (hm B7) (J 0) (az (J 3) aU)) (az (bg ll (aI bw (aI bw (J 1) (aT (.str "lets"))) (J 3))) aU)))) (bo 2)) (bK (c1 (gu C "must_of" (hm B6) (J 0) (az (J 3) aU)) (bo 4)) (c1 (gr (J 2) (c4 BY (az (J 4) (az (r7 (aI bw (J 1) (aT (.str "musts"))) (J 3) (aT .bb)) aU)))) (bo 2))))))))) D.str
  (λpre ε=>∃ig fz,ε=[G (bL C M),G (a_ M),G (.aG true),ig,fz,none]) M.order [G (bL C M),G (a_ M),G (.aG true),none,none,none] ⟨none,none,rfl⟩ (by
   rintro pre k hs ε e ⟨ig,fz,rfl⟩;exact⟨_,rfl,_,.inl (body k (by rw[e];simp) fz),_,_,rfl⟩)
 unfold bS;rw[if_pos (show [bL C M,a_ M].length=2 from rfl),show eR 6 [bL C M,a_ M]=[G (bL C M),G (a_ M),none,none,none,none]from rfl]
 unfold CK;have eu:∀{bf cR:aq->aJ D}{ε:aq},bf ε= .ok (.aG true) ε->cR ε= .ok (.aG true) ε->gr bf cR ε= .ok (.aG true) ε:=λ{bf cR ε} af ab=>by
  unfold gr;rw[af];simp only[aJ.bind,dv,hL,if_true,ab]
 have cY:gu C "names" ye (J 0) aU [G (bL C M),G (a_ M),none,none,none,none]= .ok (av M.order) [G (bL C M),G (a_ M),none,none,none,none]:=DY (ds:=[]) rfl rfl rfl h1;have dC:HS C vm (J 0) [G (bL C M),G (a_ M),none,none,none,none]= .ok (.int M.order.length) [G (bL C M),G (a_ M),none,none,none,none]:=by
  show(if C=C then(match vm [bL C M]with | .ok (.int n)=>if 0<=n/\n < 9223372036854775808 then aJ.ok (D.int n) _ else .no | _=>.no)else .no)=_
  rw[if_pos rfl,h2];exact if_pos ⟨by omega,by omega⟩
 have eX:bg g5 (aI bw (J 1) (aT (.str "order"))) [G (bL C M),G (a_ M),none,none,none,none]= .ok (.int M.order.length) [G (bL C M),G (a_ M),none,none,none,none]:=mJ (f9 rfl rfl (uk M)) (by simp[av,g5])
 refine ak' (ε:=[G (bL C M),G (a_ M),G (.aG true),ig,fz,none]) ?_;refine Eq.trans (c5 (hq (eu (k9 cY (f9 rfl rfl (uk M)) (same_refl (by omega))) (k9 dC eX (show h7 [.int (M.order.length:Int),.int (M.order.length:Int)]= .ok (.aG true)from by show b'.ok (.aG (decide _))=_;rw[decide_eq_true rfl]))) (i:=2) (by simp))) ?_
 refine Eq.trans (c5 (aC:=[G (bL C M),G (a_ M),G (.aG true),ig,fz,none]) Ib) ?_;have cu:bw (a_ M) (.str "home")=some (.aK []):=by
  show some (iC M.home)=_;rw[R.home];rfl
 refine Eq.trans (c5 (aC:=[G (bL C M),G (a_ M),G (.aG true),ig,fz,none]) ?_) rfl;have HO:aI bw (J 1) (aT (.str "home")) [G (bL C M),G (a_ M),G (.aG true),ig,fz,none]= .ok (.aK []) [G (bL C M),G (a_ M),G (.aG true),ig,fz,none]:=f9 rfl rfl cu;unfold p5;rw[HO];rfl
end
end bu
namespace bu
open PySem
def bX(ns:List Int)(p c z:Int):D:=.lst [.lst (ns.map .int),.int p,.int c,.int z]
structure j5(ns:List Int)(p c z:Int):Prop where
 len:ns.length<=63
 m4:0<=p
 ry:0<=z
 eH:z < 2147483647
open Classical in
noncomputable def hi:D->List D->k7:=λd ds=>if h:∃t:List Int×Int×Int×Int×Int,d=bX t.1 t.2.1 t.2.2.1 t.2.2.2.1/\ds=[.int t.2.2.2.2]/\j5 t.1 t.2.1 t.2.2.1 t.2.2.2.1/\0 < t.2.2.2.2/\t.2.2.2.2 < 1000000 then
  (let t:=h.choose
   let a:=fS t.1 t.2.1 t.2.2.1 t.2.2.2.1 t.2.2.2.2
   let r:=iW a.1 a.2.1 a.2.2 t.2.2.2.2
   .ok (.int r.1) (bX t.1 r.2.1 r.2.2.1 r.2.2.2))else .no
def Sh:∀{a b:List Int},a.map D.int=b.map D.int->a=b
 | [],[],_=>rfl
 | [],_::_,h=>by cases h
 | _::_,[],h=>by cases h
 | x::a,y::b,h=>by
  rw[fM,fM]at h;injection h with h1 h2
  rw[Sh h2];injection h1 with aN
  rw[aN]
def aaQ(h:bX ns p c z=bX f_ p' c' z'):ns=f_/\p=p'/\c=c'/\z=z':=by
 unfold bX at h;injection h with h
 injection h with h1 h
 injection h with h2 h
 injection h with aN h
 injection h with h4 _
 injection h1 with h1
 injection h2 with h2
 injection aN with aN
 injection h4 with h4
 exact⟨Sh h1,h2,aN,h4⟩
def Qm{p c z many:Int}(B:j5 ns p c z)(bE:0 < many)(h1:many < 1000000):
  hi (bX ns p c z) [.int many]= .ok (.int (iW (fS ns p c z many).1 (fS ns p c z many).2.1 (fS ns p c z many).2.2 many).1) (bX ns (iW (fS ns p c z many).1 (fS ns p c z many).2.1 (fS ns p c z many).2.2 many).2.1 (iW (fS ns p c z many).1 (fS ns p c z many).2.1 (fS ns p c z many).2.2 many).2.2.1 (iW (fS ns p c z many).1 (fS ns p c z many).2.1 (fS ns p c z many).2.2 many).2.2.2):=by
 have h:∃t:List Int×Int×Int×Int×Int,bX ns p c z=bX t.1 t.2.1 t.2.2.1 t.2.2.2.1/\[D.int many]=[.int t.2.2.2.2]/\j5 t.1 t.2.1 t.2.2.1 t.2.2.2.1/\0 < t.2.2.2.2/\t.2.2.2.2 < 1000000:=⟨(ns,p,c,z,many),rfl,rfl,B,bE,h1⟩;unfold hi;rw[dif_pos h];obtain⟨ag,aF,-⟩:=h.choose_spec;generalize h.choose=t at ag aF;obtain⟨dK,dy,fD,gD,kc⟩:=t;obtain⟨rfl,rfl,rfl,rfl⟩:=aaQ ag;injection aF with aF
 injection aF with aF
 subst aF;rfl
def ale{p c z many:Int}(bE:0 < many)(aB:0<=p)(DD:0<=z)(DE:z < 2147483647):0<=(iW p c z many).1/\(iW p c z many).1 < many/\0<=(iW p c z many).2.1/\0<=(iW p c z many).2.2.2/\(iW p c z many).2.2.2 < 2147483647:=by
 unfold iW;by_cases h:many<=c
 ·rw[if_pos h];exact⟨xt _ (by omega),xr _ bE,aB,DD,DE⟩
 ·rw[if_neg h];exact⟨xt _ (by omega),xr _ bE,aB,xt _ (by decide),xr _ (by decide)⟩
def ald{p c z many:Int}(aB:0<=p)(DD:0<=z)(DE:z < 2147483647):0<=(fS ns p c z many).1/\0<=(fS ns p c z many).2.2/\(fS ns p c z many).2.2 < 2147483647:=by
 unfold fS;by_cases h:c < many/\p < (ns.length:Int)
 ·rw[if_pos h];exact⟨by show 0<=p+1;omega,xt _ (by decide),xr _ (by decide)⟩
 ·rw[if_neg h];exact⟨aB,DD,DE⟩
def Uo(B:j5 ns p c z){many:Int}(bE:0 < many)(h1:many < 1000000):∃g p' c' z',hi (bX ns p c z) [.int many]= .ok (.int g) (bX ns p' c' z')/\0<=g/\g < many/\j5 ns p' c' z':=by
 obtain⟨dK,dy,fD⟩:=ald (ns:=ns) (c:=c) (many:=many) B.m4 B.ry B.eH;obtain⟨dI,em,iP,yL,yM⟩:=ale (c:=(fS ns p c z many).2.1) bE dK dy fD;exact⟨_,_,_,_,Qm B bE h1,dI,em,B.len,iP,yL,yM⟩
variable[bk]
def UJ:∀{ns:List Int}{vs:List V},cP dW vs (ns.map D.int)->vs=ns.map V.int
 | [],_,h=>by cases h;rfl
 | n::ns,_,.cons a r=>by
  rw[UJ r];cases a;rfl
end bu
namespace gB
open PySem bu
section
variable[bk]{P:dn}{w:cH}{K:b5}{mg:Str->Option aj}{base:cg}
def akI(b7:aY P w K mg base bq 1 f aE ["_law_bag_here","_law_many"] U8):aY P w K mg base bq 1 f aE ["_law_bag_here","_law_many"] (mj hi):=b7.imp λvs H Q E h=>by
 obtain⟨U,b,cJ,eJ,ds,rfl,hC,o,r,al,bm,bB,k⟩:=h;by_cases z:∃t:List Int×Int×Int×Int×Int,eJ=bX t.1 t.2.1 t.2.2.1 t.2.2.2.1/\ds=[.int t.2.2.2.2]/\j5 t.1 t.2.1 t.2.2.1 t.2.2.2.1/\0 < t.2.2.2.2/\t.2.2.2.2 < 1000000
 ·obtain⟨⟨ns,p,c,z,many⟩,rfl,rfl,B,bE,h1⟩:=z;rw[show hi (bX ns p c z) [.int many]=_ from Qm B bE h1]at k
  obtain⟨_,_,rfl,b4,r⟩:=r.inv;obtain rfl:=r.inv;obtain rfl:=b4.inv;cases o with | lst ab rh=>
  obtain⟨_,_,rfl,alT,rh⟩:=rh.inv;obtain⟨_,_,rfl,ao,rh⟩:=rh.inv;obtain⟨_,_,rfl,bZ,rh⟩:=rh.inv;obtain⟨_,_,rfl,fk,rh⟩:=rh.inv;obtain rfl:=rh.inv;obtain rfl:=ao.inv;obtain rfl:=bZ.inv;obtain rfl:=fk.inv;obtain⟨l,vs,rfl,dK,dI⟩:=alT.inv;obtain rfl:=UJ dI;refine⟨b,l,ns,p,c,z,many,rfl,⟨ab,(cB.mp dK).2,B.m4,B.ry,B.eH⟩,B.len,bE,h1,?_⟩;refine k _ _ ⟨λa o cm na e=>by rw[bj na];exact e,λa h=>?_,bk.st H _ (λa φ e=>?_) (λa h=>bj λz=>hC (by rw[<- z];exact bm a h)) bB⟩ (.lst cw ?_) (.int _)
  ·by_cases z:a=b
   ·rw[z,cw]at h;cases h
   ·rw[bj z]at h;exact h
  ·rw[bj λz=>by rw[z,ab]at e;cases e];exact e
  ·rw[k' (.inr rfl)];exact .cons (.lst dK dI) (.cons (.int _) (.cons (.int _) (.cons (.int _) .nil)))
 ·unfold hi at k;rw[dif_neg z]at k;exact k.elim
end
end gB
namespace bu
open PySem PySem.Spec PyProof.Rows
variable[bk]
def EB(B:j5 ns p c z){many:Int}(bE:0 < many)(h1:many < 1000000):∃g p' c' z',0<=g/\g < many/\j5 ns p' c' z'/\∀{cy:aq->aJ (List D)}{ε:aq},ε[0]? =some (some (true,bX ns p c z))->cy ε= .ok [.int many] ε->gs (e' hi) 0 cy ε= .ok (.int g) (ε.set 0 (some (true,bX ns p' c' z'))):=by
 obtain⟨g,p',c',z',e,h2,aN,xV⟩:=Uo B bE h1;refine⟨g,p',c',z',h2,aN,xV,λ{cy ε} he hd=>?_⟩;have bQ:e' hi (bX ns p c z) [.int many]= .ok (.int g) (bX ns p' c' z'):=by
  unfold e';rw[e]
 unfold gs;rw[he];dsimp only;rw[hd];simp only[aJ.bind,he,bQ]
def w_:List Str:=["","q","tor","mmmmmmm","gull","be"]
def EY:List Int:=[1,3,5,7,9,11]
def Cw:Str:="abcdefghijklmnopqrstuvwxyz"
def Vz:∀t∈w_,t.length<=7:=by decide
def anM:∀t∈w_,∀a∈List.range 8,(nv t none (some (a:Int))).length<=7/\(nv t (some (a:Int)) none).length<=7:=by decide+kernel
def DH{α:Type}(l:List α){g:Int}(bE:0<=g)(h1:g < l.length):∃x∈l,jM l g=some x:=by
 obtain⟨j,rfl⟩:=M_ bE;have a2:j < l.length:=by omega
 exact⟨l[j],Nd a2,yK (jC a2)⟩
def Mn(c:Nat):(⟨#[c]⟩:Str).length=1:=rfl
def gG(a b:Str):(a++b).length=a.length+b.length:=by
 show(a.cps++b.cps).size=_;rw[Array.size_append];rfl
def aax{i:Nat}{δ:aq->aJ D}{ε:aq}(h:ε[i]? =some (some (true,.lst ds)))(hd:δ ε= .ok d ε)(ar:ds.length < 1000):rk i δ ε= .nx (ε.set i (some (true,.lst (ds++[d])))):=by
 unfold rk;rw[h];dsimp only;rw[hd];dsimp only[aJ.out];rw[h];dsimp only;rw[if_pos ar]
def ja(b:D)(t:Str)(a s p:Int)(f:List Str)(k sg:Option (Bool×D)):aq:=[some (true,b),G (.int 12),G (.str t),G (.int a),G (.int s),G (.int p),G (.str Cw),some (true,av f),k,sg]
def ajm{t:Str}{a s p:Int}{f:List Str}{k:Nat}(cj:t∈w_)(ags:0<=a)(Dq:a<=t.length)(aqq:0<=s)(aqo:0<=p)(aqp:p<=11)(aw:k < 12)(aH:f.length < 100):
  ∃x UZ,x.length<=20/\(bK (c1 (aI v1 (J 6) (aI v4 (aI ki (J 4) (aI tP (J 5) (J 8))) (aT (.int 26)))) (bo 9)) (rk 7 (aI oK (aI oK (jo oN (J 2) (λε=>.ok none ε) (kf (J 3))) (J 9)) (jo oN (J 2) (kf (J 3)) (λε=>.ok none ε))))) (ja b t a s p f (G (.int (k:Int))) sg)= .nx (ja b t a s p (f++[x]) (G (.int (k:Int))) UZ):=by
 have gz:=Vz t cj;obtain⟨iO,rfl⟩:=M_ ags;obtain⟨hM,d_⟩:=anM t cj iO (oi.mpr (by omega))
 have z7:0<=(s+p * (k:Int)) % 26:=xt _ (by decide)
 have g8:(s+p * (k:Int)) % 26 < 26:=xr _ (by decide)
 obtain⟨c,-,aL⟩:=DH Cw.cps.toList (g:=(s+p * (k:Int)) % 26) z7 g8;have ag:aI v4 (aI ki (J 4) (aI tP (J 5) (J 8))) (aT (.int 26)) (ja b t iO s p f (G (.int (k:Int))) sg)= .ok (.int ((s+p * (k:Int)) % 26)) (ja b t iO s p f (G (.int (k:Int))) sg):=by
  have cY:tP (.int p) (.int (k:Int))=some (.int (p * (k:Int))):=by
   show(if _ then _ else _)=_
   rw[if_pos];have:decide (-(2 ^ 64:Int)< p/\p < 2 ^ 64)=true:=decide_eq_true ⟨by omega,by omega⟩
   simp only[this,V6]
  exact f9 (f9 (bf:=J 4) rfl (f9 (bf:=J 5) rfl rfl cY) rfl) rfl rfl
 have aF:aI v1 (J 6) (aI v4 (aI ki (J 4) (aI tP (J 5) (J 8))) (aT (.int 26))) (ja b t iO s p f (G (.int (k:Int))) sg)= .ok (.str ⟨#[c]⟩) (ja b t iO s p f (G (.int (k:Int))) sg):=by
  refine f9 (bf:=J 6) rfl ag ?_;show(if Cw.length<=1000 then(jM Cw.cps.toList _).map _ else none)=_
  rw[if_pos (by decide),aL]
  rfl
 refine⟨nv t none (some (iO:Int))++⟨#[c]⟩++nv t (some (iO:Int)) none,G (.str ⟨#[c]⟩),by rw[gG,gG,Mn];omega,?_⟩
 refine Eq.trans (c5 (hq aF (i:=9) (by show 9 < 10;decide))) ?_
 have cU:jo oN (J 2) (λε=>.ok none ε) (kf (J 3)) (ja b t iO s p f (G (.int (k:Int))) (G (.str ⟨#[c]⟩)))= .ok (.str (nv t none (some (iO:Int)))) (ja b t iO s p f (G (.int (k:Int))) (G (.str ⟨#[c]⟩))):=by
  show dv (if t.length<=1000 then some (D.str (nv t none (some (iO:Int))))else none) _=_
  rw[if_pos (by omega)]
  rfl
 have jn:jo oN (J 2) (kf (J 3)) (λε=>.ok none ε) (ja b t iO s p f (G (.int (k:Int))) (G (.str ⟨#[c]⟩)))= .ok (.str (nv t (some (iO:Int)) none)) (ja b t iO s p f (G (.int (k:Int))) (G (.str ⟨#[c]⟩))):=by
  show dv (if t.length<=1000 then some (D.str (nv t (some (iO:Int)) none))else none) _=_
  rw[if_pos (by omega)]
  rfl
 have ad:∀{x y:Str},x.length+y.length<=1000->oK (.str x) (.str y)=some (.str (x++y)):=λh=>if_pos h;have ke:aI oK (aI oK (jo oN (J 2) (λε=>.ok none ε) (kf (J 3))) (J 9)) (jo oN (J 2) (kf (J 3)) (λε=>.ok none ε)) (ja b t iO s p f (G (.int (k:Int))) (G (.str ⟨#[c]⟩)))= .ok (.str (nv t none (some (iO:Int))++⟨#[c]⟩++nv t (some (iO:Int)) none)) (ja b t iO s p f (G (.int (k:Int))) (G (.str ⟨#[c]⟩))):=
  f9 (f9 cU (cR:=J 9) (b:=.str ⟨#[c]⟩) rfl (ad (by rw[Mn];omega))) jn (ad (by rw[gG,Mn];omega))
 show rk 7 _ (ja b t iO s p f (G (.int (k:Int))) (G (.str ⟨#[c]⟩)))=_;rw[aax (ds:=f.map .str) rfl ke (by rw[dV];omega)]
 show Out.nx (ja b t iO s p f (G (.int (k:Int))) (G (.str ⟨#[c]⟩)) |>.set 7 _)=_
 unfold ja av;rw[og];rfl
def acW(B:j5 ns p c z):∃names p' c' z',pG (vD hi) 2 10 (bX ns p c z) [.int 12]= .ok (av names) (bX ns p' c' z')/\j5 ns p' c' z'/\∀x∈names,x.length<=20:=by
 obtain⟨cY,bc,hM,eH,ic,qa,oq,yc⟩:=EB B (many:=6) (by decide) (by decide)
 obtain⟨t,cj,it⟩:=DH (w_.map D.str) (g:=cY) ic (by simpa[w_]using qa)
 obtain⟨t,R4,rfl⟩:=fB.mp cj;have gz:=Vz t R4;obtain⟨a,cL,d_,ek,mY,MG,xW,Y2⟩:=EB oq (many:=(t.length:Int)+1) (by omega) (by omega)
 obtain⟨s,iV,nH,o_,uf,VJ,YH,Y3⟩:=EB xW (many:=26) (by decide) (by decide)
 obtain⟨gR,m5,lX,uS,z4,MH,YI,Y4⟩:=EB YH (many:=6) (by decide) (by decide)
 obtain⟨sp,kO,is⟩:=DH (EY.map D.int) (g:=gR) z4 (by simpa[EY]using MH)
 obtain⟨sp,ahx,rfl⟩:=fB.mp kO;have dU:0<=sp/\sp<=11:=by
  simp only[EY,dR,xA,or_false]at ahx;omega
 obtain⟨ε',Ib,f,k,sg,rfl,aH,eh⟩:=qX (γ:=bo 8) (β:=(bK (c1 (aI v1 (J 6) (aI v4 (aI ki (J 4) (aI tP (J 5) (J 8))) (aT (.int 26)))) (bo 9)) (rk 7 (aI oK (aI oK (jo oN (J 2) (λε=>.ok none ε) (kf (J 3))) (J 9)) (jo oN (J 2) (kf (J 3)) (λε=>.ok none ε)))))) (λ(i:Nat)=>D.int (i:Int))
  (λpre ε=>∃f k sg,ε=ja (bX ns m5 lX uS) t a s sp f k sg/\(∀x∈f,x.length<=20)/\f.length=pre.length) (List.range 12) (ja (bX ns m5 lX uS) t a s sp [] none none) ⟨[],none,none,rfl,λ_ h=>by simp at h,rfl⟩ (by
   rintro pre i hs ε e ⟨f,k,sg,rfl,aH,eh⟩;have au:i < 12:=by
    have:i∈List.range 12:=by rw[e];simp
    exact oi.mp this
   have aB:pre.length < 12:=by
    have:=congrArg List.length e;simp at this;omega
   obtain⟨x,UZ,ah,cC⟩:=ajm (b:=bX ns m5 lX uS) (t:=t) (a:=a) (s:=s) (p:=sp) (f:=f) (k:=i) (sg:=sg) R4 mY (by omega) uf dU.1 dU.2 au (by omega)
   refine⟨_,rfl,_,.inl cC,_,_,_,rfl,λy b2=>?_,by rw[oc,oc,eh];rfl⟩
   rcases nn.mp b2 with h | h
   ·exact aH y h
   ·rw[gK.mp h];exact ah)
 refine⟨f,m5,lX,uS,?_,YI,aH⟩;unfold pG;rw[if_pos (show [D.int 12].length+1=2 from rfl)]
 have dq:vD hi (stI 10 (bX ns p c z) [.int 12])= .ey (av f) ((ja (bX ns m5 lX uS) t a s sp f k sg).set 7 (G (av f))):=by
  unfold vD;refine Eq.trans (c5 (hq (f9 (a:=.lst (w_.map .str)) (aC:=stI 10 (bX ns p c z) [.int 12]) rfl (yc rfl rfl) it) (i:=2) (by show 2 < 10;decide))) ?_
  have aF:(az (aI ki (bg r9 (J 2)) (aT (.int 1))) aU) (((stI 10 (bX ns p c z) [.int 12]).set 0 (some (true,bX ns bc hM eH))).set 2 (G (.str t)))= .ok [.int ((t.length:Int)+1)] (((stI 10 (bX ns p c z) [.int 12]).set 0 (some (true,bX ns bc hM eH))).set 2 (G (.str t))):=by
   have g:bg r9 (J 2) (((stI 10 (bX ns p c z) [.int 12]).set 0 (some (true,bX ns bc hM eH))).set 2 (G (.str t)))= .ok (.int t.length) (((stI 10 (bX ns p c z) [.int 12]).set 0 (some (true,bX ns bc hM eH))).set 2 (G (.str t))):=mJ (a:=.str t) rfl (if_pos (by omega))
   unfold az aI;rw[g];rfl
  refine Eq.trans (c5 (hq (Y2 rfl aF) (i:=3) (by show 3 < 10;decide))) ?_
  refine Eq.trans (c5 (hq (Y3 rfl rfl) (i:=4) (by show 4 < 10;decide))) ?_
  refine Eq.trans (c5 (hq (f9 (a:=.lst (EY.map .int)) (aC:=((((((stI 10 (bX ns p c z) [.int 12]).set 0 (some (true,bX ns bc hM eH))).set 2 (G (.str t))).set 0 (some (true,bX ns cL d_ ek))).set 3 (G (.int a))).set 0 (some (true,bX ns iV nH o_))).set 4 (G (.int s))) rfl (Y4 rfl rfl) is) (i:=5) (by show 5 < 10;decide))) ?_
  refine Eq.trans (c5 (hq rfl (i:=6) (by show 6 < 10;decide))) ?_
  refine Eq.trans (c5 (aC:=ja (bX ns m5 lX uS) t a s sp [] none none) rfl) ?_;refine Eq.trans (c5 (aC:=ja (bX ns m5 lX uS) t a s sp f k sg) ?_) rfl;refine Eq.trans ?_ Ib;rfl
 rw[dq];rfl
end bu
namespace bu
open PySem PySem.Spec PyProof.Rows
section
variable{X:bp}
abbrev Uu:iJ:=λx y H Q=>∃(p q p' q':O)(a b c:Str),x= .ref p/\y= .ref q/\H p=some (.tup [.str a,.ref p'])/\H q=some (.tup [.str a,.ref q'])/\H p'=some (.tup [.str b,.str c])/\H q'=some (.tup [.str b,.str c])/\Q (.aG false) H
def ak5(aD:X.A.units+1 < cLine):f6 X (compareOp .NotEq) (λx y H Q=>K4 not x y H Q∨Uu x y H Q):=λaa s σ H x y v u Q I bt br h=>h.elim (ak4 (Nm aD) aa s σ H x y v u Q I bt br) (ak2 aD aa s σ H x y v u Q I bt br)
def Vu(K:b5)(aP tb:TE):TE:=λσ H Q=>aP σ H λx H1=>∃k,Cu K x H1 k/\if k=true then Q x H1 else tb σ H1 Q
def alr{a b:ck}{dG:List ck}(af:bz X a aP)(ab:bz X (.BoolOp .Or (b::dG) pos) tb):bz X (.BoolOp .Or (a::b::dG) pos) (Vu X.K aP tb):=by
 intro aa s σ H Q I h;refine BoolOp_or (bJ (af aa s σ H _ I h) λv s1 ⟨x,H1,aW,b4,k,aw,ao⟩=>?_);refine j4 (VD aa s1 σ H1 x v (λc H'=>c=k/\H'=H1) aW b4 ⟨k,aw,rfl,rfl⟩) (λc s2 ⟨H2,bU,ag,aF⟩=>?_) λ_ _ z=>z;subst ag aF;cases c with
 | false=>exact ab aa s2 σ H2 Q bU ao
 | true=>exact⟨x,H2,bU,b4,ao⟩
end
variable[bk]
section
variable{E:e5}{aP tb:TE}{bf cR:aq->aJ D}
def C9:D->Option D
 | .int i=>some (.int (-i))
 | _=>none
def alO(af:b8 E aP bf):b8 E (Vy (Az λi=>.int (-i)) aP) (bg C9 bf):=λT ω H σ ε Q e q=>by
 refine af T ω H σ ε _ e (q.then λx aC v a0 H1 _ ag s1 bc ao=>?_);obtain⟨d,hd,bZ⟩:=ao.opt;cases x<;>simp[C9]at hd;subst hd;cases bc;exact⟨_,rfl,bZ _ a0 H1 ag .refl (.int _)⟩
def C0(bf cR:aq->aJ D):aq->aJ D:=λε=>(bf ε).bind λa aC=>match a with
 | .bb=>cR aC
 | .tup (d::ds)=>.ok (.tup (d::ds)) aC
 | _=>.no
def alP{K:b5}(af:b8 E aP bf)(ab:b8 E tb cR):b8 E (Vu K aP tb) (C0 bf cR):=λT ω H σ ε Q e q=>by
 refine af T ω H σ ε _ e (q.then λx aC v a0 H1 _ ag s1 bc ao=>?_);cases x<;>try (exact ao.elim)
 ·cases bc;exact⟨false,rfl,ab T a0 H1 σ aC Q ag ao⟩
 ·rename_i ds _;cases ds with
  | nil=>exact ao.elim
  | cons d ds=>
   obtain⟨a,vs,rfl,h1,h2⟩:=p4 (.inl bc);refine⟨true,.inr (.inl ⟨vs,gL.of h1,by rw[h2.isEmpty];rfl⟩),?_⟩
   exact ao _ a0 H1 ag .refl bc
def zc:D->Option (Str×Str)
 | .tup [.str a,.str b]=>some (a,b)
 | _=>none
def CU:D->Option (Str×Str×Str)
 | .tup [.str a,d]=>(zc d).map λp=>(a,p)
 | _=>none
def Hx(h:zc d=some p):d= .tup [.str p.1,.str p.2]:=by
 unfold zc at h;split at h<;>cases h;rfl
def Py(h:CU d=some p):d= .tup [.str p.1,.tup [.str p.2.1,.str p.2.2]]:=by
 unfold CU at h;split at h
 ·obtain⟨q,e,rfl⟩:=jD.mp h;rw[Hx e]
 ·cases h
def tQ(x y:D):Option D:=match zc x,zc y with
 | some p,some q=>some (.aG (!decide (p.1=q.1/\p.2=q.2)))
 | _,_=>match CU x,CU y with
  | some p,some q=>if p=q then some (.aG false)else none
  | _,_=>none
def K8{H:ak}(h:ka T (.tup [.str a,.str b]) ω H x):∃p,x= .ref p/\H p=some (.tup [.str a,.str b]):=by
 obtain⟨p,vs,rfl,h1,h2⟩:=p4 h;obtain rfl:=K' h2 rfl;exact⟨p,rfl,h1⟩
def UB{H:ak}(h:ka T (.tup [.str a,.tup [.str b,.str c]]) ω H x):∃p q,x= .ref p/\H p=some (.tup [.str a,.ref q])/\H q=some (.tup [.str b,.str c]):=by
 obtain⟨p,vs,rfl,h1,h2⟩:=p4 h;cases h2 with | cons b4 h2=>
 cases h2 with | cons da h2=>
 cases h2;obtain⟨q,rfl,aN⟩:=K8 (.inl da);cases b4;exact⟨p,q,rfl,h1,aN⟩
def ajU:iq (λx y H Q=>K4 not x y H Q∨Uu x y H Q) tQ:=o0 λT ω H x y dx g2 d Q d6 eM aH k=>by
 unfold tQ at aH;split at aH
 ·rename_i p q h1 h2;cases aH;rw[Hx h1]at d6;rw[Hx h2]at eM;obtain⟨a,rfl,h1⟩:=K8 d6;obtain⟨b,rfl,h2⟩:=K8 eM;exact .inl ⟨a,b,_,_,_,_,rfl,rfl,h1,h2,k _ (.aG _)⟩
 ·split at aH
  ·rename_i p q h1 h2;by_cases z:p=q
   ·subst z;rw[if_pos rfl]at aH;cases aH;rw[Py h1]at d6;rw[Py h2]at eM;obtain⟨a,iu,rfl,h1,aN⟩:=UB d6;obtain⟨b,jN,rfl,h2,h4⟩:=UB eM;exact .inr ⟨a,b,_,_,_,_,_,rfl,rfl,h1,h2,aN,h4,k _ (.aG _)⟩
   ·rw[if_neg z]at aH;cases aH
  ·cases aH
end
end bu
namespace bu
open PySem PySem.Spec PyProof.Rows
variable[bk]
def Un(B:j5 ns p c z){many:Int}(bE:0 < many)(h1:many < 1000000):∃g p' c' z',0<=g/\g < many/\j5 ns p' c' z'/\∀{i:Nat}{cy:aq->aJ (List D)}{ε:aq},ε[i]? =some (some (true,bX ns p c z))->cy ε= .ok [.int many] ε->gs (e' hi) i cy ε= .ok (.int g) (ε.set i (some (true,bX ns p' c' z'))):=by
 obtain⟨g,p',c',z',e,h2,aN,xV⟩:=Uo B bE h1;refine⟨g,p',c',z',h2,aN,xV,λ{i cy ε} he hd=>?_⟩;have bQ:e' hi (bX ns p c z) [.int many]= .ok (.int g) (bX ns p' c' z'):=by
  unfold e';rw[e]
 unfold gs;rw[he];dsimp only;rw[hd];simp only[aJ.bind,he,bQ]
def ed(b d:D)(M:Md)(x s u w h:Option (Bool×D)):aq:=[none,some (true,b),G (a_ M),some (true,d),x,s,u,w,h]
section
variable{ns:List Int}
def VL{L:List Str}(hP:L≠[])(ar:L.length<=5):∀(ds:List D)(acc:List Str){p c z:Int},j5 ns p c z->∃us p' c' z',j5 ns p' c' z'/\us.length=ds.length/\(∀y∈us,y∈L)/\
  iD (bo 0) (λε=>.ok true ε) (aI l3 (J 2) (gs (e' hi) 1 (az (bg g5 (J 2)) aU))) 1 [1,5] (some (1,1)) ds (acc.map .str) (ed (bX ns p c z) d M x (G (av L)) u w h)= .ok ((acc++us).map .str) (ed (bX ns p' c' z') d M x (G (av L)) u w h)
 | [],acc,p,c,z,B=>⟨[],p,c,z,B,rfl,λ_ h=>(by cases h),by rw[mu];rfl⟩
 | e::ds,acc,p,c,z,B=>by
  have JQ:0 < L.length:=FA.mpr hP;obtain⟨g,bc,hM,eH,Df,cY,oq,yc⟩:=Un B (many:=(L.length:Int)) (by omega) (by omega)
  obtain⟨y,b2,ah2⟩:=DH (L.map D.str) (g:=g) Df (by simpa using cY)
  obtain⟨y,ahH,rfl⟩:=fB.mp b2;obtain⟨us,cL,d_,ek,xW,h2,aN,h4⟩:=VL hP ar (d:=d) (M:=M) (x:=x) (u:=u) (w:=w) (h:=h) ds (acc++[y]) oq;refine⟨y::us,cL,d_,ek,xW,by simp[h2],λq a9=>?_,?_⟩
  ·rcases dR.mp a9 with z | z
   ·rw[z];exact ahH
   ·exact aN q z
  ·have HR:(az (bg g5 (J 2)) aU) [G e,some (true,bX ns p c z),G (av L)]= .ok [.int (L.length:Int)] [G e,some (true,bX ns p c z),G (av L)]:=by
    have:bg g5 (J 2) [G e,some (true,bX ns p c z),G (av L)]= .ok (.int (L.length:Int)) [G e,some (true,bX ns p c z),G (av L)]:=mJ (a:=av L) rfl (by simp[av,g5])
    unfold az;rw[this];rfl
   have adU:aI l3 (J 2) (gs (e' hi) 1 (az (bg g5 (J 2)) aU)) [G e,some (true,bX ns p c z),G (av L)]= .ok (.str y) [G e,some (true,bX ns bc hM eH),G (av L)]:=f9 (bf:=J 2) (a:=av L) rfl (yc (i:=1) rfl HR) ah2;have cE:iD (bo 0) (λε=>.ok true ε) (aI l3 (J 2) (gs (e' hi) 1 (az (bg g5 (J 2)) aU))) 1 [1,5] (some (1,1)) (e::ds) (acc.map .str) (ed (bX ns p c z) d M x (G (av L)) u w h)=iD (bo 0) (λε=>.ok true ε) (aI l3 (J 2) (gs (e' hi) 1 (az (bg g5 (J 2)) aU))) 1 [1,5] (some (1,1)) ds ((acc++[y]).map .str) (ed (bX ns bc hM eH) d M x (G (av L)) u w h):=by
    rw[iD];show(if true=true then(match some [G e,some (true,bX ns p c z),G (av L)]with | none=>aJ.no | some aC=>_)else _)=_
    rw[if_pos rfl];show(aI l3 (J 2) (gs (e' hi) 1 (az (bg g5 (J 2)) aU)) [G e,some (true,bX ns p c z),G (av L)]).bind _=_;rw[adU,og];rfl
   rw[cE,h4];simp
def abh{δ:aq->aJ D}{ε aC:aq}(h:δ ε= .ok a aC):az δ aU ε= .ok [a] aC:=by
 unfold az;rw[h];rfl
def ajs(n:Nat)(l:List Str):m2 (n+1) (av l)=true:=by
 show(l.map D.str).all (m2 n)=true;rw[xv];refine pg.mpr λy _=>?_;cases n<;>rfl
noncomputable def DL (C:O) (yh ny:List D->b') (pA:D->List D->k7) (rR:List D->b'):aq->Out:=
 (bK (c1 (jo tS (aI bw (J 2) (aT (.str "order"))) (kf (bg C9 (aT (.int 5)))) (λε=>.ok none ε)) (bo 5)) (bK (c1 (gP (vU (az (aI ki (aT (.int 1)) (gs (e' hi) 1 (az (aT (.int 4)) aU))) aU)) (bo 0) (λε=>.ok true ε) (aI l3 (J 2) (gs (e' hi) 1 (az (bg g5 (J 2)) aU))) 1 [1,5] (some (1,1))) (bo 6)) (bK (c1 (c4 yh (az (J 2) (az (J 4) (az (J 6) (az (iQ aU) aU))))) (bo 7)) (bK (c1 (bg r_ (J 6)) (bo 8)) (bK (ef (zi (b6 (aI tQ (gs (e' pA) 3 (az (J 4) (az (J 8) (az (iQ aU) aU)))) (C0 (J 7) (gv (az (aT (.str "")) (az (aT (.str "")) aU)))))) (b6 (aI pK (J 8) (J 6)))) (cM (aT (.aG false))) (λε=>.nx ε)) (bK (ef (b6 (bg pJ (J 7))) (c1 (c4 ny (az (J 2) (az (J 4) (az (J 6) (az (iQ aU) aU))))) (bo 2)) (λε=>.nx ε)) (ef (lf (b6 (c4 h7 (az (zh C "names" rR 3 aU) (az (aI bw (J 2) (aT (.str "order"))) aU))))) (cM (aT (.aG false))) (λε=>.nx ε))))))))
def jm(M:Md)(x:Str)(ups:List Str):D:=if h9 x=false then ku "BadName" (.str x)else if x∈M.order then ku "Taken" (.str x)else if 24<=M.order.length then ku "Full" (.str "")else MN (lp M ups)
def El(a b:Str):tQ (.tup [.str a,.str b]) (.tup [.str a,.str b])=some (.aG false):=by
 show some (D.aG (!decide (a=a/\b=b)))=_;simp
def PT(M:Md)(x:Str)(ups:List Str):(∃d ds,jm M x ups= .tup (d::ds)/\M.after x ups=M/\tQ (mm M x ups) (.tup (d::ds))=some (.aG false))∨(jm M x ups= .bb/\M.after x ups=M.next x ups/\mm M x ups=ku "" (.str "")/\h9 x=true/\x∉M.order/\¬ 24<=M.order.length/\lp M ups=none):=by
 unfold jm mm Md.after;by_cases h1:h9 x=false
 ·rw[if_pos h1,if_pos h1,if_pos h1];exact .inl ⟨_,_,rfl,rfl,El _ _⟩
 rw[if_neg h1,if_neg h1,if_neg h1];by_cases h2:x∈M.order
 ·rw[if_pos h2,if_pos h2,if_pos h2];exact .inl ⟨_,_,rfl,rfl,El _ _⟩
 rw[if_neg h2,if_neg h2,if_neg h2];by_cases aN:24<=M.order.length
 ·rw[if_pos aN,if_pos aN,if_pos aN];exact .inl ⟨_,_,rfl,rfl,El _ _⟩
 rw[if_neg aN,if_neg aN,if_neg aN];cases aH:lp M ups with
 | some p=>exact .inl ⟨_,_,rfl,rfl,if_pos rfl⟩
 | none=>exact .inr ⟨rfl,rfl,rfl,by simpa using h1,h2,aN,rfl⟩
def ait(l:List Str)(ar:l≠[]):∃L:List Str,L≠[]/\L.length<=5/\(∀y∈L,y∈l)/\cutD (l.map .str) (some (-5)) none=L.map .str:=by
 have JQ:0 < l.length:=FA.mpr ar;have e:hv.iY (l.map D.str).length 0 (some (-5))=l.length - 5:=by
  rw[dV];show(if(-5:Int)< 0 then((-5:Int)+(l.length:Int)).toNat else min (-5:Int).toNat l.length)=_
  rw[if_pos (by decide)]
  omega
 refine⟨l.drop (l.length - 5),λz=>?_,by rw[Fz];omega,λy b2=>WT b2,?_⟩
 ·have:=congrArg List.length z;rw[Fz]at this;simp at this;omega
 ·unfold cutD;rw[e,hv.Le, <- WQ,xB];rw[dV,Fz,dV];omega
def aiv{M:Md}(qP:M.order≠[])(lo:M.order.length<=24)(B:j5 ns p c z)(fc dQ gV hc:Option (Bool×D)):∃ups:List Str,(∀u∈ups,u∈M.order)/\ups≠[]/\ups.length<=4/\∃p' c' z' AY ML o9 MM,j5 ns p' c' z'/\
  ∀(yh ny:List D->b')(pA:D->List D->k7)(rR:List D->b'),yh [a_ M,.str x,av ups,.lst []]= .ok (jm M x ups)->pA (bL C M) [.str x,av ups,.lst []]= .ok (mm M x ups) (bL C (M.after x ups))->(x∉M.order->ny [a_ M,.str x,av ups,.lst []]= .ok (a_ (M.next x ups)))->rR [bL C (M.after x ups)]= .ok (av (M.after x ups).order)->(M.after x ups).order.length<=100->
   DL C yh ny pA rR (ed (bX ns p c z) (bL C M) M (G (.str x)) fc dQ gV hc)= .nx (ed (bX ns p' c' z') (bL C (M.after x ups)) (M.after x ups) (G (.str x)) AY ML o9 MM):=by
 obtain⟨L,hP,SA,amz,HR⟩:=ait M.order qP;obtain⟨g,bc,hM,eH,Df,cY,oq,yc⟩:=Un B (many:=4) (by decide) (by decide)
 obtain⟨us,cL,d_,ek,xW,ahC,sq,de⟩:=VL hP SA (d:=bL C M) (M:=M) (x:=G (.str x)) (u:=dQ) (w:=gV) (h:=hc) (m9 0 (1+g).toNat) [] oq;have R6:us.length=(1+g).toNat:=by rw[ahC];simp[m9]
 refine⟨us,λu aD=>amz u (sq u aD),λz=>?_,by omega,cL,d_,ek,G (av L),G (av us),G (jm M x us),G (av us),xW,λyh ny pA rR b0 cj he aw ag7=>?_⟩
 ·rw[z]at R6;simp at R6;omega
 have dK:jo tS (aI bw (J 2) (aT (.str "order"))) (kf (bg C9 (aT (.int 5)))) (λε=>.ok none ε) (ed (bX ns p c z) (bL C M) M (G (.str x)) fc dQ gV hc)= .ok (av L) (ed (bX ns p c z) (bL C M) M (G (.str x)) fc dQ gV hc):=by
  have eu:aI bw (J 2) (aT (.str "order")) (ed (bX ns p c z) (bL C M) M (G (.str x)) fc dQ gV hc)= .ok (av M.order) (ed (bX ns p c z) (bL C M) M (G (.str x)) fc dQ gV hc):=f9 rfl rfl (uk M);unfold jo;rw[eu];show dv (some (D.lst (cutD (M.order.map .str) (some (-5)) none))) _=_;rw[HR];rfl
 unfold DL;refine Eq.trans (c5 (hq dK (i:=5) (by show 5 < 9;decide))) ?_
 have dy:gP (vU (az (aI ki (aT (.int 1)) (gs (e' hi) 1 (az (aT (.int 4)) aU))) aU)) (bo 0) (λε=>.ok true ε) (aI l3 (J 2) (gs (e' hi) 1 (az (bg g5 (J 2)) aU))) 1 [1,5] (some (1,1)) (ed (bX ns p c z) (bL C M) M (G (.str x)) (G (av L)) dQ gV hc)= .ok (av us) (ed (bX ns cL d_ ek) (bL C M) M (G (.str x)) (G (av L)) dQ gV hc):=by
  have eu:aI ki (aT (.int 1)) (gs (e' hi) 1 (az (aT (.int 4)) aU)) (ed (bX ns p c z) (bL C M) M (G (.str x)) (G (av L)) dQ gV hc)= .ok (.int (1+g)) (ed (bX ns bc hM eH) (bL C M) M (G (.str x)) (G (av L)) dQ gV hc):=f9 (bf:=aT (.int 1)) rfl (yc (i:=1) rfl rfl) rfl;have ag:vU (az (aI ki (aT (.int 1)) (gs (e' hi) 1 (az (aT (.int 4)) aU))) aU) (ed (bX ns p c z) (bL C M) M (G (.str x)) (G (av L)) dQ gV hc)= .ok (m9 0 (1+g).toNat) (ed (bX ns bc hM eH) (bL C M) M (G (.str x)) (G (av L)) dQ gV hc):=by
   have aF:(az (aI ki (aT (.int 1)) (gs (e' hi) 1 (az (aT (.int 4)) aU))) aU) (ed (bX ns p c z) (bL C M) M (G (.str x)) (G (av L)) dQ gV hc)= .ok [.int (1+g)] (ed (bX ns bc hM eH) (bL C M) M (G (.str x)) (G (av L)) dQ gV hc):=abh eu;unfold vU;rw[aF];show dv (if -1000<=(1+g)/\(1+g)<=1000 then some (m9 0 (1+g).toNat)else none) _=_
   rw[if_pos ⟨by omega,by omega⟩]
   rfl
  unfold gP;rw[ag];show(if(m9 0 (1+g).toNat).length<=1000 then _ else _)=_
  rw[if_pos (by simp[m9];omega)]
  rw[show([]:List D)=([]:List Str).map D.str from rfl,de]
  rfl
 refine Eq.trans (c5 (hq dy (i:=6) (by show 6 < 9;decide))) ?_
 refine Eq.trans (c5 (hq (CO (bf:=J 2) (cR:=J 4) (kz:=J 6) (xg:=iQ aU) (ε:=ed (bX ns cL d_ ek) (bL C M) M (G (.str x)) (G (av L)) (G (av us)) gV hc) rfl rfl rfl rfl b0) (i:=7) (by show 7 < 9;decide))) ?_
 refine Eq.trans (c5 (aC:=ed (bX ns cL d_ ek) (bL C M) M (G (.str x)) (G (av L)) (G (av us)) (G (jm M x us)) (G (av us))) rfl) ?_;have t0:gs (e' pA) 3 (az (J 4) (az (J 8) (az (iQ aU) aU))) (ed (bX ns cL d_ ek) (bL C M) M (G (.str x)) (G (av L)) (G (av us)) (G (jm M x us)) (G (av us)))= .ok (mm M x us) (ed (bX ns cL d_ ek) (bL C (M.after x us)) M (G (.str x)) (G (av L)) (G (av us)) (G (jm M x us)) (G (av us))):=by
  have bQ:e' pA (bL C M) [.str x,av us,.lst []]= .ok (mm M x us) (bL C (M.after x us)):=by
   unfold e';rw[cj]
  show(match e' pA (bL C M) [.str x,av us,.lst []]with | .no=>aJ.no | .ok d hN=>.ok d _ | .cp C fs=>.cp C fs)=_
  rw[bQ];rfl
 have dw:b6 (aI pK (J 8) (J 6)) (ed (bX ns cL d_ ek) (bL C (M.after x us)) M (G (.str x)) (G (av L)) (G (av us)) (G (jm M x us)) (G (av us)))= .ok false (ed (bX ns cL d_ ek) (bL C (M.after x us)) M (G (.str x)) (G (av L)) (G (av us)) (G (jm M x us)) (G (av us))):=by
  refine kg (f9 (bf:=J 8) (a:=av us) rfl rfl ?_);unfold av;simp only[pK,rn];simp
 have dq:∀{o9:Option (Bool×D)},ef (lf (b6 (c4 h7 (az (zh C "names" rR 3 aU) (az (aI bw (J 2) (aT (.str "order"))) aU))))) (cM (aT (.aG false))) (λε=>.nx ε) (ed (bX ns cL d_ ek) (bL C (M.after x us)) (M.after x us) (G (.str x)) (G (av L)) (G (av us)) o9 (G (av us)))= .nx (ed (bX ns cL d_ ek) (bL C (M.after x us)) (M.after x us) (G (.str x)) (G (av L)) (G (av us)) o9 (G (av us))):=λ{o9}=>by
  have dD:zh C "names" rR 3 aU (ed (bX ns cL d_ ek) (bL C (M.after x us)) (M.after x us) (G (.str x)) (G (av L)) (G (av us)) o9 (G (av us)))= .ok (av (M.after x us).order) (ed (bX ns cL d_ ek) (bL C (M.after x us)) (M.after x us) (G (.str x)) (G (av L)) (G (av us)) o9 (G (av us))):=by
   show(if C=C/\_=none then(match rR [bL C (M.after x us)]with | .ok d=>if m2 4 d=true then aJ.ok d _ else .no | _=>.no)else .no)=_
   rw[if_pos ⟨rfl,rfl⟩,aw];show(if m2 4 (av (M.after x us).order)=true then _ else _)=_
   rw[if_pos (ajs 3 _)]
  rw[jx (HU (kg (k9 dD (f9 (bf:=J 2) (cR:=aT (.str "order")) rfl rfl (uk _)) (same_refl ag7))))];rfl
 rcases PT M x us with⟨d,ds,hd,af,ba⟩ | ⟨hd,af,ahz,bl,su,qN,aH⟩
 ·have fm:b6 (aI tQ (gs (e' pA) 3 (az (J 4) (az (J 8) (az (iQ aU) aU)))) (C0 (J 7) (gv (az (aT (.str "")) (az (aT (.str "")) aU))))) (ed (bX ns cL d_ ek) (bL C M) M (G (.str x)) (G (av L)) (G (av us)) (G (jm M x us)) (G (av us)))= .ok false (ed (bX ns cL d_ ek) (bL C (M.after x us)) M (G (.str x)) (G (av L)) (G (av us)) (G (jm M x us)) (G (av us))):=by
   refine kg (f9 t0 (b:=.tup (d::ds)) ?_ ba);rw[hd];rfl
  refine Eq.trans (c5 (aC:=ed (bX ns cL d_ ek) (bL C (M.after x us)) M (G (.str x)) (G (av L)) (G (av us)) (G (jm M x us)) (G (av us))) ?_) ?_
  ·rw[jx (b:=false) (by unfold zi;rw[fm];exact dw)]
   rfl
  ·refine Eq.trans (c5 (aC:=ed (bX ns cL d_ ek) (bL C (M.after x us)) (M.after x us) (G (.str x)) (G (av L)) (G (av us)) (G (jm M x us)) (G (av us))) ?_) dq;rw[hd,af];rfl
 ·have fm:b6 (aI tQ (gs (e' pA) 3 (az (J 4) (az (J 8) (az (iQ aU) aU)))) (C0 (J 7) (gv (az (aT (.str "")) (az (aT (.str "")) aU))))) (ed (bX ns cL d_ ek) (bL C M) M (G (.str x)) (G (av L)) (G (av us)) (G (jm M x us)) (G (av us)))= .ok false (ed (bX ns cL d_ ek) (bL C (M.after x us)) M (G (.str x)) (G (av L)) (G (av us)) (G (jm M x us)) (G (av us))):=by
   refine kg (f9 t0 (b:=ku "" (.str "")) ?_ (by rw[ahz];exact El _ _))
   rw[hd];rfl
  refine Eq.trans (c5 (aC:=ed (bX ns cL d_ ek) (bL C (M.after x us)) M (G (.str x)) (G (av L)) (G (av us)) (G (jm M x us)) (G (av us))) ?_) ?_
  ·rw[jx (b:=false) (by unfold zi;rw[fm];exact dw)]
   rfl
  ·refine Eq.trans (c5 (aC:=ed (bX ns cL d_ ek) (bL C (M.after x us)) (M.after x us) (G (.str x)) (G (av L)) (G (av us)) (G (jm M x us)) (G (av us))) ?_) dq;rw[hd,af];rw[jx (b:=true) (kg (mJ (δ:=J 7) (a:=.bb) rfl rfl)),if_pos rfl];exact hq (CO (bf:=J 2) (cR:=J 4) (kz:=J 6) (xg:=iQ aU) (ε:=ed (bX ns cL d_ ek) (bL C (M.next x us)) M (G (.str x)) (G (av L)) (G (av us)) (G .bb) (G (av us))) rfl rfl rfl rfl (he su)) (i:=2) (by show 2 < 9;decide)
end
section
variable{T:O->Prop}{ω:cs}{H H':ak}{σ:St}{ε:aq}
def bh.fresh(e:bh T ω H σ ε)(s:fO H H'){x:O}(nx:H x=none)(ah:H' x≠none):bh (λa=>T a∨a=x) ω H' σ ε:=by
 have cm:∀i a,a∈ω i->¬bk.v a:=λi a h z=>e.ee i a h (e.c7 a z);have le:fu (cut (a5 T ω) H) (cut (a5 (λa=>T a∨a=x) ω) H'):=λa o h=>.inl (by
  obtain⟨h1,h2⟩:=cB.mp h;refine cB.mpr ⟨λz=>?_,s.keep a o (λz=>h1 (.inl (e.c7 a z))) h2⟩;rcases z with(z | z) | z
  ·exact h1 (.inl z)
  ·rw[z,nx]at h2;cases h2
  ·exact h1 (.inr z))
 have m':∀i a,a∈ω i->H' a=H a:=λi a h=>by
  cases cu:H a with
  | none=>exact absurd cu (e.al a (.inr ⟨i,h⟩))
  | some o=>exact s.keep a o (cm i a h) cu
 refine⟨e.len,e.jl,λi a h z=>?_,λa h=>?_,λi d h=>?_,λi d h=>?_,λa h=>.inl (e.c7 a h),s.bB⟩
 ·rcases z with z | z
  ·exact e.ee i a h z
  ·exact e.al a (.inr ⟨i,h⟩) (by rw[z];exact nx)
 ·rcases h with(h | h) | h
  ·exact λz=>e.al a (.inl h) (s.c8 a z)
  ·rw[h];exact ah
  ·exact λz=>e.al a (.inr h) (s.c8 a z)
 ·obtain⟨v,h1,h2⟩:=e.own i d h;exact⟨v,h1,h2.mono le λa af=>m' i a af⟩
 ·obtain⟨v,h1,h2⟩:=e.pl i d h;exact⟨v,h1,h2.mono le⟩
end
end bu
namespace gB
open PySem bu
section
variable[bk]{P:dn}{w:cH}{K:b5}{mg:Str->Option aj}{base:cg}
abbrev LR:cc:=c6 57
def AH:cX ["_law_m","_law_name","_law_ups","_law_some_rooms","_law_up","_law_far","_law_fork_here","_law_word"] ["_law_m","_law_name","_law_ups","_law_some_rooms"] (bY LR):=by ac_rfl
def akV{zz:O}(Gd:e3 K mg "_law_good_name" zz HD ["_law_text"])(Gy:aY P w K mg base bq 1 zz HD ["_law_text"] (bV qu)){QF:O}(Gb:e3 K mg "_law_far_of" QF ab7 ["_law_m","_law_ups"])(Gx:aY P w K mg base bq 1 QF ab7 ["_law_m","_law_ups"] (bV BV)){QH:O}(Ym:e3 K mg "_law_fork" QH ab9 ["_law_m","_law_far"])(Zr:aY P w K mg base bq 2 QH ab9 ["_law_m","_law_far"] (bV BX)){QZ:O}(YA:e3 K mg "_law_why_rooms" QZ acF ["_law_m","_law_far","_law_inherited_here","_law_some_rooms"])(ZI:aY P w K mg base bq 3 QZ acF ["_law_m","_law_far","_law_inherited_here","_law_some_rooms"] (bV Ce)){QI:O}(Yn:e3 K mg "_law_inherited" QI ace ["_law_m","_law_ups"])(Zs:aY P w K mg base bq 1 QI ace ["_law_m","_law_ups"] (bV BZ)){QU:O}(Yw:e3 K mg "_law_ring" QU acw ["_law_m"])(ZD:aY P w K mg base bq 3 QU acw ["_law_m"] (bV B8)){zy:O}(Ga:e3 K mg "_law_entered" zy HC ["_law_m","_law_name","_law_ups","_law_some_rooms"])(Gw:aY P w K mg base bq 2 zy HC ["_law_m","_law_name","_law_ups","_law_some_rooms"] (bV BU))(F:bT K "_law_why_put" "_law_why_put" LR f aE)(T:el mg):aY P w K mg base bq 4 f aE ["_law_m","_law_name","_law_ups","_law_some_rooms"] (bV (bS (yX qu BV BX Ce BZ B8 BU) 4 8)):=by
 have h:=@bT.den _ P w K mg base _ _ _ f aE _ _ 3 (yX qu BV BX Ce BZ B8 BU) [] F AH;have h2:=h (λbA A a3 s H E aA=>by
  have aD:=ff aA;exact⟨_,(a6 (dN (q_ (jV (eF Gy aA Gd (ay (ae 1) aV)))) (bI (dr (iA (ay cx (ay (ae 1) aV))))) dZ)
   (a6 (dN (ho uv (ae 1) (dh aD (ae 0) cx (λ_ _=>rfl)) rfl) (bI (dr (iA (ay cx (ay (ae 1) aV))))) dZ)
   (a6 (dN (ho ak0 (ea pF (by rfl) T.len lT (ay (dh aD (ae 0) cx (λ_ _=>rfl)) aV)) dg (kl _)) (bI (dr (iA (ay cx (ay cx aV))))) dZ)
   (a6 (hn io rfl (g9 (ae 2)) (ew (i:=4) AH.a4 rfl (bF rfl)) (bI (dN (ho wF (ae 4) (dh aD (ae 0) cx (λ_ _=>rfl)) rfl) (bI (dr (iA (ay cx (ay (ae 4) aV))))) dZ)))
   (a6 (dN (ho Kv (ea pF (by rfl) T.len lT (ay (ae 2) aV)) dg (kl _)) (bI (dr (iA (ay cx (ay cx aV))))) dZ)
   (a6 (du (i:=5) AH.a4 rfl (bF rfl) (eF Gx aA Gb (ay (ae 0) (ay (ae 2) aV))))
   (a6 (du (i:=6) AH.a4 rfl (bF rfl) (eF Zr aA Ym (ay (ae 0) (ay (ae 5) aV))))
   (a6 (dN (g_ (Ao (ae 6))) (bI (dr (iA (ay cx (ay (ae 6) aV))))) dZ)
   (a6 (du (i:=7) AH.a4 rfl (bF rfl) (eF ZI aA YA (ay (ae 0) (ay (ae 5) (ay (eF Zs aA Yn (ay (ae 0) (ay (ae 2) aV))) (ay (ae 3) aV))))))
   (a6 (dN ((o5 (g_ (o2 (ae 7))) (p2 (jV (eF ZD aA Yw (ay (eF Gw aA Ga (ay (ae 0) (ay (ae 1) (ay (ae 2) (ay (ae 3) aV))))) aV)))))).pt (bI (dr (iA (ay cx (ay (ae 1) aV))))) dZ)
   (bI (dr (ae 7))))))))))))),
   (cq (fJ (rb (fV (gb (a8 (ax 1) b1)))) (d7 (kW (a8 cQ (a8 (ax 1) b1)))) fK) (cq (fJ (jW (e0 m3 (ax 1) ((dz (ax 0) cQ)).b)) (d7 (kW (a8 cQ (a8 (ax 1) b1)))) fK) (cq (fJ (jW (e0 ajQ (gc vK ((dz (ax 0) cQ)).b) (hp).b)) (d7 (kW (a8 cQ (a8 cQ b1)))) fK) (cq (jz (g6 (ax 2)) (cG (i:=4)) (fJ (jW (e0 m3 (ax 4) ((dz (ax 0) cQ)).b)) (d7 (kW (a8 cQ (a8 (ax 4) b1)))) fK)) (cq (fJ (jW (e0 ajO (gc vK ((ax 2)).b) (hp).b)) (d7 (kW (a8 cQ (a8 cQ b1)))) fK) (cq (fb (gb (a8 (ax 0) (a8 (ax 2) b1))) (cG (i:=5))) (cq (fb (gb (a8 (ax 0) (a8 (ax 5) b1))) (cG (i:=6))) (cq (fJ (fV (Ey ((ax 6)).b)) (d7 (kW (a8 cQ (a8 (ax 6) b1)))) fK) (cq (fb (gb (a8 (ax 0) (a8 (ax 5) (a8 (gb (a8 (ax 0) (a8 (ax 2) b1))) (a8 (ax 3) b1))))) (cG (i:=7))) (cq (fJ (p1 (fV (sO ((ax 7)).b)) (fV (gb (a8 (gb (a8 (ax 0) (a8 (ax 1) (a8 (ax 2) (a8 (ax 3) b1))))) b1)))) (d7 (kW (a8 cQ (a8 (ax 1) b1)))) fK) (d7 (ax 7))))))))))))⟩)
 exact h2
end
end gB
namespace bu
open PySem
def PD:∀l:List Str,(bN l).length<=l.length
 | []=>c9 _
 | a::l=>by
  have:=PD l;show(if a∈l then bN l else a::bN l).length<=_
  split
  ·simp;omega
  ·simp;omega
def fh.use[bk]{β:aq->Out}{H:ak}{ε ε':aq}{Y:Ends}(e:bh T ω H σ ε)(eZ:β ε= .nx ε')(h:fh E ro t β)(c:∀σ' aO H',jh ro T ω H σ ε' σ' aO H'->Y.nx σ' H'):t Y σ H:=h T ω H σ ε _ e (by rw[eZ];exact c)
abbrev tq:=Md×Str×List Str
def nI(i:tq):Prop:=Run i.1/\i.2.1.length<=1000/\(∀u∈i.2.2,u∈i.1.order)/\i.2.2≠[]/\i.2.2.length<=4
open Classical in
noncomputable def tO (i:tq):List D->b':=if i.2.1∈i.1.order then λ_=>.no else zu i.1 i.2.1 i.2.2
end bu
namespace gB
open PySem bu
section
variable[bk]{P:dn}{w:cH}{K:b5}{mg:Str->Option aj}{base:cg}
abbrev Lw:cc:=c6 44
def U5(K:b5):e4:=λvs H Q _=>∃(a:O)(ns:List Int),vs=[.ref a]/\cS K H a (ns.map V.int)/\ns.length<=63/\
 ∀(b l:O)(f_:List Int)(H':ak),H b=none->H l=none->f_.length<=63->mG H H'->Ot H' b l f_ 0 0 20011->Q (.ref b) H'
def amJ:cX ["_law_script"] ["_law_script"] (bY Lw):=by ac_rfl
def abk(ns:List Int):r4 (ns.map V.int) none (some 63)=(ns.take 63).map V.int:=by
 unfold r4;rw[hv.Le,show(some (63:Int))=some ((63:Nat):Int)from rfl,hv.UO,List.drop_zero,Nat.sub_zero,dV,List.map_take]
 by_cases h:63<=ns.length
 ·rw[W3 h]
 ·rw[W4 (by omega),xB (by simp),xB (by simp;omega)]
def akp(F:bT K "_law_bag" "_law_bag" Lw f aE)(T:el mg):aY P w K mg base bq 1 f aE ["_law_script"] (U5 K):=by
 refine F.ok amJ (λvs H Q E h=>?_) (λbA A a3 s H vs Q E aA h=>?_)
 ·obtain⟨a,ns,rfl,_⟩:=h;rfl
 ·obtain⟨a,ns,rfl,dE,eh,k⟩:=h;refine⟨_,bI (dr (kU (ay (je vJ (by rfl) T.list PyProof.Rows.Boot.«list» (ay (Aq L8 (ae 0) Au (Av dg)) aV)) (ay dg (ay dg (ay dg aV)))))),?_⟩
  refine⟨_,rfl,_,rfl,a,_,rfl,dE,λt cj=>⟨t,_,rfl,.inl (cS.of cw),λl ar=>⟨by show 4<=sizeLine;decide,λb ab=>?_⟩⟩⟩
  have Th:l≠t:=λe=>by subst e;rw[cw]at ar;cases ar
  have D0:b≠l:=λe=>by subst e;rw[cw]at ab;cases ab
  have ajn:b≠t:=λe=>by subst e;rw[bj (Ne.symm Th),cw]at ab;cases ab
  rw[bj Th]at ar;rw[bj D0,bj ajn]at ab;rw[abk];refine k b l (ns.take 63) _ ab ar (by simp;omega) (λc o e=>?_) ⟨cw,?_,by decide,by decide,by decide⟩
  ·rw[bj (eK e ab),bj (eK e ar),bj (eK e cj)];exact e
  ·rw[bj (Ne.symm D0),cw]
abbrev LI:cc:=c6 65
abbrev ajd:List Str:=["_law_script","_law_bag_here","_law_m","_law_made","_law_name","_law_some","_law_ups","_law_due","_law_handed"]
def p6:cX ajd ["_law_script"] (bY LI):=by ac_rfl
def EW(K:b5):e4:=λvs H Q _=>∃(a:O)(ns:List Int),vs=[.ref a]/\cS K H a (ns.map V.int)/\ns.length<=63/\(∀a,bk.v a->H a≠none)/\bk.i H/\∀H',Q (.aG true) H'
def akB{f QB QV QJ QS zB QY QT zy zC QL QW C:O}{Cd:tq->List D->b'}
  (Yi:e3 K mg "_law_bag" QB ab4 ["_law_script"])(Zn:aY P w K mg base bq 1 QB ab4 ["_law_script"] (U5 K))
  (Gf:e3 K mg "_law_start" QV acy [])(ZE:aY P w K mg base bq 1 QV acy [] (bV B9))(agp:B9 []= .ok (a_ Md.start))
  (ZU:Cm K C QJ)(Ka:mg "Kinds"=some (.ref C))(YS:Binds K acf ["self"] [])(Zt:aY P w K mg base bq 1 QJ acf ["self"] (Ma C))(cT:hK K C)
  (Yu:e3 K mg "_law_names" QS acs ["_law_bag_here","_law_many"])(ZA:aY P w K mg base bq 2 QS acs ["_law_bag_here","_law_many"] (mj yf))(ago:yf=pG (vD hi) 2 10)
  (td:e3 K mg "_law_pull" zB HF ["_law_bag_here","_law_many"])(tm:aY P w K mg base bq 1 zB HF ["_law_bag_here","_law_many"] (mj hi))
  (Yz:e3 K mg "_law_why_put" QY acE ["_law_m","_law_name","_law_ups","_law_some_rooms"])(ZH:aY P w K mg base bq 4 QY acE ["_law_m","_law_name","_law_ups","_law_some_rooms"] (sT nI λi=>bV (Cd i)))(agr:∀i:tq,nI i->Cd i [a_ i.1,.str i.2.1,av i.2.2,.lst []]= .ok (jm i.1 i.2.1 i.2.2))
  (Yv:e3 K mg "_law_put_told" QT acv Am)(ZC:aY P w K mg base bq 8 QT acv Am (sT nI λi=>mj (sa C i.1 i.2.1 i.2.2)))
  (Ga:e3 K mg "_law_entered" zy HC ["_law_m","_law_name","_law_ups","_law_some_rooms"])(Gw:aY P w K mg base bq 2 zy HC ["_law_m","_law_name","_law_ups","_law_some_rooms"] (sT nI λi=>bV (tO i)))
  (pp:e3 K mg "_law_same" zC HG m0)(pB:aY P w K mg base bq 2 zC HG m0 (bV h7))
  (G0:eO K C "names" QL)(Gn:Binds K ach ["self"] [])(Gv:aY P w K mg base bq 1 QL ach ["self"] (bV rQ))(agn:∀M:Md,rQ [bL C M]= .ok (av M.order))
  (Yx:e3 K mg "_law_table_right" QW acA ["_law_made","_law_m"])(ZF:aY P w K mg base bq 6 QW acA ["_law_made","_law_m"] (bV B'))(agq:∀M:Md,Run M->(∀k∈M.order,(jZ M k).length<=100)->B' [bL C M,a_ M]= .ok (.aG true))
  (F:bT K "law" "law" LI f aE)(T:el mg):aY P w K mg base bq 9 f aE ["_law_script"] (EW K):=by
 refine F.ok p6 (λvs H Q E h=>?_) (λbA A a3 s H vs Q E aA h=>?_)
 ·obtain⟨a,ns,rfl,_⟩:=h;rfl
 ·obtain⟨a,ns,rfl,dE,eh,DC,bB,k⟩:=h;have aD:=ff aA;refine⟨_,a6 (du (i:=1) p6.a4 rfl (oo rfl) (eF Zn aA Yi (ay (ae 0) aV)))
   (a6 (du (i:=2) p6.a4 rfl (bF rfl) (alf ZE aA.m (by rfl) Gf.kR Gf.cD Gf.bs .nil er))
   (a6 (du (i:=3) p6.a4 rfl (bF rfl) (T2 ZU Zt aA.m (by rfl) Ka YS .nil er))
   (a6 (hn io rfl (g9 (eF ZA aA Yu (ay (ae 1) (ay dg aV)))) (ew (i:=4) p6.a4 rfl (bF rfl)) (a6 (du (i:=5) p6.a4 rfl (oo rfl) (Aq L8 (dh aD (ae 2) cx (λ_ _=>rfl)) (Av (alu an5 dg)) Au))
   (a6 (ali (i:=6) p6.a4 rfl rfl (own:=["_law_k"]) (caps:=["_law_bag_here","_law_some"]) (cap:=[1,5]) (cl:=[("_law_some",s.heap.objs.size+2),("_law_bag_here",s.heap.objs.size+1)]) (by exact oD rfl (by decide+kernel) (by decide+kernel) (by decide+kernel) rfl (by intro p aB;simp at aB;rcases aB with rfl | rfl<;>rfl) ⟨⟨rfl,rfl,bF rfl,_,rfl⟩,⟨rfl,rfl,bF rfl,_,rfl⟩,trivial⟩) rfl (KG (by rfl) T.range (ay (f' q4 dg (eF tm aA td (ay (ae 1) (ay dg aV)))) aV)) (λgi s1 H1 gF gI=>(ew (i:=0) (show(["_law_k","_law_bag_here","_law_some"]:List Str).Nodup by decide+kernel) rfl (bF rfl) (.inr rfl))) (l6 (by decide)) (λgi s1 H1 gF gI=>(hD (show nA _ (n5 K)from iw) (ae 2) (eF tm aA td (ay (ae 1) (ay (ea (show ji _ (.builtin "len") (λxs H Q=>∃p ys,xs=[V.ref p]/\(cS K H p ys∨gL K H p ys)/\Q (V.int ys.length) H)from pF) (by rfl) T.len lT (ay (ae 2) aV)) aV))) (λ_ _=>rfl))))
   (a6 (du (i:=7) p6.a4 rfl (bF rfl) (eF ZH aA Yz (ay (ae 2) (ay (ae 4) (ay (ae 6) (ay (kU aV) aV))))))
   (a6 (du (i:=8) p6.a4 rfl (bF rfl) (je vJ (by rfl) T.list PyProof.Rows.Boot.«list» (ay (ae 6) aV)))
   (a6 (dN ((Uq (ho (ak5 aD) (eF ZC aA Yv (ay (ae 3) (ay (ae 4) (ay (ae 8) (ay (kU aV) aV))))) (alr (ae 7) (mb (iA (ay cx (ay cx aV))))) (kl _)) (Ur (ho (TM aD) (ae 8) (ae 6) (kl _))))).pt (bI (dr wG)) dZ)
   (a6 (dN (g_ (o2 (ae 7))) (bI (du (i:=2) p6.a4 rfl (bF rfl) (eF Gw aA Ga (ay (ae 2) (ay (ae 4) (ay (ae 6) (ay (kU aV) aV))))))) dZ)
   (bI (dN (q_ (jV (eF pB aA pp (ay (KD (ae 3) cT.cl G0 Gv aA.m Gn .nil er) (ay (dh aD (ae 2) cx (λ_ _=>rfl)) aV))))) (bI (dr wG)) dZ)))))))))
   (bI (dr (eF ZF aA Yx (ay (ae 3) (ay (ae 2) aV)))))))),?_⟩
  refine L6 λkH fW=>?_;refine L3 ⟨_,rfl,a,ns,rfl,dE,eh,λb l f_ H1 hC nl ahi s1 oq=>?_⟩;have VR:∀{H H':ak},mG H H'->(∀a,bk.v a->H a≠none)->bk.i H->fO H H':=λ{H H'} s al bB=>⟨λa o _ e=>s a o e,λa h=>s.free h,bk.st H H' (λa φ e=>s a _ e) (λa h=>by
   cases cu:H a with
   | none=>exact absurd cu (al a h)
   | some o=>exact s a o cu) bB⟩
  have anv:=VR s1 DC bB;have eu:bh bk.v (λ_=>[]) H [some (.ref a),none,none,none,none,none,none,none,none] [none,none,none,none,none,none,none,none,none]:=P2 rfl DC (λi b d au=>by
   match i,au with
   | 0,au=>cases au
   | 1,au=>cases au
   | 2,au=>cases au
   | 3,au=>cases au
   | 4,au=>cases au
   | 5,au=>cases au
   | 6,au=>cases au
   | 7,au=>cases au
   | 8,au=>cases au
   | n+9,au=>simp at au) (λa h=>h) bB
  have D6:¬bk.v b:=λz=>DC b z hC;have D0:l≠b:=λz=>by
   have h1:=oq.its;rw[z,oq.vE]at h1;injection h1 with h1
   injection h1 with h1
   cases f_ with
   | nil=>cases h1
   | cons q r=>injection h1 with h2 _;cases h2
  have ag:=eu.fresh anv hC (by rw[oq.vE];simp)
  have ami:∀(dW:ak)(l:List Int),cP dW (l.map V.int) (l.map .int):=λdW l=>by
   induction l with
   | nil=>exact .nil
   | cons q r b3=>exact .cons (.int q) b3
  have o1:eI (a5 (λa=>bk.v a∨a=b) (λ_=>[])) H1 (.ref b) (bX f_ 0 0 20011) [b]:=.lst oq.vE (.cons (.lst (cB.mpr ⟨λz=>by
   rw[xc]at z;exact z.elim (λz=>DC l z nl) D0,oq.its⟩) (ami _ f_)) (.cons (.int _) (.cons (.int _) (.cons (.int _) .nil))))
  have aF:=ag.L5 o1 D6 (λa h=>h) (i:=1) (by show 1 < 9;decide)
  have aF:bh bk.v (cs.on (λ_=>[]) 1 b) H1 [some (.ref a),some (.ref b),none,none,none,none,none,none,none] [none,some (true,bX f_ 0 0 20011),none,none,none,none,none,none,none]:=aF;have agu:c1 (c4 B9 aU) (bo 2) [none,some (true,bX f_ 0 0 20011),none,none,none,none,none,none,none]= .nx [none,some (true,bX f_ 0 0 20011),G (a_ Md.start),none,none,none,none,none,none]:=by
   have h:c4 B9 aU [none,some (true,bX f_ 0 0 20011),none,none,none,none,none,none,none]= .ok (a_ Md.start) [none,some (true,bX f_ 0 0 20011),none,none,none,none,none,none,none]:=by
    show(match B9 []with | .ok d=>aJ.ok d _ | _=>.no)=_
    rw[agp]
   exact hq h (by show 2 < 9;decide)
  refine(mh fW λkH fW=>?_:);refine(fb (E:=⟨E,H⟩) (ro:=[]) (gb b1) (cG (i:=2))).seq aF agu λob lQ H3 fD=>?_;refine(mh fW λkH fW=>?_:);refine L3 ?_;intro x dx nx Ke ajq;refine⟨x,dx,rfl,cw,λgm gn gp gO gN iM iL t oB ju i2 H4 ve ain ajH=>⟨rfl,?_⟩⟩;have fI:mG H3 H4:=λb o e=>ain b o (by rw[bj (eK e nx),bj (eK e Ke)];exact e) (by simpa using eK e nx)
  have wy:∀a∈[gm,gn,gp,gO,gN,iM,iL,t,oB,ju,i2],H3 a=none/\a≠x:=λa af=>by
   have h:=ajH a af;have dD:a≠x:=λz=>by rw[z,cw]at h;cases h
   rw[bj dD]at h;have fH:a≠dx:=λz=>by rw[z,cw]at h;cases h
   rw[bj fH]at h;exact⟨h,dD⟩
  have R7:∀a,bk.v a->H3 a≠none:=λa h=>fD.env.al a (.inl h);have anw:=VR fI R7 fD.env.bB;have jn:=fD.env.fresh anw nx (by rw[ve.at_ 0 rfl];simp)
  have Ac:∀a∈[gm,gn,gp,gO,gN,iM,iL,t,oB,ju,i2],¬a5 (λa=>bk.v a∨a=x) lQ a:=λa af z=>by
   obtain⟨h1,h2⟩:=wy a af;rcases z with(z | z) | z
   ·exact fD.env.al a (.inl z) h1
   ·exact h2 z
   ·exact fD.env.al a (.inr z) h1
  have ajJ:eI (a5 (λa=>bk.v a∨a=x) lQ) H4 (.ref x) (bL C Md.start) [x]:=by
   refine TS (d:=⟨dx,gm,gn,gp,gO,gN,iM,iL,[.str gq],[(.inr gq,.ref t)],[(.inr gq,.ref oB)],[(.inr gq,.ref ju)],[(.inr gq,.ref i2)],[],[]⟩) ⟨.cons (.str _) .nil,.cons (.tup (cB.mpr ⟨Ac t (by simp),ve.at_ 8 rfl⟩) .nil) .nil,.cons (.aK (.inl (cB.mpr ⟨Ac oB (by simp),ve.at_ 9 rfl⟩)) (.cons (.aG true) .nil)) .nil,.cons (.aK (.inl (cB.mpr ⟨Ac ju (by simp),ve.at_ 10 rfl⟩)) .nil) .nil,.cons (.aK (.inl (cB.mpr ⟨Ac i2 (by simp),ve.at_ 11 rfl⟩)) .nil) .nil,rfl,rfl⟩ (ve.pick [0,1,2,3,4,5,6,7] (by decide) rfl) λa af=>Ac a ?_
   have af:a∈[gm,gn,gp,gO,gN,iM,iL]:=af;simp only[dR,xA,or_false]at af ⊢;rcases af with h | h | h | h | h | h | h<;>simp[h]
  have ajG:¬bk.v x:=λz=>R7 x z nx;have ke:=jn.L5 ajJ ajG (λa h=>h) (i:=3) (by show 3 < 9;decide)
  have ke:bh bk.v (cs.on lQ 3 x) H4 (ob.set 3 (some (.ref x))) (ed (bX f_ 0 0 20011) (bL C Md.start) Md.start none none none none none):=ke;obtain⟨names,m4,c0,ry,adX,YG,ahj⟩:=acW (ns:=f_) (p:=0) (c:=0) (z:=20011) ⟨ahi,by decide,by decide,by decide⟩
  have agv:di d2 (gs (e' yf) 1 (az (aT (.int 12)) aU)) (ed (bX f_ 0 0 20011) (bL C Md.start) Md.start none none none none none)= .ok (names.map .str) (ed (bX f_ m4 c0 ry) (bL C Md.start) Md.start none none none none none):=by
   have bQ:e' yf (bX f_ 0 0 20011) [.int 12]= .ok (av names) (bX f_ m4 c0 ry):=by
    unfold e';rw[ago,adX]
   have h:gs (e' yf) 1 (az (aT (.int 12)) aU) (ed (bX f_ 0 0 20011) (bL C Md.start) Md.start none none none none none)= .ok (av names) (ed (bX f_ m4 c0 ry) (bL C Md.start) Md.start none none none none none):=by
    show(match e' yf (bX f_ 0 0 20011) [.int 12]with | .no=>aJ.no | .ok d hN=>.ok d _ | .cp C fs=>.cp C fs)=_
    rw[bQ];rfl
   unfold di;rw[h];rfl
  refine(L7 fW ?_:);refine uJ ?_;show w6 _ (lr 4) _ _ (ob.set 3 (some (.ref x))) H4;refine(g6 (E:=⟨E,H⟩) (uB (i:=1) (a8 hp b1))) _ _ H4 _ _ _ ke ?_;rw[agv];intro bP A5 mD nM jY ML;refine Q7 ML (λi σ' H'=>∃ω M p c z fz fc dQ gV hc,bh bk.v ω H' σ' (ed (bX f_ p c z) (bL C M) M fz fc dQ gV hc)/\Run M/\M.order≠[]/\(∀k∈M.order,(jZ M k).length<=100)/\j5 f_ p c z/\vp bk.v A5 mD bk.v ω H')
   ⟨A5,Md.start,m4,c0,ry,_,_,_,_,_,nM,Run.start,by decide,by decide,YG,λx o h1 h2=>⟨h1,h2⟩⟩ (λi σ' H' ⟨ω,M,p,c,z,fz,fc,dQ,gV,hc,h1,_,_,_,_,dY⟩=>⟨_,ω,_,h1,dY⟩) (λσ' H' ⟨ω,M,p,c,z,fz,fc,dQ,gV,hc,h1,R,qP,we,B,dY⟩=>?_) ?_
  ·refine(d7 (E:=⟨E,H⟩) (ro:=[]) (gb (a8 (ax 3) (a8 (ax 2) b1)))) _ _ H' _ _ _ h1 ?_;have ahs:cM (c4 B' (az (J 3) (az (J 2) aU))) (ed (bX f_ p c z) (bL C M) M fz fc dQ gV hc)= .ey (.aG true) [none,some (true,bX f_ p c z),G (a_ M),G (bL C M),fz,fc,dQ,gV,hc]:=by
    have h:c4 B' (az (J 3) (az (J 2) aU)) (ed (bX f_ p c z) (bL C M) M fz fc dQ gV hc)= .ok (.aG true) [none,some (true,bX f_ p c z),G (a_ M),G (bL C M),fz,fc,dQ,gV,hc]:=by
     show(match B' [bL C M,a_ M]with | .ok d=>aJ.ok d _ | _=>.no)=_
     rw[agq M R we];rfl
    unfold cM;rw[h];rfl
   rw[ahs];intro v aoM MU qw G_ cf;cases cf;exact k qw
  ·rintro i d σ' H' y hg hd ⟨ω,M,p,c,z,fz,fc,dQ,gV,hc,h1,R,qP,we,B,dY⟩ b0;rw[ft]at hd;obtain⟨nm,ahk,rfl⟩:=jD.mp hd;obtain⟨zf,kn,rg⟩:=b0 _ ω _ h1 dY;have aqk:nm.length<=20:=ahj nm (oh ahk);refine cG (E:=⟨E,H⟩) (ro:=[]) (i:=4) (by simp) _ ω hg σ' _ (ed (bX f_ p c z) (bL C M) M (G (.str nm)) fc dQ gV hc) (.str nm) y _ zf rg rfl λA4 aoQ HN Ld aqI=>?_
   obtain⟨ups,sr,ne,c_,p',c',z',AY,aoe,o9,MM,xV,ab⟩:=aiv (C:=C) (x:=nm) qP R.ok.c_ B fc dQ gV hc;have au:nI (M,nm,ups):=⟨R,by show nm.length<=1000;omega,sr,ne,c_⟩
   have DA:Run (M.after nm ups)/\(M.after nm ups).order≠[]/\∀k∈(M.after nm ups).order,(jZ (M.after nm ups) k).length<=100:=by
    rcases PT M nm ups with⟨_,_,_,af,_⟩ | ⟨_,af,_,bl,su,qN,aH⟩
    ·rw[af];exact⟨R,qP,we⟩
    ·rw[af];refine⟨R.next su bl (by omega) sr aH,λz=>by
      have:=congrArg List.length z;simp[Md.next]at this,λk aw=>?_⟩
     rw[R.jZ su k];by_cases e:k=nm
     ·rw[if_pos e,(p7 _).length_eq];have:=PD ups;omega
     ·rw[if_neg e];refine we k ?_;have:k∈M.order++[nm]:=aw;rcases nn.mp this with h | h
      ·exact h
      ·exact absurd (gK.mp h) e
   have eZ:=ab (Cd (M,nm,ups)) (tO (M,nm,ups)) (sa C M nm ups) rQ (agr _ au) (if_pos ⟨rfl,rfl⟩) (λsu=>by
    unfold tO;rw[if_neg su];exact if_pos rfl) (agn _) (by have:=DA.1.ok.c_;omega)
   obtain⟨ix,RQ⟩:∃ix:tq,ix=(M,nm,ups):=⟨_,rfl⟩;have au:nI ix:=by rw[RQ];exact au
   have eZ:DL C (Cd ix) (tO ix) (sa C ix.1 ix.2.1 ix.2.2) rQ (ed (bX f_ p c z) (bL C M) M (G (.str nm)) fc dQ gV hc)= .nx (ed (bX f_ p' c' z') (bL C (M.after nm ups)) (M.after nm ups) (G (.str nm)) AY aoe o9 MM):=by rw[RQ];exact eZ
   refine fh.use HN eZ (E:=⟨E,H⟩) (ro:=[]) ?_ λaoM MU qw G_=>?_
   ·unfold DL;exact(cq (fb (Ul (dz (ax 2) cQ) (Ez (alO hp)) Ex) (cG (i:=5))) (cq (fb (wO (some (1,1)) (Sm (a8 (e0 D8 hp ((uB (i:=1) (a8 hp b1))).b) b1)) (cG (i:=0)) (e0 D9 (ax 2) ((uB (i:=1) (a8 (gc vK ((ax 2)).b) b1))).b) (λi j h=>by cases h;exact⟨by decide,rfl⟩)) (cG (i:=6))) (cq (fb (Uh ix au (a8 (ax 2) (a8 (ax 4) (a8 (ax 6) (a8 (m6 b1) b1))))) (cG (i:=7))) (cq (fb (gc Hv ((ax 6)).b) (cG (i:=8))) (cq (fJ (Uk (jW (e0 ajU (alG ix au (i:=3) (a8 (ax 4) (a8 (ax 8) (a8 (m6 b1) b1)))) ((alP (ax 7) (kW (a8 cQ (a8 cQ b1))))).b)) (jW (e0 TA (ax 8) ((ax 6)).b))) (d7 KP) fK) (cq (fJ (fV (sO ((ax 7)).b)) (fb (Uh ix au (a8 (ax 2) (a8 (ax 4) (a8 (ax 6) (a8 (m6 b1) b1))))) (cG (i:=2))) fK) (fJ (rb (fV (gb (a8 (alM (i:=3) b1) (a8 (dz (ax 2) cQ) b1))))) (d7 KP) fK)))))))
   refine⟨MU,M.after nm ups,p',c',z',_,_,_,_,_,G_.env,DA.1,DA.2.1,DA.2.2,xV,λq o cY dC=>?_⟩;obtain⟨eX,gR⟩:=dY q o cY dC;obtain⟨eY,qL⟩:=kn.keep q o eX gR;obtain⟨II,IJ⟩:=Ld.keep q o eY qL;exact G_.step.keep q o II IJ
structure lU(K:b5)(B jc:String)(C:O)(fl:List Str):Prop where
 cls:iF K C
 l_:fv K C "called"
 eg:∀f∈fl,fv K C f
 ae8:Gq K B jc C
abbrev hk:List Str:=["self","called","about"]
def lN(K:b5)(B jc:String):e4:=λvs H Q _=>∃(a C:O)(x y:Str)(fl:List Str),vs=[.ref a,.str x,.str y]/\H a=some (iG C none a)/\lU K B jc C fl/\x.length<=1000/\y.length<=3000/\
 ∀d,H d=none->d≠a->Q .bb (a1 (a1 H d (jH d [("called",.str x)])) a (iG C (some d) a))
structure lW(K:b5)(mg:Str->Option aj)(N:Str)(hI eW:O)(hy:f4)(t0:i3):Prop where
 pV:mg N=some (.ref hI)
 cl:FX K (.ref hI) "__getattribute__"=some (some (.builtin "type.__getattribute__"))
 hE:NA K hI (.type "type")=true
 kJ:u4 K (.ref hI) (.type "type") "__init__"=some (.val (.ref eW))
 cD:jE K (.ref eW)=true
 bs:Binds K hy hk []
 Pj:Binds K hy hk [.str "" t0]
def alZ(K:b5)(B jc:String):List V->ak->c3->Prop:=λxs H Q=>∃(a C:O)(bN:Option O)(y:Str),xs=[.ref a,.str y]/\H a=some (iG C bN a)/\Gq K B jc C/\Q .bb H
section
variable{st:cc}{q x n:Str}{B jc:String}{f C:O}{aE:f4}
def TF(F:bT K "__init__" q st f aE)(S:cX hk hk (bY st))(ab:∀bA A a3 s H E,dT 0 (A.deeper (Nq q (bY st) s.heap.objs.size f bA))->hw (jk bq P w K mg base hk q (bY st) f bA A a3 s H E).nZ (fE st)
  (e1 (sY (kp (alZ K B jc) (gd (dP 0) (gd (λσ H Q=>E4 [Mw (dP 1),gT (.str "("),Mw (dP 2),gT (.str ")")] Str.empty σ H Q) gy)))) (UM K (dP 0) (dP 1) "called"))):aY P w K mg base bq 1 f aE hk (lN K B jc):=by
 refine F.ok S (λvs H Q E h=>?_) (λbA A a3 s H vs Q E aA h=>?_)
 ·obtain⟨a,C,x,y,fl,rfl,_⟩:=h;rfl
 ·obtain⟨a,C,x,y,fl,rfl,aR,fN,ah,b2,k⟩:=h;refine⟨_,ab bA A a3 s H E aA,?_⟩;have z:sizeLine=16777216:=k1;have JQ:Str.empty.length=0:=rfl;have ic:(rI "(").length=1:=rfl;have mY:(rI ")").length=1:=rfl;refine⟨_,rfl,_,rfl,x,rfl,by omega,x,rfl,?_,_,rfl,?_,_,rfl,y,rfl,by omega,y,rfl,?_,_,rfl,?_,?_,?_⟩
  ·rw[gG];omega
  ·rw[gG,gG];omega
  ·rw[gG,gG,gG];omega
  ·rw[gG,gG,gG,gG];omega
  ·rw[gG,gG,gG,gG];omega
  ·refine⟨a,C,none,_,rfl,aR,fN.ae8,?_⟩;exact⟨_,rfl,_,rfl,a,C,rfl,aR,fN.cls,fN.l_,λd hd js=>k d hd js⟩
def TC(F:bT K "__init__" q st f aE)(S:cX ["self"] ["self"] (bY st))(ba:n.length<=1000)(fN:lU K B jc C [])(ab:∀bA A a3 s H E,dT 1 (A.deeper (Nq q (bY st) s.heap.objs.size f bA))->hw (jk bq P w K mg base ["self"] q (bY st) f bA A a3 s H E).nZ (fE st)
  (sY (o7 (lN K B jc) [.str ""] BB (gd (dP 0) (gd (gT (.str n)) gy))))):aY P w K mg base bq 2 f aE ["self"] (mi (λdp=>dp=C) n []):=by
 refine F.ok S (λvs H Q E h=>?_) (λbA A a3 s H vs Q E aA h=>?_)
 ·obtain⟨a,dp,ys,rfl,_,_,_,ar,_⟩:=h;cases Nb ar;rfl
 ·obtain⟨a,dp,ys,rfl,aR,rfl,b2,ar,k⟩:=h;cases Nb ar;refine⟨_,ab bA A a3 s H E aA,?_⟩;refine⟨_,rfl,a,dp,_,"",_,rfl,aR,fN,ba,by decide,λd hd js=>?_⟩
  exact k d _ hd js (by rw[bj js,cw];rfl) cw λb o e hC=>by rw[bj hC,bj (eK e hd)];exact e
def ur(F:bT K "__init__" q st f aE)(S:cX ["self",x] ["self",x] (bY st))(ba:n.length<=1000)(fN:lU K B jc C [x])(ah:("called":Str)≠x)(ab:∀bA A a3 s H E,dT 1 (A.deeper (Nq q (bY st) s.heap.objs.size f bA))->hw (jk bq P w K mg base ["self",x] q (bY st) f bA A a3 s H E).nZ (fE st)
  (e1 (sY (o7 (lN K B jc) [] BB (gd (dP 0) (gd (gT (.str n)) (gd (dP 1) gy))))) (UN K (dP 0) (dP 1) x))):aY P w K mg base bq 2 f aE ["self",x] (mi (λdp=>dp=C) n [x]):=by
 refine F.ok S (λvs H Q E h=>?_) (λbA A a3 s H vs Q E aA h=>?_)
 ·obtain⟨a,dp,ys,rfl,_,_,_,ar,_⟩:=h;obtain⟨y,rfl⟩:=WL.mp ar;rfl
 ·obtain⟨a,dp,ys,rfl,aR,rfl,b2,ar,k⟩:=h;obtain⟨y,rfl⟩:=WL.mp ar;have b2:=b2 y (by simp)
  refine⟨_,ab bA A a3 s H E aA,?_⟩;refine⟨_,rfl,_,rfl,a,dp,_,y,_,rfl,aR,fN,ba,by omega,λd hd js=>?_⟩
  refine⟨_,rfl,_,rfl,a,dp,d,_,rfl,cw,by rw[bj js,cw],fN.cls,fN.eg _ (by simp),by show 1 < 900;decide,?_⟩
  exact k d _ hd js (by rw[cw];unfold ie;rw[if_neg ah];rfl) (by rw[bj (Ne.symm js),cw]) λb o e hC=>by rw[bj (eK e hd),bj hC,bj (eK e hd)];exact e
end
abbrev mL:cc:=fx (c6 2) 0
def am5:cX hk hk (bY mL):=by ac_rfl
def akl(F:bT K "__init__" "TraitError.__init__" mL f aE)(MJ:mg "ValueError"=none)(kJ:u4 K (.type "ValueError") (.type "type") "__init__"=some (.val (.builtin "ValueError.__init__"))):aY P w K mg base bq 1 f aE hk (lN K "ValueError" "ValueError.__new__"):=
 TF F am5 λbA A a3 s H E aA=>a6 (fU (T4 (Pm "ValueError" PySem.F.excBase_ValueError) (by rfl) MJ (by kernel_rfl) (by kernel_rfl) (by kernel_rfl) kJ (by kernel_rfl)
  (ay (ae 0) (ay (KC (.cons (wJ (ae 1)) (.cons cx (.cons (wJ (ae 2)) (.cons cx .nil))))) aV)))) (bI (Ud (ae 0) (ae 1) rfl))
abbrev mK:cc:=fx (c6 14) 0
def am0:cX hk hk (bY mK):=by ac_rfl
def akg(F:bT K "__init__" "Missing.__init__" mK f aE)(MJ:mg "LookupError"=none)(kJ:u4 K (.type "LookupError") (.type "type") "__init__"=some (.val (.builtin "LookupError.__init__"))):aY P w K mg base bq 1 f aE hk (lN K "LookupError" "LookupError.__new__"):=
 TF F am0 λbA A a3 s H E aA=>a6 (fU (T4 (Pm "LookupError" PySem.F.excBase_LookupError) (by rfl) MJ (by kernel_rfl) (by kernel_rfl) (by kernel_rfl) kJ (by kernel_rfl)
  (ay (ae 0) (ay (KC (.cons (wJ (ae 1)) (.cons cx (.cons (wJ (ae 2)) (.cons cx .nil))))) aV)))) (bI (Ud (ae 0) (ae 1) rfl))
abbrev H8:cc:=fx (c6 3) 0
def am4:cX ["self","name"] ["self","name"] (bY H8):=by ac_rfl
def akk{f C hI eW:O}(F:bT K "__init__" "Taken.__init__" H8 f aE)(iH:aY P w K mg base bq 1 eW hy hk (lN K "ValueError" "ValueError.__new__"))(c2:lW K mg "TraitError" hI eW hy t0)(fN:lU K "ValueError" "ValueError.__new__" C ["name"]):aY P w K mg base bq 2 f aE ["self","name"] (mi (λdp=>dp=C) "Taken" ["name"]):=
 ur F am4 (by decide) fN (by decide) λbA A a3 s H E aA=>a6 (fU (p0 iH aA.m (by rfl) c2.pV c2.cl c2.hE c2.kJ c2.cD c2.bs .nil er (ay (ae 0) (ay cx (ay (ae 1) aV))))) (bI (q9 (ae 0) (ae 1) rfl))
abbrev HY:cc:=fx (c6 4) 0
def amP:cX ["self"] ["self"] (bY HY):=by ac_rfl
def aj3{f C hI eW:O}(F:bT K "__init__" "Full.__init__" HY f aE)(iH:aY P w K mg base bq 1 eW hy hk (lN K "ValueError" "ValueError.__new__"))(c2:lW K mg "TraitError" hI eW hy t0)(fN:lU K "ValueError" "ValueError.__new__" C []):aY P w K mg base bq 2 f aE ["self"] (mi (λdp=>dp=C) "Full" []):=
 TC F amP (by decide) fN λbA A a3 s H E aA=>bI (fU (p0 iH aA.m (by rfl) c2.pV c2.cl c2.hE c2.kJ c2.cD c2.Pj (e7:=[.str ""]) (.cons ⟨_,rfl⟩ .nil) er (ay (ae 0) (ay cx aV))))
abbrev H9:cc:=fx (c6 6) 0
def am6:cX ["self","room"] ["self","room"] (bY H9):=by ac_rfl
def akm{f C hI eW:O}(F:bT K "__init__" "Twice.__init__" H9 f aE)(iH:aY P w K mg base bq 1 eW hy hk (lN K "ValueError" "ValueError.__new__"))(c2:lW K mg "TraitError" hI eW hy t0)(fN:lU K "ValueError" "ValueError.__new__" C ["room"]):aY P w K mg base bq 2 f aE ["self","room"] (mi (λdp=>dp=C) "Twice" ["room"]):=
 ur F am6 (by decide) fN (by decide) λbA A a3 s H E aA=>a6 (fU (p0 iH aA.m (by rfl) c2.pV c2.cl c2.hE c2.kJ c2.cD c2.bs .nil er (ay (ae 0) (ay cx (ay (ae 1) aV))))) (bI (q9 (ae 0) (ae 1) rfl))
abbrev H7:cc:=fx (c6 7) 0
def am3:cX ["self","room"] ["self","room"] (bY H7):=by ac_rfl
def akj{f C hI eW:O}(F:bT K "__init__" "Strange.__init__" H7 f aE)(iH:aY P w K mg base bq 1 eW hy hk (lN K "ValueError" "ValueError.__new__"))(c2:lW K mg "TraitError" hI eW hy t0)(fN:lU K "ValueError" "ValueError.__new__" C ["room"]):aY P w K mg base bq 2 f aE ["self","room"] (mi (λdp=>dp=C) "Strange" ["room"]):=
 ur F am3 (by decide) fN (by decide) λbA A a3 s H E aA=>a6 (fU (p0 iH aA.m (by rfl) c2.pV c2.cl c2.hE c2.kJ c2.cD c2.bs .nil er (ay (ae 0) (ay cx (ay (ae 1) aV))))) (bI (q9 (ae 0) (ae 1) rfl))
abbrev H_:cc:=fx (c6 8) 0
def am7:cX ["self","room"] ["self","room"] (bY H_):=by ac_rfl
def akn{f C hI eW:O}(F:bT K "__init__" "Wider.__init__" H_ f aE)(iH:aY P w K mg base bq 1 eW hy hk (lN K "ValueError" "ValueError.__new__"))(c2:lW K mg "TraitError" hI eW hy t0)(fN:lU K "ValueError" "ValueError.__new__" C ["room"]):aY P w K mg base bq 2 f aE ["self","room"] (mi (λdp=>dp=C) "Wider" ["room"]):=
 ur F am7 (by decide) fN (by decide) λbA A a3 s H E aA=>a6 (fU (p0 iH aA.m (by rfl) c2.pV c2.cl c2.hE c2.kJ c2.cD c2.bs .nil er (ay (ae 0) (ay cx (ay (ae 1) aV))))) (bI (q9 (ae 0) (ae 1) rfl))
abbrev HZ:cc:=fx (c6 9) 0
def am1:cX ["self","room"] ["self","room"] (bY HZ):=by ac_rfl
def akh{f C hI eW:O}(F:bT K "__init__" "NoFit.__init__" HZ f aE)(iH:aY P w K mg base bq 1 eW hy hk (lN K "ValueError" "ValueError.__new__"))(c2:lW K mg "TraitError" hI eW hy t0)(fN:lU K "ValueError" "ValueError.__new__" C ["room"]):aY P w K mg base bq 2 f aE ["self","room"] (mi (λdp=>dp=C) "NoFit" ["room"]):=
 ur F am1 (by decide) fN (by decide) λbA A a3 s H E aA=>a6 (fU (p0 iH aA.m (by rfl) c2.pV c2.cl c2.hE c2.kJ c2.cD c2.bs .nil er (ay (ae 0) (ay cx (ay (ae 1) aV))))) (bI (q9 (ae 0) (ae 1) rfl))
abbrev HV:cc:=fx (c6 12) 0
def amM:cX ["self","name"] ["self","name"] (bY HV):=by ac_rfl
def aj0{f C hI eW:O}(F:bT K "__init__" "BadName.__init__" HV f aE)(iH:aY P w K mg base bq 1 eW hy hk (lN K "ValueError" "ValueError.__new__"))(c2:lW K mg "TraitError" hI eW hy t0)(fN:lU K "ValueError" "ValueError.__new__" C ["name"]):aY P w K mg base bq 2 f aE ["self","name"] (mi (λdp=>dp=C) "BadName" ["name"]):=
 ur F amM (by decide) fN (by decide) λbA A a3 s H E aA=>a6 (fU (p0 iH aA.m (by rfl) c2.pV c2.cl c2.hE c2.kJ c2.cD c2.bs .nil er (ay (ae 0) (ay cx (ay (ae 1) aV))))) (bI (q9 (ae 0) (ae 1) rfl))
abbrev HW:cc:=fx (c6 13) 0
def amN:cX ["self"] ["self"] (bY HW):=by ac_rfl
def aj1{f C hI eW:O}(F:bT K "__init__" "BadParts.__init__" HW f aE)(iH:aY P w K mg base bq 1 eW hy hk (lN K "ValueError" "ValueError.__new__"))(c2:lW K mg "TraitError" hI eW hy t0)(fN:lU K "ValueError" "ValueError.__new__" C []):aY P w K mg base bq 2 f aE ["self"] (mi (λdp=>dp=C) "BadParts" []):=
 TC F amN (by decide) fN λbA A a3 s H E aA=>bI (fU (p0 iH aA.m (by rfl) c2.pV c2.cl c2.hE c2.kJ c2.cD c2.Pj (e7:=[.str ""]) (.cons ⟨_,rfl⟩ .nil) er (ay (ae 0) (ay cx aV))))
abbrev H6:cc:=fx (c6 15) 0
def am2:cX ["self","name"] ["self","name"] (bY H6):=by ac_rfl
def aki{f C hI eW:O}(F:bT K "__init__" "NoKind.__init__" H6 f aE)(iH:aY P w K mg base bq 1 eW hy hk (lN K "LookupError" "LookupError.__new__"))(c2:lW K mg "Missing" hI eW hy t0)(fN:lU K "LookupError" "LookupError.__new__" C ["name"]):aY P w K mg base bq 2 f aE ["self","name"] (mi (λdp=>dp=C) "NoKind" ["name"]):=
 ur F am2 (by decide) fN (by decide) λbA A a3 s H E aA=>a6 (fU (p0 iH aA.m (by rfl) c2.pV c2.cl c2.hE c2.kJ c2.cD c2.bs .nil er (ay (ae 0) (ay cx (ay (ae 1) aV))))) (bI (q9 (ae 0) (ae 1) rfl))
abbrev HX:cc:=fx (c6 5) 0
def amO:cX ["self","one","other"] ["self","one","other"] (bY HX):=by ac_rfl
def aj2{f C hI eW:O}(F:bT K "__init__" "Forked.__init__" HX f aE)(iH:aY P w K mg base bq 1 eW hy hk (lN K "ValueError" "ValueError.__new__"))(c2:lW K mg "TraitError" hI eW hy t0)(fN:lU K "ValueError" "ValueError.__new__" C ["one","other"]):aY P w K mg base bq 2 f aE ["self","one","other"] (mi (λdp=>dp=C) "Forked" ["one","other"]):=by
 refine F.ok amO (λvs H Q E h=>?_) (λbA A a3 s H vs Q E aA h=>?_)
 ·obtain⟨a,dp,ys,rfl,_,_,_,ar,_⟩:=h;match ys,ar with
  | [y,z],_=>rfl
 ·obtain⟨a,dp,ys,rfl,aR,rfl,b2,ar,k⟩:=h;match ys,ar,b2,k with
  | [y,z],_,b2,k=>
  have aqt:=b2 y (by simp)
  have hz:=b2 z (by simp)
  refine⟨_,a6 (fU (p0 iH aA.m (by rfl) c2.pV c2.cl c2.hE c2.kJ c2.cD c2.bs .nil er (ay (ae 0) (ay cx (ay (KC (.cons (wJ (ae 1)) (.cons cx (.cons (wJ (ae 2)) .nil)))) aV))))) (a6 (q9 (ae 0) (ae 1) rfl) (bI (q9 (ae 0) (ae 2) rfl))),?_⟩
  have aqV:sizeLine=16777216:=k1;have JQ:Str.empty.length=0:=rfl;have ic:(rI " ").length=1:=rfl;refine⟨_,rfl,_,rfl,y,rfl,by omega,y,rfl,?_,_,rfl,?_,_,rfl,z,rfl,by omega,z,rfl,?_,?_,a,dp,_,_,_,rfl,aR,fN,by decide,?_,λd hd js=>?_⟩
  ·rw[gG];omega
  ·rw[gG,gG];omega
  ·rw[gG,gG,gG];omega
  ·rw[gG,gG,gG];omega
  ·rw[gG,gG,gG];omega
  refine⟨_,rfl,_,rfl,a,dp,d,_,rfl,cw,by rw[bj js,cw],fN.cls,fN.eg _ (by simp),by show 1 < 900;decide,?_⟩
  refine⟨_,rfl,_,rfl,a,dp,d,_,rfl,by rw[bj (Ne.symm js),cw],cw,fN.cls,fN.eg _ (by simp),by show 2 < 900;decide,?_⟩
  exact k d _ hd js cw (by rw[bj (Ne.symm js),bj (Ne.symm js),cw]) λb o e hC=>by rw[bj (eK e hd),bj (eK e hd),bj hC,bj (eK e hd)];exact e
end
end gB
namespace bu
open PySem PySem.Spec PyProof.Rows
def G2(ts:List O)(H:ak):Prop:=(∀b,H b=none∨(∃o xs,H b=some (.eQ o (.lst xs)))∨(b∈ts/\H b=some (.lP #[])))/\∀P∈ts,H P=some (.lP #[])
def aiw{K:b5}{i9 a:O}{x:Str}{s₁:aM}{vs:List aj}{ts:List O}
  (hY:K.In s₁.heap)(Dw:s₁.heap.Ns mainGlobals mg)(ab:s₁.heap.Ns builtinsNs kQ)(agx:∀x:Str,x≠"__name__"->kQ x=bootBuiltins x)(ahe:s₁.heap.NoLimit)(bl:s₁.gens= #[])
  (af:s₁.heap.get? a=some {cls:=.type "list",data:=.seq vs.toArray})(au:A_ vs ns)(ar:ns.length<=sizeLine)(aA:dT k callerA)
  (cj:∀Q∈ts,s₁.heap.get? Q=some (NB #[])/\K.lookup Q=none/\∃c,xJ K c Q=true)
  (aaU:BMain mg s₁.heap)(F:∀base:cg,K.In base->base.Ns mainGlobals mg->BMain mg base->aY P w K mg base cW k i9 aE [x] sp)(agy:∀(s:aM)(u:aj),qj s aE ⟨[u],[]⟩ [(x,u)])
  (kO:∀H:ak,G2 ts H->cS K H a (ns.map V.int)->sp [.ref a] H (λv _=>v= .aG true) λ_ _ _=>False)
  (IS:∀H e s',cW [] H s₁ (λ_ _ _=>False) e s'->False):
  codeAny (model P w) callerA (.call (.ref i9) ⟨[.ref a],[]⟩) (λr s'=>r= .ok (.ret (.bool true))/\OldK s₁.heap s'.heap/\s'.os=s₁.os/\qh s'.gens) s₁:=by
 have cf:=VP au;have aiD:=au.length;have O1:a∉ts:=λz=>by
  have:=(cj a z).1;rw[af]at this;cases this
 have CQ:∀H:ak,G2 ts H->cS K H a (ns.map V.int)->eN P w H s₁.heap->(∀b,H b≠none->b=a∨b∈ts)->(H a≠none->K.lookup a=none)->
   codeAny (model P w) callerA (.call (.ref i9) ⟨[.ref a],[]⟩) (λr s'=>r= .ok (.ret (.bool true))/\OldK s₁.heap s'.heap/\s'.os=s₁.os/\qh s'.gens) s₁:=by
  intro H tW dE a' h_ iS;have Hl:∀{b:O}{o:b_},s₁.heap.get? b=some o->H b=none->(pQ s₁.heap H).get? b=some o:=λe n=>agX e n;have jT:∀{b:O}{o:b_}{es:Array DictEntry}{ep:Nat},s₁.heap.get? b=some o->o.data= .dict es ep->H b=none:=λ{b o es ep} e d=>by
   cases q:H b with
   | none=>rfl
   | some u=>
    rcases h_ b (by rw[q];simp)with bQ | bQ
    ·subst bQ;rw[af]at e;cases e;have d':Data.seq vs.toArray _=Data.dict es ep:=d;cases d'
    ·rw[(cj b bQ).1]at e;cases e;have d':M6 #[]=Data.dict es ep:=d;cases d'
  have D5:∀{b:O}{m:Str->Option aj},s₁.heap.Ns b m->(pQ s₁.heap H).Ns b m:=λ{b m} ⟨o,es,ep,e,d,r⟩=>⟨o,es,ep,Hl e (jT e d),d,r⟩;have Ry:K.In (pQ s₁.heap H):=λb o e=>Hl (hY b o e) (by
   cases q:H b with
   | none=>rfl
   | some u=>
    rcases h_ b (by rw[q];simp)with bQ | bQ
    ·subst bQ;rw[iS (by rw[q];simp)]at e;cases e
    ·rw[(cj b bQ).2.1]at e;cases e)
  have agc:BMain mg (pQ s₁.heap H):=by
   obtain⟨d9,bW,cY,dC,eX,gR,eY,qL⟩:=aaU;refine⟨d9,bW,cY,dC,Hl eX ?_,gR,eY,qL⟩;cases q:H d9 with
   | none=>rfl
   | some u=>
    rcases h_ d9 (by rw[q];simp)with bQ | bQ
    ·rw[bQ,af]at eX;cases eX;cases qL
    ·rw[(cj d9 bQ).1]at eX;cases eX;cases qL
  have qP:Mod K mg (pQ s₁.heap H):=⟨Ry,D5 Dw,⟨kQ,D5 ab,agx⟩,let⟨aiY,h1,h2⟩:=ahe;⟨aiY,D5 h1,h2⟩⟩
  have eu:px P w K mg (pQ s₁.heap H) callerA [] s₁ H:=⟨rfl,qP,λb o e=>ajX e,W2 (agY _ _),trivial,λb ab=>absurd (show b∈([]:List O)from ab) (by simp),a',.of_eq bl⟩
  refine pm ((F _ Ry (D5 Dw) agc).run callerA [] s₁ H ⟨[.ref a],[]⟩ [.ref a] [.ref a] _ _ aA eu (agy s₁ (.ref a)) (.cons rfl .nil) (kO H tW dE)) λr s' h=>?_;cases r with
  | error e=>exact(IS H e s' h).elim
  | ok fl=>
   cases fl with
   | next=>exact ik h
   | brk=>exact ik h
   | cont=>exact ik h
   | ret u=>
    obtain⟨v,H',os,bare,un,RX,dA,q⟩:=h;have q':v= .aG true:=q;subst q';obtain rfl:u=Value.bool true:=dA;refine⟨rfl,⟨λb o e=>?_,λb o e=>un.there b o e (by simp)⟩,os,bare⟩
    cases q:H b with
    | none=>exact .inl (un.keep b o e q (by intro z;exact absurd (show b∈([]:List O)from z) (by simp)) (by simp))
    | some u=>
     rcases tW.1 b with z | ⟨bW,xs,z⟩ | ⟨aoH,z⟩
     ·rw[q]at z;cases z
     ·have ek:=un.l5 b bW _ z;obtain⟨ag,_⟩:=a' b _ z;obtain⟨aF,_⟩:=RX b _ ek;rw[e]at ag;cases ag;exact .inl aF
     ·obtain⟨more,ek⟩:=un.nd b _ z;obtain⟨h1,h2,c,aN⟩:=cj b aoH;rw[h1]at e;cases e;have aF:s'.heap.get? b=some {cls:=.none,data:=.fields (#[]++more)}:=RX b _ ek;refine .inr (.inl ⟨?_,rfl, #[],more,rfl,aF⟩);exact((Xk hY aN).tab h1).isCodeTable
 cases aw:K.lookup a with
 | some o=>
  have e:=hY a o aw;rw[af]at e;cases e;refine CQ (λb=>if b∈ts then some (.lP #[])else none) ⟨λb=>?_,λQ eC=>if_pos eC⟩ (.inr ⟨_,vs.toArray,_,aw,rfl,rfl,rfl,by rw[hV,aiD];exact ar,by simpa using cf⟩) (λb u z=>?_) (λb z=>?_) λz=>?_
  ·by_cases h:b∈ts
   ·exact .inr (.inr ⟨h,if_pos h⟩)
   ·exact .inl (if_neg h)
  ·by_cases h:b∈ts
   ·have z':=(if_pos h).symm.trans z;cases z';exact(cj b h).1
   ·have z':=(if_neg h).symm.trans z;cases z'
  ·by_cases h:b∈ts
   ·exact .inr h
   ·exact absurd (if_neg h) z
  ·exact absurd (if_neg O1) z
 | none=>
  refine CQ (λb=>if b=a then some (.eQ {cls:=.type "list",data:=.seq vs.toArray} (.lst (ns.map V.int)))else if b∈ts then some (.lP #[])else none) ⟨λb=>?_,λQ eC=>?_⟩ (.inl (.inr ⟨{cls:=.type "list",data:=.seq vs.toArray},if_pos rfl⟩)) (λb u z=>?_) (λb z=>?_) λ_=>aw
  ·by_cases ab:b=a
   ·exact .inr (.inl ⟨_,_,if_pos ab⟩)
   ·by_cases h:b∈ts
    ·exact .inr (.inr ⟨h,(if_neg ab).trans (if_pos h)⟩)
    ·exact .inl ((if_neg ab).trans (if_neg h))
  ·have ab:Q≠a:=λz=>O1 (by rw[<- z];exact eC)
   exact(if_neg ab).trans (if_pos eC)
  ·by_cases ab:b=a
   ·have z':=(if_pos ab).symm.trans z;cases z';subst ab;exact⟨af,by rw[dV];exact ar,vs,_,cf,af⟩
   ·by_cases h:b∈ts
    ·have z':=((if_neg ab).trans (if_pos h)).symm.trans z;cases z';exact(cj b h).1
    ·have z':=((if_neg ab).trans (if_neg h)).symm.trans z;cases z'
  ·by_cases ab:b=a
   ·exact .inl ab
   ·by_cases h:b∈ts
    ·exact .inr h
    ·exact absurd ((if_neg ab).trans (if_neg h)) z
def aof{l:Nt}{r0:cH->cg->Prop}{d:DefRec}{K:Params->b5}{cW:cH->kC}{sp:cH->e4}{x:Str}{ts:List O}
  (ba:l.most=some n)(t5:n<=sizeLine)(zQ:d.params.defaults=[])(aA:dT k callerA)
  (I0:∀(w:cH)(h:cg),r0 w h->(K w.params).In h/\∀Q∈ts,h.get? Q=some (NB #[]))
  (de:∀(w:cH),∀Q∈ts,(K w.params).lookup Q=none/\∃c,xJ (K w.params) c Q=true)
  (F:∀(w:cH)(mg:Str->Option aj)(i9:O)(h:cg),(K w.params).In h->h.Ns mainGlobals mg->mg d.name=some (.ref i9)->
   ∃aE:f4,(∀(s:aM)(u:aj),qj s aE ⟨[u],[]⟩ [(x,u)])/\
    ∀base:cg,(K w.params).In base->base.Ns mainGlobals mg->BMain mg base->aY l.prog w (K w.params) mg base (cW w) k i9 aE [x] (sp w))
  (kO:∀(w:cH)(H:ak)(a:O)(ns:List Int),ns.length<=n->G2 ts H->cS (K w.params) H a (ns.map V.int)->sp w [.ref a] H (λv _=>v= .aG true) λ_ _ _=>False)
  (IS:∀(w:cH)(H:ak)(s:aM)(e:aj)(s':aM),cW w [] H s (λ_ _ _=>False) e s'->False):
  Xi q J3 G9 r0 l.row.toRowW d [] (λf vs=>NF f vs):=by
 refine Ol.aaD ba zQ λw s₀ s₁ mg kQ i9 o dM cd fj a vs ns b7 Y aZ hd kL Jl Jp Jf eh bl=>?_;obtain⟨hY,anL⟩:=I0 w _ Y;obtain⟨aE,ab,cZ⟩:=F w mg i9 _ hY b7.T.g Jl;exact aiw hY b7.T.g b7.T.b b7.T.builtins b7.T.nolimit bl Jp Jf (gX eh t5) aA (λQ eC=>⟨anL Q eC,de w Q eC⟩) b7.T.bmain cZ ab (λH tW dE=>kO w H a ns eh tW dE) λH e s'=>IS w H s₁ e s'
end bu
namespace gB
open PySem bu
section
variable[bk]{P:dn}{w:cH}{K:b5}{mg:Str->Option aj}{base:cg}
abbrev LH:cc:=c6 31
def am_:cX ["text"] ["text"] (bY LH):=by ac_rfl
def akA{anV:i3}(agD:mg "LETTERS"=some (.str "abcdefghijklmnopqrstuvwxyz" anV))(agE:mg "LONGEST"=some (.int 8 aqL))(F:bT K "is_name" "is_name" LH f aE)(T:el mg):aY P w K mg base bq 1 f aE ["text"] (bV (bS (CJ) 1 1)):=by
 have h:=@bT.den _ P w K mg base _ _ _ f aE _ _ 0 (CJ) [] F am_;have h2:=h (λbA A a3 s H E aA=>by
  have aD:=ff aA;exact⟨_,(bI (dr (ma (TZ Ed Ed dg (ea Hq (by rfl) T.len lT (ay (ae 0) aV)) (q7 (by rfl) agE (v:=.int 8) ⟨_,rfl⟩)) (mb (ea (vI rfl) (by rfl) T.all xH (ay (uy (own:=["sign"]) (caps:=[]) (cap:=[]) (by exact Pw rfl (by decide+kernel) (by decide+kernel) (by decide+kernel)) rfl (T7 (ae 0)) (λgi s1 H1 gF gI=>(ew (i:=0) (show(["sign"]:List Str).Nodup by decide+kernel) rfl (bF rfl) (.inr rfl))) (l6 (by decide)) (λgi s1 H1 gF gI=>(wH TL (ae 0) (q7 (by rfl) agD (v:=.str "abcdefghijklmnopqrstuvwxyz") ⟨_,rfl⟩) rfl))) aV)))))),
   (d7 (o4 (Ui D_ D_ hp (gc Hu ((ax 0)).b) hp) (gc y2 ((wO none (Sn (ax 0)) (cG (i:=0)) (e0 Kp (ax 0) (cQ).b) (λi j h=>by cases h))).b)))⟩)
 exact h2
abbrev LL:cc:=c6 33
def UU:cX ["upward","one","other","shared"] ["upward","one","other"] (bY LL):=by ac_rfl
def akE(qO:PySem.W.CodeHd base c j9)(xX:BMain mg base)(bm:∀a,bk.v a↔a=j9)(au:∀H,bk.i H↔pE j9 ⟨192,27,192,57⟩ ("low_of.<locals>."++"<lambda>") H)(F:vn K "low_of" "low_of" LL f aE c)(T:el mg):aY P w K mg base bq 2 f aE ["upward","one","other"] (bV (bS (yV) 3 4)):=by
 have h:=@vn.den _ P w K mg base _ _ _ f aE _ _ 1 (yV) _ [] F UU;have h2:=h (λA a3 s H E aA=>by
  have aD:=ff aA;exact⟨_,(a6 (dN (g_ (q6 aD (ae 2) (dh aD (ae 0) (ae 1) (λ_ _=>rfl)))) (bI (dr (ae 1))) dZ)
   (a6 (dN (g_ (q6 aD (ae 1) (dh aD (ae 0) (ae 2) (λ_ _=>rfl)))) (bI (dr (ae 2))) dZ)
   (a6 (wM (alh (i:=3) UU.a4 rfl rfl (own:=["kind"]) (caps:=["one","other","upward"]) (cap:=[1,2,0]) (cl:=[("upward",s.heap.objs.size+1),("other",s.heap.objs.size+3),("one",s.heap.objs.size+2)]) (by exact oD rfl (by decide+kernel) (by decide+kernel) (by decide+kernel) rfl (by intro p aB;simp at aB;rcases aB with rfl | rfl | rfl<;>rfl) ⟨⟨rfl,rfl,bF rfl,_,rfl⟩,⟨rfl,rfl,bF rfl,_,rfl⟩,⟨rfl,rfl,bF rfl,_,rfl⟩,trivial⟩) rfl (uz (ae 0)) (λgi s1 H1 gF gI=>(ew (i:=0) (show(["kind","one","other","upward"]:List Str).Nodup by decide+kernel) rfl (bF rfl) (.inr rfl))) (l6 (by decide)) (λgi s1 H1 gF gI=>(ae 0)) (λgi s1 H1 gF gI=>((o5 (g_ (q6 aD (ae 1) (dh aD (ae 3) (ae 0) (λ_ _=>rfl)))) (p2 (g_ (q6 aD (ae 2) (dh aD (ae 3) (ae 0) (λ_ _=>rfl))))))).pt)))
   (a6 (dN (q_ (KN (ae 3) (λ_=>rfl))) (bI (dr Ap)) dZ)
   (bI (dr (alp rfl (by rfl) T.min (ay (ae 3) aV) (Ua (alm (cl:=[("upward",s.heap.objs.size+1)]) rfl rfl qO xX rfl) Ub)))))))),
   (cq (fJ (fV (ra (ax 2) ((dz (ax 0) (ax 1))).b)) (d7 (ax 1)) fK) (cq (fJ (fV (ra (ax 1) ((dz (ax 0) (ax 2))).b)) (d7 (ax 2)) fK) (cq (ant (i:=3) (alI none (ax 0) (cG (i:=0)) (p1 (fV (ra (ax 1) ((dz (ax 3) (ax 0))).b)) (fV (ra (ax 2) ((dz (ax 3) (ax 0))).b))) (ax 0) (λi j h=>by cases h))) (cq (fJ (rb (KU ((ax 3)).b)) (d7 Ay) fK) (d7 (alN (k:=0) (p:="kind") (q:="upward") (i:=0) bm au aA.m ⟨rfl,rfl,rfl,by decide+kernel,rfl,rfl,aiK rfl,aiL (by decide+kernel),rfl,rfl⟩ (λ_ _ _ _=>rfl) (λA f c s H ar=>ea aaY (by rfl) T.len lT (ay (dh (by show A.units+3+1 < cLine;omega) (ae 1) (ae 0) (λ_ _=>rfl)) aV)) (ax 3)))))))⟩)
 exact h2
abbrev amF:cc:=c6 34
abbrev LA:cc:=c6 35
def wW:cX ["upward","above","rising","at","one","other","low"] ["upward","above"] (bY LA):=by ac_rfl
def akt{QQ:O}(Ys:e3 K mg "low_of" QQ acp ["upward","one","other"])(Zy:aY P w K mg base bq 2 QQ acp ["upward","one","other"] (bV pz))(F:bT K "first_fork" "first_fork" LA f aE)(T:el mg):aY P w K mg base bq 3 f aE ["upward","above"] (bV (bS (yR pz) 2 7)):=by
 have h:=@bT.den _ P w K mg base _ _ _ f aE _ _ 2 (yR pz) [] F wW;have h2:=h (λbA A a3 s H E aA=>by
  have aD:=ff aA;exact⟨_,(a6 (du (i:=2) wW.a4 rfl (bF rfl) (ea (y0 rfl) (by rfl) T.sorted PyProof.Rows.Boot.«sorted» (ay (ae 1) aV)))
   (a6 (hn io rfl (alB (by rfl) T.enumerate (ay (ae 2) aV)) (Es rfl (sL (ew (i:=3) wW.a4 rfl (bF rfl)) (sL (ew (i:=4) wW.a4 rfl (bF rfl)) Et))) (bI (hn io rfl (g9 (Aq L8 (ae 2) (Av (f' q4 (ae 3) dg)) Au)) (ew (i:=5) wW.a4 rfl (bF rfl)) (a6 (du (i:=6) wW.a4 rfl (bF rfl) (eF Zy aA Ys (ay (ae 0) (ay (ae 4) (ay (ae 5) aV)))))
   (bI (dN ((o5 (g_ (Ao (ae 6))) (p2 (g_ (Em aD (ae 6) (ae 1)))))).pt (bI (dr (iA (ay (ae 4) (ay (ae 5) aV))))) dZ))))))
   (bI (dr Ap)))),
   (cq (fb (gc y4 ((ax 1)).b) (cG (i:=2))) (cq (jz (ahY (ax 2)) (Dn (sh (cG (i:=3)) (sh (cG (i:=4)) Dm))) (jz (g6 (Ul (ax 2) (Ez (e0 D8 (ax 3) (hp).b)) Ex)) (cG (i:=5)) (cq (fb (gb (a8 (ax 0) (a8 (ax 4) (a8 (ax 5) b1)))) (cG (i:=6))) (fJ (p1 (fV (Ey ((ax 6)).b)) (fV (Ew (ax 6) ((ax 1)).b))) (d7 (kW (a8 (ax 4) (a8 (ax 5) b1)))) fK)))) (d7 Ay)))⟩)
 exact h2
abbrev LJ:cc:=c6 36
def L0:cX ["upward","musts","leads","name","inner"] ["upward","musts"] (bY LJ):=by ac_rfl
def akC(F:bT K "leads_of" "leads_of" LJ f aE)(T:el mg):aY P w K mg base bq 1 f aE ["upward","musts"] (bV (bS (Pa) 2 5)):=by
 have h:=@bT.den _ P w K mg base _ _ _ f aE _ _ 0 (Pa) [] F L0;have h2:=h (λbA A a3 s H E aA=>by
  have aD:=ff aA;exact⟨_,(a6 (du (i:=2) L0.a4 rfl (bF rfl) n2)
   (a6 (wM (hn io rfl (uz (ae 1)) (ew (i:=3) L0.a4 rfl (bF rfl)) hQ))
   (bI (dr (ae 2))))),
   (cq (p9 (i:=2) v7) (cq (AN (ax 1) (cG (i:=3)) uM) (d7 (ax 2))))⟩)
 exact h2
abbrev LD:cc:=c6 38
def UT:cX ["upward","musts","leads"] ["upward","musts"] (bY LD):=by ac_rfl
def akw{QN:O}(Yp:e3 K mg "leads_of" QN ack ["upward","musts"])(Zv:aY P w K mg base bq 1 QN ack ["upward","musts"] (bV B1)){QD:O}(Yj:e3 K mg "comes_round" QD ab5 ["leads","start"])(Zo:aY P w K mg base bq 1 QD ab5 ["leads","start"] (bV BS))(F:bT K "has_ring" "has_ring" LD f aE)(T:el mg):aY P w K mg base bq 2 f aE ["upward","musts"] (bV (bS (CI B1 BS) 2 3)):=by
 have h:=@bT.den _ P w K mg base _ _ _ f aE _ _ 1 (CI B1 BS) [] F UT;have h2:=h (λbA A a3 s H E aA=>by
  have aD:=ff aA;exact⟨_,(a6 (du (i:=2) UT.a4 rfl (oo rfl) (eF Zv aA Yp (ay (ae 0) (ay (ae 1) aV))))
   (bI (dr (ea (aaX rfl) (by rfl) T.any ao4 (ay (als (uy (own:=["start"]) (caps:=["leads"]) (cap:=[2]) (cl:=[("leads",s.heap.objs.size+1)]) (by exact oD rfl (by decide+kernel) (by decide+kernel) (by decide+kernel) rfl (by intro p aB;simp at aB;subst aB;rfl) ⟨⟨rfl,rfl,bF rfl,_,rfl⟩,trivial⟩) rfl (uz (ae 2)) (λgi s1 H1 gF gI=>(ew (i:=0) (show(["start","leads"]:List Str).Nodup by decide+kernel) rfl (bF rfl) (.inr rfl))) (l6 (by decide)) (λgi s1 H1 gF gI=>(eF Zo aA Yj (ay (ae 1) (ay (ae 0) aV)))))) aV))))),
   (cq (fb (gb (a8 (ax 0) (a8 (ax 1) b1))) (cG (i:=2))) (d7 (gc aa3 ((alH none (ax 2) (cG (i:=0)) (gb (a8 (ax 1) (a8 (ax 0) b1))) (λi j h=>by cases h))).b)))⟩)
 exact h2
abbrev LM:cc:=c6 47
def rl:cX ["_law_bag_here","_law_many","_law_tail","_law_at","_law_start_here","_law_step","_law_signs","_law_found","_law_k","_law_sign"] ["_law_bag_here","_law_many"] (bY LM):=by ac_rfl
def akF{zB:O}(td:e3 K mg "_law_pull" zB HF ["_law_bag_here","_law_many"])(tm:aY P w K mg base bq 1 zB HF ["_law_bag_here","_law_many"] (mj ti))(F:bT K "_law_names" "_law_names" LM f aE)(T:el mg):aY P w K mg base bq 2 f aE ["_law_bag_here","_law_many"] (mj (pG (vD ti) 2 10)):=by
 have h:=@bT.pG _ P w K mg base _ _ _ f aE _ _ 1 (vD ti) F rl;have h2:=h (λbA A a3 s H E aA=>by
  have aD:=ff aA;exact⟨_,(a6 (du (i:=2) rl.a4 rfl (bF rfl) (hD (show nA _ (n5 K)from iw) (kU (ay cx (ay cx (ay cx (ay cx (ay cx (ay cx aV))))))) (eF tm aA td (ay (ae 0) (ay dg aV))) (λ_ _=>rfl)))
   (a6 (du (i:=3) rl.a4 rfl (bF rfl) (eF tm aA td (ay (ae 0) (ay (f' q4 (ea Hq (by rfl) T.len lT (ay (ae 2) aV)) dg) aV))))
   (a6 (du (i:=4) rl.a4 rfl (bF rfl) (eF tm aA td (ay (ae 0) (ay dg aV))))
   (a6 (du (i:=5) rl.a4 rfl (bF rfl) (hD (show nA _ (n5 K)from iw) (kU (ay dg (ay dg (ay dg (ay dg (ay dg (ay dg aV))))))) (eF tm aA td (ay (ae 0) (ay dg aV))) (λ_ _=>rfl)))
   (a6 (du (i:=6) rl.a4 rfl (bF rfl) cx)
   (a6 (du (i:=7) rl.a4 rfl (bF rfl) (kU aV))
   (a6 (hn io rfl (KG (by rfl) T.range (ay (ae 1) aV)) (ew (i:=8) rl.a4 rfl (bF rfl)) (a6 (du (i:=9) rl.a4 rfl (bF rfl) (hD ah1 (ae 6) (f' wD (f' q4 (ae 4) (f' sG (ae 5) (ae 8))) dg) (λ_ _=>rfl)))
   (bI (fU (En FO FP FQ Ab (ae 7) (ay (f' TH (f' TH (Aq U0 (ae 2) Au (Av (ae 3))) (ae 9)) (Aq U0 (ae 2) (Av (ae 3)) Au)) aV))))))
   (bI (dr (ae 7)))))))))),
   (cq (fb (e0 D9 (m6 (a8 cQ (a8 cQ (a8 cQ (a8 cQ (a8 cQ (a8 cQ b1))))))) ((uB (i:=0) (a8 hp b1))).b) (cG (i:=2))) (cq (fb (uB (i:=0) (a8 (e0 D8 (gc Hu ((ax 2)).b) (hp).b) b1)) (cG (i:=3))) (cq (fb (uB (i:=0) (a8 hp b1)) (cG (i:=4))) (cq (fb (e0 D9 (m6 (a8 hp (a8 hp (a8 hp (a8 hp (a8 hp (a8 hp b1))))))) ((uB (i:=0) (a8 hp b1))).b) (cG (i:=5))) (cq (fb cQ (cG (i:=6))) (cq (p9 (i:=7) Rg) (cq (jz (Sm (a8 (ax 1) b1)) (cG (i:=8)) (cq (fb (e0 ajR (ax 6) ((e0 ajS (e0 D8 (ax 4) ((e0 ajT (ax 5) ((ax 8)).b)).b) (hp).b)).b) (cG (i:=9))) (Vb (i:=7) (e0 Tw (e0 Tw (Um (ax 2) Ex (Ez (ax 3))) ((ax 9)).b) ((Um (ax 2) (Ez (ax 3)) Ex)).b)))) (d7 (ax 7)))))))))⟩)
 exact h2
abbrev LC:cc:=c6 48
def am8:cX ["_law_text"] ["_law_text"] (bY LC):=by ac_rfl
def akv(F:bT K "_law_good_name" "_law_good_name" LC f aE)(T:el mg):aY P w K mg base bq 1 f aE ["_law_text"] (bV (bS (tF) 1 1)):=by
 have h:=@bT.den _ P w K mg base _ _ _ f aE _ _ 0 (tF) [] F am8;have h2:=h (λbA A a3 s H E aA=>by
  have aD:=ff aA;exact⟨_,(bI (dr (ma (TZ Ed Ed dg (ea Hq (by rfl) T.len lT (ay (ae 0) aV)) dg) (mb (ea (vI rfl) (by rfl) T.all xH (ay (uy (own:=["_law_sign"]) (caps:=[]) (cap:=[]) (by exact Pw rfl (by decide+kernel) (by decide+kernel) (by decide+kernel)) rfl (T7 (ae 0)) (λgi s1 H1 gF gI=>(ew (i:=0) (show(["_law_sign"]:List Str).Nodup by decide+kernel) rfl (bF rfl) (.inr rfl))) (l6 (by decide)) (λgi s1 H1 gF gI=>(wH TL (ae 0) cx rfl))) aV)))))),
   (d7 (o4 (Ui D_ D_ hp (gc Hu ((ax 0)).b) hp) (gc y2 ((wO none (Sn (ax 0)) (cG (i:=0)) (e0 Kp (ax 0) (cQ).b) (λi j h=>by cases h))).b)))⟩)
 exact h2
abbrev LO:cc:=c6 49
def UX:cX ["_law_m"] [] (bY LO):=by ac_rfl
def acL{b:List cc}{s1 s2 s3:cc}(e:b=[s1,s2,s3])(h1:hZ X s1 fm)(h2:hZ X s2 dw)(aN:hZ X s3 rp)(h:fh E ro (e1 fm (e1 dw rp)) β):∃t,hw X b t/\fh E ro t β:=⟨_,e▸a6 h1 (a6 h2 (bI aN)),h⟩
def anx{ks vs p t l env}:swapsWith (.Dict ks vs p) t l env=pure false:=rfl
def akP(F:bT K "_law_start" "_law_start" LO f aE)(T:el mg):aY P w K mg base bq 1 f aE [] (bV (bS (Hk) 0 1)):=by
 have h:=@bT.den _ P w K mg base _ _ _ f aE _ _ 0 (Hk) [] F UX;have h2:=h (λbA A a3 s H E aA=>by
  have aD:=ff aA
  refine' acL rfl ?a ?b ?c ?d
  case a=>
   with_reducible refine' du (i:=0) ?n ?h1 ?h2 ?v ?w ?z
   case n=>exact UX.a4
   case h1=>rfl
   case h2=>exact bF rfl
   case w=>exact anx
   case z=>exact .inl rfl
   case v=>repeat' (first | with_reducible exact cx | with_reducible exact n2 | with_reducible exact aV | with_reducible exact sN | with_reducible refine' sJ ?_ ?_ ?_ ?_ ?_ | with_reducible refine' sM ?_ ?_ ?_ | with_reducible refine' kU ?_ | with_reducible refine' ay ?_ ?_ ?_ | rfl | decide | simp)
  case b=>
   with_reducible refine' fU ?v ?w
   case w=>rfl
   case v=>
    with_reducible refine' Ep ?bc ?cL ?iV
    case bc=>exact ae 0
    case iV=>exact⟨rfl,rfl,rfl,rfl⟩
    case cL=>repeat' (first | with_reducible exact cx | with_reducible exact n2 | with_reducible exact aV | with_reducible exact sN | with_reducible refine' sJ ?_ ?_ ?_ ?_ ?_ | with_reducible refine' sM ?_ ?_ ?_ | with_reducible refine' kU ?_ | with_reducible refine' ay ?_ ?_ ?_ | rfl | decide | simp)
  case c=>exact dr (ae 0)
  case d=>exact(cq (p9 (i:=0) (afl (.cons cQ (m6 (a8 cQ b1)) (.cons cQ (Ax (.cons cQ (m6 b1) .nil)) (.cons cQ (Ax (.cons cQ Ev .nil)) (.cons cQ (Ax (.cons cQ Ev .nil)) .nil)))))) (cq (E0 (i:=0) (Ax (.cons cQ (Ax (.cons cQ (m6 (a8 cQ b1)) .nil)) (.cons cQ Ev (.cons cQ Ev .nil))))) (d7 (ax 0)))))
 exact h2
abbrev LK:cc:=c6 51
def L1:cX ["_law_m","_law_one","_law_other","_law_both","_law_best"] ["_law_m","_law_one","_law_other"] (bY LK):=by ac_rfl
def akD(F:bT K "_law_low" "_law_low" LK f aE)(T:el mg):aY P w K mg base bq 1 f aE ["_law_m","_law_one","_law_other"] (bV (bS (yU) 3 5)):=by
 have h:=@bT.den _ P w K mg base _ _ _ f aE _ _ 0 (yU) [] F L1;have h2:=h (λbA A a3 s H E aA=>by
  have aD:=ff aA;exact⟨_,(a6 (du (i:=3) L1.a4 rfl (oo rfl) (Eo (own:=["_law_k"]) (caps:=["_law_m","_law_one","_law_other"]) (cap:=[0,1,2]) (cl:=[("_law_other",s.heap.objs.size+3),("_law_one",s.heap.objs.size+2),("_law_m",s.heap.objs.size+1)]) (by exact oD rfl (by decide+kernel) (by decide+kernel) (by decide+kernel) rfl (by intro p aB;simp at aB;rcases aB with rfl | rfl | rfl<;>rfl) ⟨⟨rfl,rfl,bF rfl,_,rfl⟩,⟨rfl,rfl,bF rfl,_,rfl⟩,⟨rfl,rfl,bF rfl,_,rfl⟩,trivial⟩) rfl (g9 (dh aD (ae 0) cx (λ_ _=>rfl))) (λgi s1 H1 gF gI=>(ew (i:=0) (show(["_law_k","_law_m","_law_one","_law_other"]:List Str).Nodup by decide+kernel) rfl (bF rfl) (.inr rfl))) (l6 (by decide)) (λgi s1 H1 gF gI=>(ae 0)) (λgi s1 H1 gF gI=>((o5 (ho uv (ae 2) (dh aD (dh aD (ae 1) cx (λ_ _=>rfl)) (ae 0) (λ_ _=>rfl)) rfl) (p2 (ho uv (ae 3) (dh aD (dh aD (ae 1) cx (λ_ _=>rfl)) (ae 0) (λ_ _=>rfl)) rfl)))).pt)))
   (a6 (alg (i:=4) L1.a4 rfl rfl (own:=["_law_k"]) (caps:=["_law_both","_law_m"]) (cap:=[3,0]) (cl:=[("_law_m",s.heap.objs.size+1),("_law_both",s.heap.objs.size+4)]) (kk:="_law_k") (by exact abg rfl (by decide+kernel) (by decide+kernel) (by decide+kernel) rfl (by intro p aB;simp at aB;rcases aB with rfl | rfl<;>rfl) ⟨⟨rfl,rfl,bF rfl,_,rfl⟩,⟨rfl,rfl,bF rfl,_,rfl⟩,trivial⟩ (by decide+kernel) (λ_ _=>rfl) (λ_=>rfl)) rfl (g9 (ae 3)) (λgi s1 H1 gF gI=>(ew (i:=0) (show(["_law_k","_law_both","_law_m"]:List Str).Nodup by decide+kernel) rfl (oo rfl) (.inl rfl))) (l6 (by decide)) (λgi s1 H1 gF gI=>(ae 0)) (λgi s1 H1 gF gI=>(jV (ea (vI rfl) (by rfl) T.all xH (ay (uy (own:=["_law_far"]) (caps:=["_law_k","_law_m"]) (cap:=[0,2]) (cl:=[("_law_m",s.heap.objs.size+1),("_law_k",gi+1)]) (by exact oD rfl (by decide+kernel) (by decide+kernel) (by decide+kernel) rfl (by intro p aB;simp at aB;rcases aB with rfl | rfl<;>rfl) ⟨⟨rfl,rfl,bF rfl,_,rfl⟩,⟨rfl,rfl,bF rfl,_,rfl⟩,trivial⟩) rfl (g9 (ae 1)) (λYU s2 H2 ae9 alC=>(ew (i:=0) (show(["_law_far","_law_k","_law_m"]:List Str).Nodup by decide+kernel) rfl (bF rfl) (.inr rfl))) (l6 (by decide)) (λYU s2 H2 ae9 alC=>(wH uv (ae 1) (dh aD (dh aD (ae 2) cx (λ_ _=>rfl)) (ae 0) (λ_ _=>rfl)) rfl))) aV)))))
   (bI (dr (alk (ho (TM aD) (ae 4) (kU aV) (kl _)) (hD (show nA _ (n5 K)from iw) (ae 4) dg (λ_ _=>rfl)) Ap))))),
   (cq (fb (Aw none (g6 (dz (ax 0) cQ)) (cG (i:=0)) (p1 (jW (e0 m3 (ax 2) ((dz (dz (ax 1) cQ) (ax 0))).b)) (jW (e0 m3 (ax 3) ((dz (dz (ax 1) cQ) (ax 0))).b))) (ax 0) (λi j h=>by cases h)) (cG (i:=3))) (cq (fb (Aw none (g6 (ax 3)) (cG (i:=0)) (fV (gc y2 ((wO none (g6 (ax 1)) (cG (i:=0)) (e0 m3 (ax 1) ((dz (dz (ax 2) cQ) (ax 0))).b) (λi j h=>by cases h))).b)) (ax 0) (λi j h=>by cases h)) (cG (i:=4))) (d7 (alK (jW (e0 TA (ax 4) ((m6 b1)).b)) (e0 D9 (ax 4) (hp).b) Ay))))⟩)
 exact h2
abbrev Lz:cc:=c6 52
def EM:cX ["_law_m","_law_ups","_law_found","_law_up"] ["_law_m","_law_ups"] (bY Lz):=by ac_rfl
def aks(F:bT K "_law_far_of" "_law_far_of" Lz f aE)(T:el mg):aY P w K mg base bq 1 f aE ["_law_m","_law_ups"] (bV (bS (qC) 2 4)):=by
 have h:=@bT.den _ P w K mg base _ _ _ f aE _ _ 0 (qC) [] F EM;have h2:=h (λbA A a3 s H E aA=>by
  have aD:=ff aA;exact⟨_,(a6 (du (i:=2) EM.a4 rfl (oo rfl) (kU aV))
   (a6 (hn io rfl (g9 (ae 1)) (ew (i:=3) EM.a4 rfl (bF rfl)) (bI (du (i:=2) EM.a4 rfl (oo rfl) (f' TJ (ae 2) (Eo (own:=["_law_far"]) (caps:=["_law_found"]) (cap:=[2]) (cl:=[("_law_found",s.heap.objs.size+1)]) (by exact oD rfl (by decide+kernel) (by decide+kernel) (by decide+kernel) rfl (by intro p aB;simp at aB;subst aB;rfl) ⟨⟨rfl,rfl,bF rfl,_,rfl⟩,trivial⟩) rfl (g9 (dh aD (dh aD (ae 0) cx (λ_ _=>rfl)) (ae 3) (λ_ _=>rfl))) (λgi s1 H1 gF gI=>(ew (i:=0) (show(["_law_far","_law_found"]:List Str).Nodup by decide+kernel) rfl (bF rfl) (.inr rfl))) (l6 (by decide)) (λgi s1 H1 gF gI=>(ae 0)) (λgi s1 H1 gF gI=>(ho wF (ae 0) (ae 1) rfl)))))))
   (bI (dr (ae 2))))),
   (cq (fb (m6 b1) (cG (i:=2))) (cq (jz (g6 (ax 1)) (cG (i:=3)) (fb (e0 Tx (ax 2) ((Aw none (g6 (dz (dz (ax 0) cQ) (ax 3))) (cG (i:=0)) (jW (e0 m3 (ax 0) ((ax 1)).b)) (ax 0) (λi j h=>by cases h))).b) (cG (i:=2)))) (d7 (ax 2))))⟩)
 exact h2
abbrev LF:cc:=c6 53
def EO:cX ["_law_m","_law_ups","_law_found","_law_up","_law_room"] ["_law_m","_law_ups"] (bY LF):=by ac_rfl
def akx(F:bT K "_law_inherited" "_law_inherited" LF f aE)(T:el mg):aY P w K mg base bq 1 f aE ["_law_m","_law_ups"] (bV (bS (yT) 2 5)):=by
 have h:=@bT.den _ P w K mg base _ _ _ f aE _ _ 0 (yT) [] F EO;have h2:=h (λbA A a3 s H E aA=>by
  have aD:=ff aA;exact⟨_,(a6 (du (i:=2) EO.a4 rfl (bF rfl) n2)
   (a6 (hn io rfl (g9 (ea (Ht rfl) (by rfl) T.sorted PyProof.Rows.Boot.«sorted» (ay (je (Hs rfl) (by rfl) T.set PyProof.Rows.Boot.«set» (ay (ae 1) aV)) aV))) (ew (i:=3) EO.a4 rfl (bF rfl)) (bI (wM (hn io rfl (uz (dh aD (dh aD (ae 0) cx (λ_ _=>rfl)) (ae 3) (λ_ _=>rfl))) (ew (i:=4) EO.a4 rfl (bF rfl)) hQ))))
   (bI (dr (ae 2))))),
   (cq (p9 (i:=2) v7) (cq (jz (g6 (KS ((ax 1)).b)) (cG (i:=3)) (AN (dz (dz (ax 0) cQ) (ax 3)) (cG (i:=4)) uM)) (d7 (ax 2))))⟩)
 exact h2
abbrev amE:cc:=c6 54
abbrev LS:cc:=c6 55
def AI:cX ["_law_m","_law_far","_law_inherited_here","_law_some_rooms","_law_seen","_law_room","_law_kind"] ["_law_m","_law_far","_law_inherited_here","_law_some_rooms"] (bY LS):=by ac_rfl
def akW{zz:O}(Gd:e3 K mg "_law_good_name" zz HD ["_law_text"])(Gy:aY P w K mg base bq 1 zz HD ["_law_text"] (bV qu)){QP:O}(Yr:e3 K mg "_law_low_all" QP aco ["_law_m","_law_some"])(Zx:aY P w K mg base bq 2 QP aco ["_law_m","_law_some"] (bV B3))(F:bT K "_law_why_rooms" "_law_why_rooms" LS f aE)(T:el mg):aY P w K mg base bq 3 f aE ["_law_m","_law_far","_law_inherited_here","_law_some_rooms"] (bV (bS (yY qu B3) 4 7)):=by
 have h:=@bT.den _ P w K mg base _ _ _ f aE _ _ 2 (yY qu B3) [] F AI;have h2:=h (λbA A a3 s H E aA=>by
  have aD:=ff aA;exact⟨_,(a6 (du (i:=4) AI.a4 rfl (bF rfl) (kU aV))
   (a6 (hn io rfl (g9 (ae 3)) (Es rfl (sL (ew (i:=5) AI.a4 rfl (bF rfl)) (sL (ew (i:=6) AI.a4 rfl (oo rfl)) Et))) (a6 (dN (q_ (jV (eF Gy aA Gd (ay (ae 5) aV)))) (bI (dr (iA (ay cx (ay (ae 5) aV))))) dZ)
   (a6 (dN (ho wF (ae 6) (dh aD (ae 0) cx (λ_ _=>rfl)) rfl) (bI (dr (iA (ay cx (ay (ae 6) aV))))) dZ)
   (a6 (dN (ho uv (ae 5) (ae 4) rfl) (bI (dr (iA (ay cx (ay (ae 5) aV))))) dZ)
   (a6 (fU (En FO FP FQ Ab (ae 4) (ay (ae 5) aV)))
   (a6 (dN ((o5 (g_ (q6 aD (ae 5) (dh aD (ae 0) cx (λ_ _=>rfl)))) (p2 (ho wF (dh aD (dh aD (ae 0) cx (λ_ _=>rfl)) (ae 5) (λ_ _=>rfl)) (ae 1) rfl)))).pt (bI (dr (iA (ay cx (ay (ae 5) aV))))) dZ)
   (bI (dN (q_ (jV (ea (vI rfl) (by rfl) T.all xH (ay (uy (own:=["_law_let"]) (caps:=["_law_kind","_law_m"]) (cap:=[6,0]) (cl:=[("_law_m",s.heap.objs.size+1),("_law_kind",s.heap.objs.size+2)]) (by exact oD rfl (by decide+kernel) (by decide+kernel) (by decide+kernel) rfl (by intro p aB;simp at aB;rcases aB with rfl | rfl<;>rfl) ⟨⟨rfl,rfl,bF rfl,_,rfl⟩,⟨rfl,rfl,bF rfl,_,rfl⟩,trivial⟩) rfl (g9 (alj aD (ae 2) (ae 5) (kU aV) ⟨rfl,rfl,rfl,rfl⟩)) (λgi s1 H1 gF gI=>(ew (i:=0) (show(["_law_let","_law_kind","_law_m"]:List Str).Nodup by decide+kernel) rfl (bF rfl) (.inr rfl))) (l6 (by decide)) (λgi s1 H1 gF gI=>(wH uv (ae 0) (dh aD (dh aD (ae 2) cx (λ_ _=>rfl)) (ae 1) (λ_ _=>rfl)) rfl))) aV)))) (bI (dr (iA (ay cx (ay (ae 5) aV))))) dZ))))))))
   (a6 (hn io rfl (g9 (ea (y0 rfl) (by rfl) T.sorted PyProof.Rows.Boot.«sorted» (ay (ae 2) aV))) (ew (i:=5) AI.a4 rfl (bF rfl)) (bI (dN ((o5 (ho wF (ae 5) (ae 4) rfl) (p2 (g_ (o2 (eF Zx aA Yr (ay (ae 0) (ay (dh aD (ae 2) (ae 5) (λ_ _=>rfl)) aV)))))))).pt (bI (dr (iA (ay cx (ay (ae 5) aV))))) dZ)))
   (bI (dr Ap))))),
   (cq (p9 (i:=4) Rg) (cq (jz (g6 (ax 3)) (Dn (sh (cG (i:=5)) (sh (cG (i:=6)) Dm))) (cq (fJ (rb (fV (gb (a8 (ax 5) b1)))) (d7 (kW (a8 cQ (a8 (ax 5) b1)))) fK) (cq (fJ (jW (e0 m3 (ax 6) ((dz (ax 0) cQ)).b)) (d7 (kW (a8 cQ (a8 (ax 6) b1)))) fK) (cq (fJ (jW (e0 m3 (ax 5) (KR 4))) (d7 (kW (a8 cQ (a8 (ax 5) b1)))) fK) (cq (Vb (i:=4) (ax 5)) (cq (fJ (p1 (fV (ra (ax 5) ((dz (ax 0) cQ)).b)) (jW (e0 m3 (dz (dz (ax 0) cQ) (ax 5)) ((ax 1)).b))) (d7 (kW (a8 cQ (a8 (ax 5) b1)))) fK) (fJ (rb (fV (gc y2 ((wO none (g6 (alJ (ax 2) (ax 5) (m6 b1))) (cG (i:=0)) (e0 m3 (ax 0) ((dz (dz (ax 2) cQ) (ax 1))).b) (λi j h=>by cases h))).b))) (d7 (kW (a8 cQ (a8 (ax 5) b1)))) fK))))))) (cq (jz (g6 (gc y4 ((ax 2)).b)) (cG (i:=5)) (fJ (p1 (jW (e0 m3 (ax 5) (KR 4))) (fV (sO ((gb (a8 (ax 0) (a8 (dz (ax 2) (ax 5)) b1)))).b))) (d7 (kW (a8 cQ (a8 (ax 5) b1)))) fK)) (d7 Ay))))⟩)
 exact h2
abbrev LB:cc:=c6 56
def EN:cX ["_law_m","_law_far","_law_one","_law_other","_law_low_here"] ["_law_m","_law_far"] (bY LB):=by ac_rfl
def aku{QO:O}(Yq:e3 K mg "_law_low" QO acn ["_law_m","_law_one","_law_other"])(Zw:aY P w K mg base bq 1 QO acn ["_law_m","_law_one","_law_other"] (bV py))(F:bT K "_law_fork" "_law_fork" LB f aE)(T:el mg):aY P w K mg base bq 2 f aE ["_law_m","_law_far"] (bV (bS (yS py) 2 5)):=by
 have h:=@bT.den _ P w K mg base _ _ _ f aE _ _ 1 (yS py) [] F EN;have h2:=h (λbA A a3 s H E aA=>by
  have aD:=ff aA;exact⟨_,(a6 (hn io rfl (g9 (ea y1 (by rfl) T.sorted PyProof.Rows.Boot.«sorted» (ay (ae 1) aV))) (ew (i:=2) EN.a4 rfl (bF rfl)) (bI (hn io rfl (g9 (ea y1 (by rfl) T.sorted PyProof.Rows.Boot.«sorted» (ay (ae 1) aV))) (ew (i:=3) EN.a4 rfl (bF rfl)) (a6 (du (i:=4) EN.a4 rfl (bF rfl) (eF Zw aA Yq (ay (ae 0) (ay (ae 2) (ay (ae 3) aV)))))
   (bI (dN ((o5 (ho ak1 (ae 2) (ae 3) (kl _)) (o5 (g_ (Ao (ae 4))) (p2 (ho wF (ae 4) (ae 1) rfl))))).pt (bI (dr (iA (ay (ae 2) (ay (ae 3) aV))))) dZ))))))
   (bI (dr Ap))),
   (cq (jz (g6 (gc y3 ((ax 1)).b)) (cG (i:=2)) (jz (g6 (gc y3 ((ax 1)).b)) (cG (i:=3)) (cq (fb (gb (a8 (ax 0) (a8 (ax 2) (a8 (ax 3) b1)))) (cG (i:=4))) (fJ (p1 (jW (e0 Kp (ax 2) ((ax 3)).b)) (p1 (fV (Ey ((ax 4)).b)) (jW (e0 m3 (ax 4) ((ax 1)).b)))) (d7 (kW (a8 (ax 2) (a8 (ax 3) b1)))) fK)))) (d7 Ay))⟩)
 exact h2
abbrev amD:cc:=c6 59
abbrev LN:cc:=c6 60
def UW:cX ["_law_m","_law_start_here","_law_seen","_law_todo","_law_here"] ["_law_m"] (bY LN):=by ac_rfl
def akK{QM:O}(apI:e3 K mg "_law_leads" QM acj ["_law_m","_law_name"])(apL:aY P w K mg base bq 2 QM acj ["_law_m","_law_name"] (bV Gr))(F:bT K "_law_ring" "_law_ring" LN f aE)(T:el mg):aY P w K mg base bq 3 f aE ["_law_m"] (bV (bS (yW Gr) 1 5)):=by
 have h:=@bT.den _ P w K mg base _ _ _ f aE _ _ 2 (yW Gr) [] F UW;have h2:=h (λbA A a3 s H E aA=>by
  have aD:=ff aA;exact⟨_,(a6 (hn io rfl (g9 (ea (y0 rfl) (by rfl) T.sorted PyProof.Rows.Boot.«sorted» (ay (dh aD (ae 0) cx (λ_ _=>rfl)) aV))) (ew (i:=1) UW.a4 rfl (bF rfl)) hQ)
   (bI (dr wG))),
   (cq (jz (g6 (gc y4 ((dz (ax 0) cQ)).b)) (cG (i:=1)) uM) (d7 KP))⟩)
 exact h2
abbrev LQ:cc:=c6 61
def am':cX ["_law_m","_law_kind"] ["_law_m","_law_kind"] (bY LQ):=by ac_rfl
def akU(F:bT K "_law_under" "_law_under" LQ f aE)(T:el mg):aY P w K mg base bq 1 f aE ["_law_m","_law_kind"] (bV (bS (CL) 2 2)):=by
 have h:=@bT.den _ P w K mg base _ _ _ f aE _ _ 0 (CL) [] F am';have h2:=h (λbA A a3 s H E aA=>by
  have aD:=ff aA;exact⟨_,(bI (dr (Eo (own:=["_law_k"]) (caps:=["_law_kind","_law_m"]) (cap:=[1,0]) (cl:=[("_law_m",s.heap.objs.size+1),("_law_kind",s.heap.objs.size+2)]) (by exact oD rfl (by decide+kernel) (by decide+kernel) (by decide+kernel) rfl (by intro p aB;simp at aB;rcases aB with rfl | rfl<;>rfl) ⟨⟨rfl,rfl,bF rfl,_,rfl⟩,⟨rfl,rfl,bF rfl,_,rfl⟩,trivial⟩) rfl (g9 (dh aD (ae 0) cx (λ_ _=>rfl))) (λgi s1 H1 gF gI=>(ew (i:=0) (show(["_law_k","_law_kind","_law_m"]:List Str).Nodup by decide+kernel) rfl (bF rfl) (.inr rfl))) (l6 (by decide)) (λgi s1 H1 gF gI=>(ae 0)) (λgi s1 H1 gF gI=>(ho uv (ae 1) (dh aD (dh aD (ae 2) cx (λ_ _=>rfl)) (ae 0) (λ_ _=>rfl)) rfl))))),
   (d7 (Aw none (g6 (dz (ax 0) cQ)) (cG (i:=0)) (jW (e0 m3 (ax 1) ((dz (dz (ax 2) cQ) (ax 0))).b)) (ax 0) (λi j h=>by cases h)))⟩)
 exact h2
abbrev Ll:cc:=fx (c6 42) 2
def amT:cX ["self","name"] ["self","name"] (bY Ll):=by ac_rfl
def aj8(cT:hK K bH){zA:O}(Ge:e3 K mg "is_name" zA HE ["text"])(Gz:aY P w K mg base bq 1 zA HE ["text"] (bV nz))(agF:mg "MOST_KINDS"=some (.int 24 aqM)){ot Ix:O}(oA:iE P w K mg base "BadName" ot Ix abT ["name"]){x_ aeE:O}(yE:iE P w K mg base "Taken" x_ aeE ap9 ["name"]){x6 aeA:O}(yA:iE P w K mg base "Full" x6 aeA ap5 [])(F:bT K "check_new" "Kinds.check_new" Ll f aE)(T:el mg):aY P w K mg base (eb P w) 4 f aE ["self","name"] (bV (bS (yP bH ot x_ x6 nz) 2 2)):=by
 have h:=@bT.oI _ P w K mg base _ _ _ f aE _ _ 3 (yP bH ot x_ x6 nz) [] F amT;have h2:=h (λbA A a3 s H E aA=>by
  have aD:=ff aA;exact⟨_,(a6 (dN (q_ (jV (eF Gz aA Ge (ay (ae 1) aV)))) (bI (o3 (q8 oA.iz oA.ok aA.m (by rfl) oA.kR oA.bs .nil er (ay (ae 1) aV)))) dZ)
   (a6 (dN (g_ (q6 aD (ae 1) (fT (ae 0) rfl))) (bI (o3 (q8 yE.iz yE.ok aA.m (by rfl) yE.kR yE.bs .nil er (ay (ae 1) aV)))) dZ)
   (bI (dN (ho Kw (ea pF (by rfl) T.len lT (ay (fT (ae 0) rfl) aV)) (q7 (by rfl) agF (v:=.int 24) ⟨_,rfl⟩) (kl _)) (bI (o3 (T3 yA.iz yA.ok aA.m (by rfl) yA.kR yA.bs .nil er))) dZ)))),
   (cq (fJ (rb (fV (gb (a8 (ax 1) b1)))) (o6 oA.iz rfl (a8 (ax 1) b1)) fK) (cq (fJ (fV (ra (ax 1) ((jw cT.cl cT.m1 (ax 0))).b)) (o6 yE.iz rfl (a8 (ax 1) b1)) fK) (fJ (jW (e0 ajP (gc vK ((jw cT.cl cT.sC (ax 0))).b) (hp).b)) (o6 yA.iz rfl b1) fK)))⟩)
 exact h2
abbrev Lm:cc:=fx (c6 42) 3
def EL:cX ["self","ups","up","above","fork"] ["self","ups"] (bY Lm):=by ac_rfl
def aj9(cT:hK K bH){h8:O}(k5:eO K bH "check_kind" h8)(k2:Binds K la ["self","name"] [])(k3:aY P w K mg base (eb P w) 4 h8 la ["self","name"] (bV eU)){zw:O}(GY:eO K bH "above_all" zw)(Gl:Binds K HA ["self","ups"] [])(Gs:aY P w K mg base bq 1 zw HA ["self","ups"] (bV qs)){QG:O}(Yl:e3 K mg "first_fork" QG ab8 ["upward","above"])(Zq:aY P w K mg base bq 3 QG ab8 ["upward","above"] (bV BW)){x0 aey:O}(yy:iE P w K mg base "BadParts" x0 aey ap3 []){x5 aez:O}(yz:iE P w K mg base "Forked" x5 aez ap4 ["one","other"])(F:bT K "check_ups" "Kinds.check_ups" Lm f aE)(T:el mg):aY P w K mg base (eb P w) 5 f aE ["self","ups"] (bV (bS (yQ bH x0 x5 eU qs BW) 2 5)):=by
 have h:=@bT.oI _ P w K mg base _ _ _ f aE _ _ 4 (yQ bH x0 x5 eU qs BW) [] F EL;have h2:=h (λbA A a3 s H E aA=>by
  have aD:=ff aA;exact⟨_,(a6 (hn PassesOwn.leaving rfl (g9 (ae 1)) (ew (i:=2) EL.a4 rfl (bF rfl)) (bI (fU (gS (ae 0) cT.cl k5 k3 aA.m k2 .nil n1 (ay (ae 2) aV)))))
   (a6 (dN (q_ (KN (ae 1) (λ_=>rfl))) (bI (o3 (T3 yy.iz yy.ok aA.m (by rfl) yy.kR yy.bs .nil er))) dZ)
   (a6 (du (i:=3) EL.a4 rfl (bF rfl) (gS (ae 0) cT.cl GY Gs aA.m Gl .nil er (ay (ae 1) aV)))
   (a6 (du (i:=4) EL.a4 rfl (bF rfl) (eF Zq aA Yl (ay (fT (ae 0) rfl) (ay (ae 3) aV))))
   (bI (dN (g_ (Ao (ae 4))) (bI (o3 (q8 yz.iz yz.ok aA.m (by rfl) yz.kR yz.bs .nil er (ay (hD (show nA _ (EE K)from Sp) (ae 4) dg (λ_ _=>rfl)) (ay (hD (show nA _ (EE K)from Sp) (ae 4) dg (λ_ _=>rfl)) aV))))) dZ)))))),
   (cq (jz (g6 (ax 1)) (cG (i:=2)) (sX ((sP (ax 0) (a8 (ax 2) b1))).b)) (cq (fJ (rb (KU ((ax 1)).b)) (o6 yy.iz rfl b1) fK) (cq (fb (m7 (ax 0) (a8 (ax 1) b1)) (cG (i:=3))) (cq (fb (gb (a8 (jw cT.cl cT.m1 (ax 0)) (a8 (ax 3) b1))) (cG (i:=4))) (fJ (fV (Ey ((ax 4)).b)) (o6 yz.iz rfl (a8 (e0 Tz (ax 4) (hp).b) (a8 (e0 Tz (ax 4) (hp).b) b1))) fK)))))⟩)
 exact h2
abbrev Lk:cc:=fx (c6 42) 4
def amS:cX ["self","name"] ["self","name"] (bY Lk):=by ac_rfl
def aj7(cT:hK K bH){x8 aeC:O}(yC:iE P w K mg base "NoKind" x8 aeC ap7 ["name"])(F:bT K "check_kind" "Kinds.check_kind" Lk f aE)(T:el mg):aY P w K mg base (eb P w) 4 f aE ["self","name"] (bV (bS (vC bH x8) 2 2)):=by
 have h:=@bT.oI _ P w K mg base _ _ _ f aE _ _ 3 (vC bH x8) [] F amS;have h2:=h (λbA A a3 s H E aA=>by
  have aD:=ff aA;exact⟨_,(bI (dN (g_ (Em aD (ae 1) (fT (ae 0) rfl))) (bI (o3 (q8 yC.iz yC.ok aA.m (by rfl) yC.kR yC.bs .nil er (ay (ae 1) aV)))) dZ)),
   (fJ (fV (Ew (ax 1) ((jw cT.cl cT.m1 (ax 0))).b)) (o6 yC.iz rfl (a8 (ax 1) b1)) fK)⟩)
 exact h2
abbrev Lj:cc:=fx (c6 42) 5
def LX:cX ["self","ups","above","up"] ["self","ups"] (bY Lj):=by ac_rfl
def aj6(cT:hK K bH)(F:bT K "above_all" "Kinds.above_all" Lj f aE)(T:el mg):aY P w K mg base bq 1 f aE ["self","ups"] (bV (bS (yO bH) 2 4)):=by
 have h:=@bT.den _ P w K mg base _ _ _ f aE _ _ 0 (yO bH) [] F LX;have h2:=h (λbA A a3 s H E aA=>by
  have aD:=ff aA;exact⟨_,(a6 (du (i:=2) LX.a4 rfl (bF rfl) n2)
   (a6 (hn io rfl (g9 (ae 1)) (ew (i:=3) LX.a4 rfl (bF rfl)) (bI (fU (Ep (ae 2) (dh aD (fT (ae 0) rfl) (ae 3) (λ_ _=>rfl)) ⟨rfl,rfl,rfl,rfl⟩))))
   (bI (dr (ae 2))))),
   (cq (p9 (i:=2) v7) (cq (jz (g6 (ax 1)) (cG (i:=3)) (E0 (i:=2) (dz (jw cT.cl cT.m1 (ax 0)) (ax 3)))) (d7 (ax 2))))⟩)
 exact h2
abbrev Ln:cc:=fx (c6 42) 6
def AF:cX ["self","ups","rooms","above","told","room","kind"] ["self","ups","rooms"] (bY Ln):=by ac_rfl
def aj_(cT:hK K bH){zw:O}(GY:eO K bH "above_all" zw)(Gl:Binds K HA ["self","ups"] [])(Gs:aY P w K mg base bq 1 zw HA ["self","ups"] (bV qs)){zA:O}(Ge:e3 K mg "is_name" zA HE ["text"])(Gz:aY P w K mg base bq 1 zA HE ["text"] (bV nz)){h8:O}(k5:eO K bH "check_kind" h8)(k2:Binds K la ["self","name"] [])(k3:aY P w K mg base (eb P w) 4 h8 la ["self","name"] (bV eU)){zx:O}(GZ:eO K bH "let_by" zx)(Gm:Binds K HB ["self","ups","room"] [])(Gu:aY P w K mg base bq 1 zx HB ["self","ups","room"] (bV qt)){Qu:O}(ZY:eO K bH "is_below" Qu)(YM:Binds K abX ["self","one","other"] [])(Zh:aY P w K mg base (eb P w) 5 Qu abX ["self","one","other"] (bV BL)){ot Ix:O}(oA:iE P w K mg base "BadName" ot Ix abT ["name"]){x' aeF:O}(yF:iE P w K mg base "Twice" x' aeF ap_ ["room"]){x9 aeD:O}(yD:iE P w K mg base "Strange" x9 aeD ap8 ["room"]){ya aeG:O}(yG:iE P w K mg base "Wider" ya aeG ap' ["room"])(F:bT K "checked_rooms" "Kinds.checked_rooms" Ln f aE)(T:el mg):aY P w K mg base (eb P w) 6 f aE ["self","ups","rooms"] (bV (bS (CA bH ot x' x9 ya qs nz eU qt BL) 3 7)):=by
 have h:=@bT.oI _ P w K mg base _ _ _ f aE _ _ 5 (CA bH ot x' x9 ya qs nz eU qt BL) [] F AF;have h2:=h (λbA A a3 s H E aA=>by
  have aD:=ff aA;exact⟨_,(a6 (du (i:=3) AF.a4 rfl (bF rfl) (gS (ae 0) cT.cl GY Gs aA.m Gl .nil er (ay (ae 1) aV)))
   (a6 (du (i:=4) AF.a4 rfl (bF rfl) n2)
   (a6 (hn PassesOwn.leaving rfl (g9 (ae 2)) (Es rfl (sL (ew (i:=5) AF.a4 rfl (bF rfl)) (sL (ew (i:=6) AF.a4 rfl (oo rfl)) Et))) (a6 (dN (q_ (jV (eF Gz aA Ge (ay (ae 5) aV)))) (bI (o3 (q8 oA.iz oA.ok aA.m (by rfl) oA.kR oA.bs .nil er (ay (ae 5) aV)))) dZ)
   (a6 (fU (gS (ae 0) cT.cl k5 k3 aA.m k2 .nil n1 (ay (ae 6) aV)))
   (a6 (dN (g_ (q6 aD (ae 5) (ae 4))) (bI (o3 (q8 yF.iz yF.ok aA.m (by rfl) yF.kR yF.bs .nil er (ay (ae 5) aV)))) dZ)
   (a6 (dN ((o5 (g_ (q6 aD (ae 5) (fT (ae 0) rfl))) (p2 (g_ (Em aD (dh aD (fT (ae 0) rfl) (ae 5) (λ_ _=>rfl)) (ae 3)))))).pt (bI (o3 (q8 yD.iz yD.ok aA.m (by rfl) yD.kR yD.bs .nil er (ay (ae 5) aV)))) dZ)
   (a6 (dN (q_ (jV (ea (vI rfl) (by rfl) T.all xH (ay (uy (own:=["let"]) (caps:=["kind","self"]) (cap:=[6,0]) (cl:=[("self",s.heap.objs.size+1),("kind",s.heap.objs.size+2)]) (by exact oD rfl (by decide+kernel) (by decide+kernel) (by decide+kernel) rfl (by intro p aB;simp at aB;rcases aB with rfl | rfl<;>rfl) ⟨⟨rfl,rfl,bF rfl,_,rfl⟩,⟨rfl,rfl,bF rfl,_,rfl⟩,trivial⟩) rfl (g9 (gS (ae 0) cT.cl GZ Gu aA.m Gm .nil er (ay (ae 1) (ay (ae 5) aV)))) (λgi s1 H1 gF gI=>(ew (i:=0) (show(["let","kind","self"]:List Str).Nodup by decide+kernel) rfl (bF rfl) (.inr rfl))) (l6 (by decide)) (λgi s1 H1 gF gI=>(gS (ae 2) cT.cl ZY (Zh).calm aA.m YM .nil er (ay (ae 1) (ay (ae 0) aV))))) aV)))) (bI (o3 (q8 yG.iz yG.ok aA.m (by rfl) yG.kR yG.bs .nil er (ay (ae 5) aV)))) dZ)
   (bI (n3 aD (ae 4) (ae 5) (ae 6) rfl))))))))
   (bI (dr (ae 4)))))),
   (cq (fb (m7 (ax 0) (a8 (ax 1) b1)) (cG (i:=3))) (cq (p9 (i:=4) v7) (cq (jz (g6 (ax 2)) (Dn (sh (cG (i:=5)) (sh (cG (i:=6)) Dm))) (cq (fJ (rb (fV (gb (a8 (ax 5) b1)))) (o6 oA.iz rfl (a8 (ax 5) b1)) fK) (cq (sX ((sP (ax 0) (a8 (ax 6) b1))).b) (cq (fJ (fV (ra (ax 5) (KR 4))) (o6 yF.iz rfl (a8 (ax 5) b1)) fK) (cq (fJ (p1 (fV (ra (ax 5) ((jw cT.cl cT.wx (ax 0))).b)) (fV (Ew (dz (jw cT.cl cT.wx (ax 0)) (ax 5)) ((ax 3)).b))) (o6 yD.iz rfl (a8 (ax 5) b1)) fK) (cq (fJ (rb (fV (gc y2 ((wO none (g6 (m7 (ax 0) (a8 (ax 1) (a8 (ax 5) b1)))) (cG (i:=0)) (m7 (ax 2) (a8 (ax 1) (a8 (ax 0) b1))) (λi j h=>by cases h))).b))) (o6 yG.iz rfl (a8 (ax 5) b1)) fK) (Vc (i:=4) (ax 5) (ax 6)))))))) (d7 (ax 4)))))⟩)
 exact h2
abbrev amC:cc:=fx (c6 42) 7
abbrev Lo:cc:=fx (c6 42) 8
def AG:cX ["self","ups","told","lets","room","let","low"] ["self","ups","told"] (bY Lo):=by ac_rfl
def aj'(cT:hK K bH){zx:O}(GZ:eO K bH "let_by" zx)(Gm:Binds K HB ["self","ups","room"] [])(Gu:aY P w K mg base bq 1 zx HB ["self","ups","room"] (bV qt)){QR:O}(Yt:e3 K mg "low_of_all" QR acq ["upward","kinds"])(Zz:aY P w K mg base bq 3 QR acq ["upward","kinds"] (bV B4)){x7 aeB:O}(yB:iE P w K mg base "NoFit" x7 aeB ap6 ["room"])(F:bT K "lets_below" "Kinds.lets_below" Lo f aE)(T:el mg):aY P w K mg base (eb P w) 4 f aE ["self","ups","told"] (bV (bS (CB bH x7 qt B4) 3 7)):=by
 have h:=@bT.oI _ P w K mg base _ _ _ f aE _ _ 3 (CB bH x7 qt B4) [] F AG;have h2:=h (λbA A a3 s H E aA=>by
  have aD:=ff aA;exact⟨_,(a6 (du (i:=3) AG.a4 rfl (bF rfl) (je r3 (by rfl) T.dict PyProof.Rows.Boot.«dict» (ay (ae 2) aV)))
   (a6 (hn PassesOwn.leaving rfl (g9 (ea (y0 rfl) (by rfl) T.sorted PyProof.Rows.Boot.«sorted» (ay (fT (ae 0) rfl) aV))) (ew (i:=4) AG.a4 rfl (bF rfl)) (a6 (du (i:=5) AG.a4 rfl (bF rfl) (gS (ae 0) cT.cl GZ Gu aA.m Gm .nil er (ay (ae 1) (ay (ae 4) aV))))
   (bI (dN ((o5 (KN (ae 5) (λ_=>rfl)) (p2 (g_ (Em aD (ae 4) (ae 2)))))).pt (a6 (du (i:=6) AG.a4 rfl (bF rfl) (eF Zz aA Yt (ay (fT (ae 0) rfl) (ay (ae 5) aV))))
   (a6 (dN (g_ (o2 (ae 6))) (bI (o3 (q8 yB.iz yB.ok aA.m (by rfl) yB.kR yB.bs .nil er (ay (ae 4) aV)))) dZ)
   (bI (n3 aD (ae 3) (ae 4) (ae 6) rfl)))) dZ))))
   (bI (dr (ae 3))))),
   (cq (p9 (i:=3) (Rf ((ax 2)).b)) (cq (jz (g6 (gc y4 ((jw cT.cl cT.wx (ax 0))).b)) (cG (i:=4)) (cq (fb (m7 (ax 0) (a8 (ax 1) (a8 (ax 4) b1))) (cG (i:=5))) (fJ (p1 (KU ((ax 5)).b) (fV (Ew (ax 4) ((ax 2)).b))) (cq (fb (gb (a8 (jw cT.cl cT.m1 (ax 0)) (a8 (ax 5) b1))) (cG (i:=6))) (cq (fJ (fV (sO ((ax 6)).b)) (o6 yB.iz rfl (a8 (ax 4) b1)) fK) (Vc (i:=3) (ax 4) (ax 6)))) fK))) (d7 (ax 3))))⟩)
 exact h2
abbrev Lq:cc:=fx (c6 42) 14
def amV:cX ["self"] ["self"] (bY Lq):=by ac_rfl
def akb(cT:hK K bH)(F:bT K "names" "Kinds.names" Lq f aE)(T:el mg):aY P w K mg base bq 1 f aE ["self"] (bV (bS (CD bH) 1 1)):=by
 have h:=@bT.den _ P w K mg base _ _ _ f aE _ _ 0 (CD bH) [] F amV;have h2:=h (λbA A a3 s H E aA=>by
  have aD:=ff aA;exact⟨_,(bI (dr (je vJ (by rfl) T.list PyProof.Rows.Boot.«list» (ay (fT (ae 0) rfl) aV)))),
   (d7 (gc Hv ((jw cT.cl cT.sC (ax 0))).b))⟩)
 exact h2
abbrev Lv:cc:=fx (c6 42) 15
def amZ:cX ["self","name"] ["self","name"] (bY Lv):=by ac_rfl
def akf(cT:hK K bH){h8:O}(k5:eO K bH "check_kind" h8)(k2:Binds K la ["self","name"] [])(k3:aY P w K mg base (eb P w) 4 h8 la ["self","name"] (bV eU))(F:bT K "ups" "Kinds.ups" Lv f aE)(T:el mg):aY P w K mg base (eb P w) 5 f aE ["self","name"] (bV (bS (CH bH eU) 2 2)):=by
 have h:=@bT.oI _ P w K mg base _ _ _ f aE _ _ 4 (CH bH eU) [] F amZ;have h2:=h (λbA A a3 s H E aA=>by
  have aD:=ff aA;exact⟨_,(a6 (fU (gS (ae 0) cT.cl k5 k3 aA.m k2 .nil n1 (ay (ae 1) aV)))
   (bI (dr (je vJ (by rfl) T.list PyProof.Rows.Boot.«list» (ay (dh aD (fT (ae 0) rfl) (ae 1) (λ_ _=>rfl)) aV))))),
   (cq (sX ((sP (ax 0) (a8 (ax 1) b1))).b) (d7 (gc Hv ((dz (jw cT.cl cT.Ag (ax 0)) (ax 1))).b)))⟩)
 exact h2
abbrev Li:cc:=fx (c6 42) 16
def amR:cX ["self","name"] ["self","name"] (bY Li):=by ac_rfl
def aj5(cT:hK K bH){h8:O}(k5:eO K bH "check_kind" h8)(k2:Binds K la ["self","name"] [])(k3:aY P w K mg base (eb P w) 4 h8 la ["self","name"] (bV eU))(F:bT K "above" "Kinds.above" Li f aE)(T:el mg):aY P w K mg base (eb P w) 5 f aE ["self","name"] (bV (bS (Cz bH eU) 2 2)):=by
 have h:=@bT.oI _ P w K mg base _ _ _ f aE _ _ 4 (Cz bH eU) [] F amR;have h2:=h (λbA A a3 s H E aA=>by
  have aD:=ff aA;exact⟨_,(a6 (fU (gS (ae 0) cT.cl k5 k3 aA.m k2 .nil n1 (ay (ae 1) aV)))
   (bI (dr (ea (y0 rfl) (by rfl) T.sorted PyProof.Rows.Boot.«sorted» (ay (dh aD (fT (ae 0) rfl) (ae 1) (λ_ _=>rfl)) aV))))),
   (cq (sX ((sP (ax 0) (a8 (ax 1) b1))).b) (d7 (gc y4 ((dz (jw cT.cl cT.m1 (ax 0)) (ax 1))).b)))⟩)
 exact h2
abbrev Lu:cc:=fx (c6 42) 17
def amY:cX ["self","name"] ["self","name"] (bY Lu):=by ac_rfl
def ake(cT:hK K bH){h8:O}(k5:eO K bH "check_kind" h8)(k2:Binds K la ["self","name"] [])(k3:aY P w K mg base (eb P w) 4 h8 la ["self","name"] (bV eU))(F:bT K "under" "Kinds.under" Lu f aE)(T:el mg):aY P w K mg base (eb P w) 5 f aE ["self","name"] (bV (bS (CG bH eU) 2 2)):=by
 have h:=@bT.oI _ P w K mg base _ _ _ f aE _ _ 4 (CG bH eU) [] F amY;have h2:=h (λbA A a3 s H E aA=>by
  have aD:=ff aA;exact⟨_,(a6 (fU (gS (ae 0) cT.cl k5 k3 aA.m k2 .nil n1 (ay (ae 1) aV)))
   (bI (dr (ea y1 (by rfl) T.sorted PyProof.Rows.Boot.«sorted» (ay (Eo (own:=["kind"]) (caps:=["name","self"]) (cap:=[1,0]) (cl:=[("self",s.heap.objs.size+1),("name",s.heap.objs.size+2)]) (by exact oD rfl (by decide+kernel) (by decide+kernel) (by decide+kernel) rfl (by intro p aB;simp at aB;rcases aB with rfl | rfl<;>rfl) ⟨⟨rfl,rfl,bF rfl,_,rfl⟩,⟨rfl,rfl,bF rfl,_,rfl⟩,trivial⟩) rfl (g9 (fT (ae 0) rfl)) (λgi s1 H1 gF gI=>(ew (i:=0) (show(["kind","name","self"]:List Str).Nodup by decide+kernel) rfl (bF rfl) (.inr rfl))) (l6 (by decide)) (λgi s1 H1 gF gI=>(ae 0)) (λgi s1 H1 gF gI=>(g_ (q6 aD (ae 1) (dh aD (fT (ae 2) rfl) (ae 0) (λ_ _=>rfl)))))) aV))))),
   (cq (sX ((sP (ax 0) (a8 (ax 1) b1))).b) (d7 (gc y3 ((Aw none (g6 (jw cT.cl cT.sC (ax 0))) (cG (i:=0)) (fV (ra (ax 1) ((dz (jw cT.cl cT.m1 (ax 2)) (ax 0))).b)) (ax 0) (λi j h=>by cases h))).b)))⟩)
 exact h2
abbrev amB:cc:=fx (c6 42) 18
abbrev amA:cc:=fx (c6 42) 23
abbrev Lp:cc:=fx (c6 42) 25
def amU:cX ["self","name"] ["self","name"] (bY Lp):=by ac_rfl
def aka(cT:hK K bH){h8:O}(k5:eO K bH "check_kind" h8)(k2:Binds K la ["self","name"] [])(k3:aY P w K mg base (eb P w) 4 h8 la ["self","name"] (bV eU))(F:bT K "must_of" "Kinds.must_of" Lp f aE)(T:el mg):aY P w K mg base (eb P w) 5 f aE ["self","name"] (bV (bS (CC bH eU) 2 2)):=by
 have h:=@bT.oI _ P w K mg base _ _ _ f aE _ _ 4 (CC bH eU) [] F amU;have h2:=h (λbA A a3 s H E aA=>by
  have aD:=ff aA;exact⟨_,(a6 (fU (gS (ae 0) cT.cl k5 k3 aA.m k2 .nil n1 (ay (ae 1) aV)))
   (bI (dr (T1 aD (fT (ae 0) rfl) (ae 1) ⟨rfl,rfl,rfl,rfl⟩)))),
   (cq (sX ((sP (ax 0) (a8 (ax 1) b1))).b) (d7 (Uj (jw cT.cl cT.Ad (ax 0)) (ax 1))))⟩)
 exact h2
abbrev Lh:cc:=fx (c6 42) 29
def amQ:cX ["self"] ["self"] (bY Lh):=by ac_rfl
def aj4(cT:hK K bH)(F:bT K "__len__" "Kinds.__len__" Lh f aE)(T:el mg):aY P w K mg base bq 1 f aE ["self"] (bV (bS (Cy bH) 1 1)):=by
 have h:=@bT.den _ P w K mg base _ _ _ f aE _ _ 0 (Cy bH) [] F amQ;have h2:=h (λbA A a3 s H E aA=>by
  have aD:=ff aA;exact⟨_,(bI (dr (ea pF (by rfl) T.len lT (ay (fT (ae 0) rfl) aV)))),
   (d7 (gc vK ((jw cT.cl cT.sC (ax 0))).b))⟩)
 exact h2
abbrev Ls:cc:=fx (c6 42) 22
def amX:cX ["self","name"] ["self","name"] (bY Ls):=by ac_rfl
def akd(cT:hK K bH){h8:O}(k5:eO K bH "check_kind" h8)(k2:Binds K la ["self","name"] [])(k3:aY P w K mg base (eb P w) 4 h8 la ["self","name"] (bV eU))(F:bT K "told" "Kinds.told" Ls f aE)(T:el mg):aY P w K mg base (eb P w) 5 f aE ["self","name"] (bV (bS (CF bH eU) 2 2)):=by
 have h:=@bT.oI _ P w K mg base _ _ _ f aE _ _ 4 (CF bH eU) [] F amX;have h2:=h (λbA A a3 s H E aA=>by
  have aD:=ff aA;exact⟨_,(a6 (fU (gS (ae 0) cT.cl k5 k3 aA.m k2 .nil n1 (ay (ae 1) aV)))
   (bI (dr (Er rfl (dh aD (fT (ae 0) rfl) (ae 1) (λ_ _=>rfl)) (by rfl) T.sorted)))),
   (cq (sX ((sP (ax 0) (a8 (ax 1) b1))).b) (d7 (EA (dz (jw cT.cl cT.Af (ax 0)) (ax 1)))))⟩)
 exact h2
abbrev Lr:cc:=fx (c6 42) 21
def amW:cX ["self","name"] ["self","name"] (bY Lr):=by ac_rfl
def akc(cT:hK K bH){h8:O}(k5:eO K bH "check_kind" h8)(k2:Binds K la ["self","name"] [])(k3:aY P w K mg base (eb P w) 4 h8 la ["self","name"] (bV eU))(F:bT K "rooms" "Kinds.rooms" Lr f aE)(T:el mg):aY P w K mg base (eb P w) 5 f aE ["self","name"] (bV (bS (CE bH eU) 2 2)):=by
 have h:=@bT.oI _ P w K mg base _ _ _ f aE _ _ 4 (CE bH eU) [] F amW;have h2:=h (λbA A a3 s H E aA=>by
  have aD:=ff aA;exact⟨_,(a6 (fU (gS (ae 0) cT.cl k5 k3 aA.m k2 .nil n1 (ay (ae 1) aV)))
   (bI (dr (Er rfl (dh aD (fT (ae 0) rfl) (ae 1) (λ_ _=>rfl)) (by rfl) T.sorted)))),
   (cq (sX ((sP (ax 0) (a8 (ax 1) b1))).b) (d7 (EA (dz (jw cT.cl cT.Ae (ax 0)) (ax 1)))))⟩)
 exact h2
abbrev LG:cc:=c6 62
def am9:cX ["_law_found","_law_due"] ["_law_found","_law_due"] (bY LG):=by ac_rfl
def akz(F:bT K "_law_is" "_law_is" LG f aE)(T:el mg):aY P w K mg base bq 1 f aE ["_law_found","_law_due"] (bV (bS (Hj) 2 2)):=by
 have h:=@bT.den _ P w K mg base _ _ _ f aE _ _ 0 (Hj) [] F am9;have h2:=h (λbA A a3 s H E aA=>by
  have aD:=ff aA;exact⟨_,(a6 (dN ((Uq (g_ (o2 (ae 1))) (Ur (g_ (o2 (ae 0)))))).pt (bI (dr (ma (T0 (o2 (ae 0))) (mb (T0 (o2 (ae 1))))))) dZ)
   hQ),
   (cq (fJ (Uk (fV (sO ((ax 1)).b)) (fV (sO ((ax 0)).b))) (d7 (o4 (sO ((ax 0)).b) (sO ((ax 1)).b))) fK) uM)⟩)
 exact h2
abbrev LP:cc:=c6 63
def n8:cX ["_law_made","_law_m","_law_good","_law_name","_law_box","_law_room"] ["_law_made","_law_m"] (bY LP):=by ac_rfl
def akQ(cT:hK K bH){zC:O}(pp:e3 K mg "_law_same" zC HG ["_law_found","_law_due"])(pB:aY P w K mg base bq 2 zC HG ["_law_found","_law_due"] (bV ox)){Qw:O}(G0:eO K bH "names" Qw)(Gn:Binds K abZ ["self"] [])(Gv:aY P w K mg base bq 1 Qw abZ ["self"] (bV rQ)){Qr:O}(ZV:eO K bH "__len__" Qr)(YJ:Binds K abU ["self"] [])(Ze:aY P w K mg base bq 1 Qr abU ["self"] (bV BI)){QA:O}(Z3:eO K bH "ups" QA)(YR:Binds K ab3 ["self","name"] [])(Zm:aY P w K mg base (eb P w) 5 QA ab3 ["self","name"] (bV BQ)){Qs:O}(ZW:eO K bH "above" Qs)(YK:Binds K abV ["self","name"] [])(Zf:aY P w K mg base (eb P w) 5 Qs abV ["self","name"] (bV BJ)){Qz:O}(Z2:eO K bH "under" Qz)(YQ:Binds K ab2 ["self","name"] [])(Zl:aY P w K mg base (eb P w) 5 Qz ab2 ["self","name"] (bV BP)){QX:O}(Yy:e3 K mg "_law_under" QX acC ["_law_m","_law_kind"])(ZG:aY P w K mg base bq 1 QX acC ["_law_m","_law_kind"] (bV Cc)){Qy:O}(Z1:eO K bH "told" Qy)(YP:Binds K ab1 ["self","name"] [])(Zk:aY P w K mg base (eb P w) 5 Qy ab1 ["self","name"] (bV BO)){Qx:O}(Z0:eO K bH "rooms" Qx)(YO:Binds K ab0 ["self","name"] [])(Zj:aY P w K mg base (eb P w) 5 Qx ab0 ["self","name"] (bV BN)){Qv:O}(ZZ:eO K bH "must_of" Qv)(YN:Binds K abY ["self","name"] [])(Zi:aY P w K mg base (eb P w) 5 Qv abY ["self","name"] (bV BM)){QK:O}(Yo:e3 K mg "_law_is" QK acg ["_law_found","_law_due"])(Zu:aY P w K mg base bq 1 QK acg ["_law_found","_law_due"] (bV B0)){Qt:O}(ZX:eO K bH "home" Qt)(YL:Binds K abW ["self","room"] [])(Zg:aY P w K mg base (eb P w) 4 Qt abW ["self","room"] (bV BK))(F:bT K "_law_table_right" "_law_table_right" LP f aE)(T:el mg):aY P w K mg base bq 6 f aE ["_law_made","_law_m"] (bV (bS (CK bH ox rQ BI BQ BJ BP Cc BO BN BM B0 BK) 2 6)):=by
 have h:=@bT.den _ P w K mg base _ _ _ f aE _ _ 5 (CK bH ox rQ BI BQ BJ BP Cc BO BN BM B0 BK) [] F n8;have h2:=h (λbA A a3 s H E aA=>by
  have aD:=ff aA;exact⟨_,(a6 (du (i:=2) n8.a4 rfl (bF rfl) (ma (eF pB aA pp (ay (KD (ae 0) cT.cl G0 Gv aA.m Gn .nil er) (ay (dh aD (ae 1) cx (λ_ _=>rfl)) aV))) (mb (eF pB aA pp (ay (aln (ae 0) ZV Ze aA.m YJ (by rfl) T.len) (ay (ea pF (by rfl) T.len lT (ay (dh aD (ae 1) cx (λ_ _=>rfl)) aV)) aV))))))
   (a6 (hn io rfl (g9 (dh aD (ae 1) cx (λ_ _=>rfl))) (ew (i:=3) n8.a4 rfl (bF rfl)) (a6 (du (i:=2) n8.a4 rfl (bF rfl) (ma (ae 2) (mb (eF pB aA pp (ay (gS (ae 0) cT.cl Z3 (Zm).calm aA.m YR .nil er (ay (ae 3) aV)) (ay (dh aD (dh aD (ae 1) cx (λ_ _=>rfl)) (ae 3) (λ_ _=>rfl)) aV))))))
   (a6 (du (i:=2) n8.a4 rfl (bF rfl) (ma (ae 2) (mb (eF pB aA pp (ay (gS (ae 0) cT.cl ZW (Zf).calm aA.m YK .nil er (ay (ae 3) aV)) (ay (ea y1 (by rfl) T.sorted PyProof.Rows.Boot.«sorted» (ay (dh aD (dh aD (ae 1) cx (λ_ _=>rfl)) (ae 3) (λ_ _=>rfl)) aV)) aV))))))
   (a6 (du (i:=2) n8.a4 rfl (bF rfl) (ma (ae 2) (mb (eF pB aA pp (ay (gS (ae 0) cT.cl Z2 (Zl).calm aA.m YQ .nil er (ay (ae 3) aV)) (ay (ea y1 (by rfl) T.sorted PyProof.Rows.Boot.«sorted» (ay (eF ZG aA Yy (ay (ae 1) (ay (ae 3) aV))) aV)) aV))))))
   (a6 (du (i:=2) n8.a4 rfl (bF rfl) (ma (ae 2) (mb (eF pB aA pp (ay (gS (ae 0) cT.cl Z1 (Zk).calm aA.m YP .nil er (ay (ae 3) aV)) (ay (Er rfl (dh aD (dh aD (ae 1) cx (λ_ _=>rfl)) (ae 3) (λ_ _=>rfl)) (by rfl) T.sorted) aV))))))
   (a6 (du (i:=2) n8.a4 rfl (bF rfl) (ma (ae 2) (mb (eF pB aA pp (ay (gS (ae 0) cT.cl Z0 (Zj).calm aA.m YO .nil er (ay (ae 3) aV)) (ay (Er rfl (dh aD (dh aD (ae 1) cx (λ_ _=>rfl)) (ae 3) (λ_ _=>rfl)) (by rfl) T.sorted) aV))))))
   (a6 (du (i:=4) n8.a4 rfl (bF rfl) (gS (ae 0) cT.cl ZZ (Zi).calm aA.m YN .nil er (ay (ae 3) aV)))
   (bI (du (i:=2) n8.a4 rfl (bF rfl) (ma (ae 2) (mb (eF Zu aA Yo (ay (ae 4) (ay (T1 aD (dh aD (ae 1) cx (λ_ _=>rfl)) (ae 3) ⟨rfl,rfl,rfl,rfl⟩) aV))))))))))))))
   (a6 (wM (hn io rfl (uz (dh aD (ae 1) cx (λ_ _=>rfl))) (ew (i:=5) n8.a4 rfl (bF rfl)) (bI (du (i:=2) n8.a4 rfl (bF rfl) (ma (ae 2) (mb (eF pB aA pp (ay (gS (ae 0) cT.cl ZX (Zg).calm aA.m YL .nil er (ay (ae 5) aV)) (ay (dh aD (dh aD (ae 1) cx (λ_ _=>rfl)) (ae 5) (λ_ _=>rfl)) aV)))))))))
   (bI (dr (ae 2)))))),
   (cq (fb (o4 (gb (a8 (m7 (ax 0) b1) (a8 (dz (ax 1) cQ) b1))) (gb (a8 (alL (ax 0)) (a8 (gc vK ((dz (ax 1) cQ)).b) b1)))) (cG (i:=2))) (cq (jz (g6 (dz (ax 1) cQ)) (cG (i:=3)) (cq (fb (o4 (ax 2) (gb (a8 (m7 (ax 0) (a8 (ax 3) b1)) (a8 (dz (dz (ax 1) cQ) (ax 3)) b1)))) (cG (i:=2))) (cq (fb (o4 (ax 2) (gb (a8 (m7 (ax 0) (a8 (ax 3) b1)) (a8 (gc y3 ((dz (dz (ax 1) cQ) (ax 3))).b) b1)))) (cG (i:=2))) (cq (fb (o4 (ax 2) (gb (a8 (m7 (ax 0) (a8 (ax 3) b1)) (a8 (gc y3 ((gb (a8 (ax 1) (a8 (ax 3) b1)))).b) b1)))) (cG (i:=2))) (cq (fb (o4 (ax 2) (gb (a8 (m7 (ax 0) (a8 (ax 3) b1)) (a8 (EA (dz (dz (ax 1) cQ) (ax 3))) b1)))) (cG (i:=2))) (cq (fb (o4 (ax 2) (gb (a8 (m7 (ax 0) (a8 (ax 3) b1)) (a8 (EA (dz (dz (ax 1) cQ) (ax 3))) b1)))) (cG (i:=2))) (cq (fb (m7 (ax 0) (a8 (ax 3) b1)) (cG (i:=4))) (fb (o4 (ax 2) (gb (a8 (ax 4) (a8 (Uj (dz (ax 1) cQ) (ax 3)) b1)))) (cG (i:=2)))))))))) (cq (AN (dz (ax 1) cQ) (cG (i:=5)) (fb (o4 (ax 2) (gb (a8 (m7 (ax 0) (a8 (ax 5) b1)) (a8 (dz (dz (ax 1) cQ) (ax 5)) b1)))) (cG (i:=2)))) (d7 (ax 2)))))⟩)
 exact h2
end
end gB
namespace bu
open PySem
@[reducible] def Fh (j9:O) (pos:d1) (qual:Str):bk where
 v a:=a=j9
 i H:=pE j9 pos qual H
 st:=λH H' h1 h2 ⟨ps,e,t,c⟩=>⟨ps,(h2 j9 rfl).trans e,t,c.imp id λ⟨c,ag,aF⟩=>⟨c,ag,h1 c _ aF⟩⟩
def aY.void[bk]{K:b5}:aY P w K mg base cW k f aE ps (bV λ_=>.no):=
 ⟨λ_ _ _ _ ⟨_,_,_,_,_,_,z⟩=>z.elim,λ_ _ _ _ _ _ _ _ _ _ _ _ _ ⟨_,_,_,_,_,_,z⟩=>z.elim⟩
end bu
namespace gB
open PySem bu
def Di(us cJ:List aj):List aj:=if us.length=3/\cJ.length=1 then us++cJ else []
def IK(us cJ:List V):List V:=if us.length=3/\cJ.length=1 then us++cJ else []
def apY{K:b5}{dF PB dM cd ct:aj}{an:Option O}{T:O}{o:b_}{kv:aj}{n:Nat}(aZ:K.lookup T=some o)(aS:o.data= .seq #[kv] n):
  yl K (ht "put" "Kinds.put" (hO wm) (fE wm) (bY wm) (.ref T) dF PB dM an cd ct) ux ["rooms"] Di IK:=by
 refine⟨λs us cJ hY ar=>?_,λ{vs us kZ cJ} r n6=>?_⟩
 ·by_cases h:us.length=3/\cJ.length=1
  ·obtain⟨a,b,c,rfl⟩:=wt h.1;obtain⟨d,rfl⟩:=DN h.2;exact Bi hY rfl aZ aS rfl rfl
  ·unfold Di at ar;rw[if_neg h]at ar;cases ar
 ·unfold Di IK;rw[<- r.length, <- n6.length];by_cases h:vs.length=3/\kZ.length=1
  ·rw[if_pos h,if_pos h];exact r.append n6
  ·rw[if_neg h,if_neg h];exact .nil
variable{P:dn}{w:cH}{K:b5}{h base:cg}{mg:Str->Option aj}{C f T:O}{x m qual n a b c d e:Str}{st:cc}{aE:f4}{ps fl:List Str}{jd dF fj dM bA ct kv:aj}{od an:Option O}{kT:Array (Option aj)}{o:b_}{q2:Nat}
def Pb(h:∀s x y z,K.In s.heap->qj s aE ⟨[x,y,z],[]⟩ (hk.zip [x,y,z])):Binds K aE hk []:=λs us hY ar=>by
 rw[mu]at ar ⊢;obtain⟨x,y,z,rfl⟩:=wt ar;exact h s x y z hY
def Pc(h:∀s x y,K.In s.heap->qj s aE ⟨[x,y],[]⟩ (hk.zip [x,y,kv])):Binds K aE hk [kv]:=λs us hY ar=>by
 obtain⟨x,y,rfl⟩:=JX (W6 (oc.symm.trans ar));exact h s x y hY
def apS(h:bindArgs aE ⟨[],[]⟩=pure []):Binds K aE [] []:=.all λus ar=>by rw[SO ar];exact h
def apT(h:∀x,bindArgs aE ⟨[x],[]⟩=pure [(a,x)]):Binds K aE [a] []:=.all λus ar=>by
 obtain⟨x,rfl⟩:=DN ar;exact h x
def apU(h:∀x y,bindArgs aE ⟨[x,y],[]⟩=pure [(a,x),(b,y)]):Binds K aE [a,b] []:=.all λus ar=>by
 obtain⟨x,y,rfl⟩:=JX ar;exact h x y
def apV(h:∀x y z,bindArgs aE ⟨[x,y,z],[]⟩=pure [(a,x),(b,y),(c,z)]):Binds K aE [a,b,c] []:=.all λus ar=>by
 obtain⟨x,y,z,rfl⟩:=wt ar;exact h x y z
def apW(h:∀x y z u,bindArgs aE ⟨[x,y,z,u],[]⟩=pure [(a,x),(b,y),(c,z),(d,u)]):Binds K aE [a,b,c,d] []:=.all λus ar=>by
 obtain⟨x,r,rfl,k⟩:=qU ar;obtain⟨y,z,u,rfl⟩:=wt k;exact h x y z u
def apX(h:∀x y z u v,bindArgs aE ⟨[x,y,z,u,v],[]⟩=pure [(a,x),(b,y),(c,z),(d,u),(e,v)]):Binds K aE [a,b,c,d,e] []:=.all λus ar=>by
 obtain⟨x,r,rfl,k⟩:=qU ar;obtain⟨y,r,rfl,en⟩:=qU k;obtain⟨z,u,v,rfl⟩:=wt en;exact h x y z u v
def apP{p:Str->Prop}:∀f∈[],p f:=λ_ h=>nomatch h
def aaw{p:Str->Prop}(h:p a):∀f∈[a],p f:=λ_ z=>by rw[gK.mp z];exact h
def O2{p:Str->Prop}(h:p a)(k:p b):∀f∈[a,b],p f:=λ_ z=>(dR.mp z).elim (λz=>by rw[z];exact h) (aaw k _)
structure ip(K:b5)(C:O)(m qual:Str)(st:cc)(f:O)(aE:f4)(ps:List Str):Prop where
 ei:eO K C m f
 d:bT K m qual st f aE
 b:Binds K aE ps []
structure gA(K:b5)(mg:Str->Option aj)(x:Str)(st:cc)(f:O)(aE:f4)(ps:List Str):Prop where
 a:e3 K mg x f aE ps
 d:bT K x x st f aE
structure ow(K:b5)(mg:Str->Option aj)(B jc:String)(n q:Str)(st:cc)(C f:O)(aE:f4)(fl:List Str):Prop where
 a:mg n=some (.ref C)
 m:rP K C f
 b:Binds K aE ("self"::fl) []
 d:bT K "__init__" q st f aE
 k:lU K B jc C fl
def y_(l:K.lookup f=some ⟨jd,od,.func (ht x qual (hO st) (fE st) (bY st) kv dF fj dM an bA ct),kT⟩)(c:qk K bA qual=true)(k:jE K (.ref f)=true):bT K x qual st f (ht x qual (hO st) (fE st) (bY st) kv dF fj dM an bA ct):=⟨⟨_,_,_,_,_,_,_,_,_,_,rfl,l,c⟩,k⟩
def z8(a:kB K (.ref C) m=some (some (.ref f)))(i:FU K (.ref f)=true)(l:K.lookup f=some ⟨jd,od,.func (ht m qual (hO st) (fE st) (bY st) .none dF fj dM an bA ct),kT⟩)(c:qk K bA qual=true)(k:jE K (.ref f)=true)
  (b:Binds K (ht m qual (hO st) (fE st) (bY st) .none dF fj dM an bA ct) ps []):ip K C m qual st f (ht m qual (hO st) (fE st) (bY st) .none dF fj dM an bA ct) ps:=⟨⟨a,i,k⟩,y_ l c k,b⟩
def CT(X:K.In h)(b7:h.Ns mainGlobals mg)(a:Ny K mainGlobals x=some (some (.ref f)))(l:K.lookup f=some ⟨jd,od,.func (ht x x (hO st) (fE st) (bY st) .none dF fj dM an bA ct),kT⟩)(c:qk K bA x=true)(k:jE K (.ref f)=true)
  (b:Binds K (ht x x (hO st) (fE st) (bY st) .none dF fj dM an bA ct) ps []):gA K mg x st f (ht x x (hO st) (fE st) (bY st) .none dF fj dM an bA ct) ps:=⟨⟨Nx X b7 a,k,b⟩,y_ l c k⟩
def ap0{c0:O}(X:K.In h)(b7:h.Ns mainGlobals mg)(a:Ny K mainGlobals x=some (some (.ref f)))(l:K.lookup f=some ⟨jd,od,.func (ht x x (hO st) (fE st) (bY st) .none dF fj dM an (.ref c0) ct),kT⟩)(c:qk K (.ref c0) x=true)(k:jE K (.ref f)=true)
  (b:Binds K (ht x x (hO st) (fE st) (bY st) .none dF fj dM an (.ref c0) ct) ps []):e3 K mg x f (ht x x (hO st) (fE st) (bY st) .none dF fj dM an (.ref c0) ct) ps/\vn K x x st f (ht x x (hO st) (fE st) (bY st) .none dF fj dM an (.ref c0) ct) c0:=⟨⟨Nx X b7 a,k,b⟩,⟨_,_,_,_,_,_,_,_,_,rfl,l,c⟩,k⟩
def CZ{B jc JE:String}{nG:List aj}{nm q:Str}{N:O}{bs d9 sub:List aj}{ly iN:Bool}{lM:List Str}{col:Option Bool}{bN:Option O}{eE en ev hj lE:Option aj}(X:K.In h)(b7:h.Ns mainGlobals mg)(BC:s6 B jc JE nG)
  (a:Ny K mainGlobals n=some (some (.ref C)))(i:kB K (.ref C) "__init__"=some (some (.ref f)))(l:K.lookup f=some ⟨jd,od,.func (ht "__init__" qual (hO st) (fE st) (bY st) .none dF fj dM an bA ct),kT⟩)(c:qk K bA qual=true)(k:jE K (.ref f)=true)
  (bZ:kB K (.ref C) "__setattr__"=some (some (.builtin "object.__setattr__")))(fk:kB K (.ref C) "__getattribute__"=some (some (.builtin "BaseException.__getattribute__")))(K0:kB K (.ref C) "__getattr__"=some none)
  (bW:K.lookup C=some (excClassObj nm q C N bs d9 ly lM sub iN col bN eE en ev hj lE jc))(DI:jE K (.ref C)=true)(oX:kB K (.ref C) "called"=some none)(ao:P8 K C=true)
  (kJ:jd= .type "function")(vB:((Value.ref C::d9).contains (.type B) && !(Value.ref C::d9).contains (.type "AttributeError") && !(Value.ref C::d9).contains (.type "NameError") && d9.contains (.type "BaseException"))=true)
  (eg:∀f∈fl,kB K (.ref C) f=some none)(b:Binds K (ht "__init__" qual (hO st) (fE st) (bY st) .none dF fj dM an bA ct) ("self"::fl) []):ow K mg B jc n qual st C f (ht "__init__" qual (hO st) (fE st) (bY st) .none dF fj dM an bA ct) fl:=by
 rw[jB,jB,jB,V2,V2]at vB;have E:iF K C:=⟨ao,bZ,fk,K0⟩;exact⟨Nx X b7 a,⟨E,⟨_,_,_,_,_,_,_,_,_,_,_,_,_,_,_,_,_,_,_,_,BC,bW,vB.1.1.1,vB.1.1.2,vB.1.2,vB.2⟩,i,⟨_,l,kJ⟩,DI⟩,b,y_ l c k,⟨E,oX,eg,⟨_,_,_,_,_,_,_,_,_,_,_,_,_,_,_,_,bW,vB.1.1.1⟩⟩⟩
def aqO{t0:i3}(a:mg "TraitError"=some (.ref C))(ag:FX K (.ref C) "__getattribute__"=some (some (.builtin "type.__getattribute__")))(aF:NA K C (.type "type")=true)(cU:u4 K (.ref C) (.type "type") "__init__"=some (.val (.ref f)))
  (l:K.lookup f=some ⟨jd,od,.func (ht "__init__" "TraitError.__init__" (hO mL) (fE mL) (bY mL) (.ref T) dF fj dM an bA ct),kT⟩)(c:qk K bA "TraitError.__init__"=true)(k:jE K (.ref f)=true)(aZ:K.lookup T=some o)(aS:o.data= .seq #[.str "" t0] q2):
  bT K "__init__" "TraitError.__init__" mL f (ht "__init__" "TraitError.__init__" (hO mL) (fE mL) (bY mL) (.ref T) dF fj dM an bA ct)/\lW K mg "TraitError" C f (ht "__init__" "TraitError.__init__" (hO mL) (fE mL) (bY mL) (.ref T) dF fj dM an bA ct) t0:=
 ⟨y_ l c k,a,ag,aF,cU,k,Pb λs x y z hY=>Bi hY rfl aZ aS rfl rfl,Pc λs x y hY=>Bi hY rfl aZ aS rfl rfl⟩
def aqN{t0:i3}(a:mg "Missing"=some (.ref C))(ag:FX K (.ref C) "__getattribute__"=some (some (.builtin "type.__getattribute__")))(aF:NA K C (.type "type")=true)(cU:u4 K (.ref C) (.type "type") "__init__"=some (.val (.ref f)))
  (l:K.lookup f=some ⟨jd,od,.func (ht "__init__" "Missing.__init__" (hO mK) (fE mK) (bY mK) (.ref T) dF fj dM an bA ct),kT⟩)(c:qk K bA "Missing.__init__"=true)(k:jE K (.ref f)=true)(aZ:K.lookup T=some o)(aS:o.data= .seq #[.str "" t0] q2):
  bT K "__init__" "Missing.__init__" mK f (ht "__init__" "Missing.__init__" (hO mK) (fE mK) (bY mK) (.ref T) dF fj dM an bA ct)/\lW K mg "Missing" C f (ht "__init__" "Missing.__init__" (hO mK) (fE mK) (bY mK) (.ref T) dF fj dM an bA ct) t0:=
 ⟨y_ l c k,a,ag,aF,cU,k,Pb λs x y z hY=>Bi hY rfl aZ aS rfl rfl,Pc λs x y hY=>Bi hY rfl aZ aS rfl rfl⟩
def apQ{l:Nt}{i9 xY YW xZ c0 j9 aed Ir aei aex aeb aea aem aes aeg aeh aej aer aek aeq aee aeo aep ael aen aew aeu g5 aeV Q5 ae2 aeN aeZ aeI aeQ aeH ae' afi ae5 aeP afj aeJ ae3 aeM aeU aeW afo aeO Ri Q2 ae0 afd afn ae1 afk Rd aeY Qg vZ pu Qo qp Qi qo Qh va Qp u' Qn vb Qq u_ Qk pq Qd By Qe tf Ql:O}{abr Pz aby abR abo abl abE abK abv abx abz abJ abC abI abt abG abH abD abF abP abO abw adk PO adq ade adm acH adh acG adw adz adv adg adA acI adt adb adj adl adH adf adG ada ado ady adE adp adD adC HJ Px vO abN abq abp abQ abM abS abA abm abn abB:f4}{E8 anS anT MD anP anQ:i3}(agN:mg "law"=some (.ref i9))
  (T:el mg)
  (cF:hK K C)
  (tu:ip K C "__init__" "Kinds.__init__" JK aed abr ["self"])
  (ZT:eO K C "put" Ir)
  (Y6:bT K "put" "Kinds.put" wm Ir Pz)
  (aaM:yl K Pz ux ["rooms"] Di IK)
  (GL:ip K C "check_new" "Kinds.check_new" Ll aei aby ["self","name"])
  (GX:ip K C "check_ups" "Kinds.check_ups" Lm aex abR ["self","ups"])
  (j8:ip K C "check_kind" "Kinds.check_kind" Lk aeb abo ["self","name"])
  (rU:ip K C "above_all" "Kinds.above_all" Lj aea abl ["self","ups"])
  (GO:ip K C "place" "Kinds.place" JL aem abE ["self","name","ups","told","lets"])
  (GV:ip K C "checked_rooms" "Kinds.checked_rooms" Ln aes abK ["self","ups","rooms"])
  (Cj:ip K C "let_by" "Kinds.let_by" amC aeg abv ["self","ups","room"])
  (GK:ip K C "lets_below" "Kinds.lets_below" Lo aeh abx ["self","ups","told"])
  (yo:ip K C "names" "Kinds.names" Lq aej abz ["self"])
  (GU:ip K C "ups" "Kinds.ups" Lv aer abJ ["self","name"])
  (GN:ip K C "above" "Kinds.above" Li aek abC ["self","name"])
  (GS:ip K C "under" "Kinds.under" Lu aeq abI ["self","name"])
  (OR:ip K C "is_below" "Kinds.is_below" amB aee abt ["self","one","other"])
  (GQ:ip K C "rooms" "Kinds.rooms" Lr aeo abG ["self","name"])
  (GR:ip K C "told" "Kinds.told" Ls aep abH ["self","name"])
  (OS:ip K C "home" "Kinds.home" amA ael abD ["self","room"])
  (GP:ip K C "must_of" "Kinds.must_of" Lp aen abF ["self","name"])
  (GW:ip K C "twin" "Kinds.twin" JN aew abP ["self"])
  (yp:ip K C "take_over" "Kinds.take_over" JM aeu abO ["self","other"])
  (GJ:ip K C "__len__" "Kinds.__len__" Lh g5 abw ["self"])
  (mk:Nv K C=true)
  (DI:jE K (.ref C)=true)
  (Gj:gA K mg "is_name" LH aeV adk ["text"])
  (Yh:e3 K mg "low_of" Q5 PO ["upward","one","other"]/\vn K "low_of" "low_of" LL Q5 PO c0)
  (YE:gA K mg "low_of_all" amF ae2 adq ["upward","kinds"])
  (N9:gA K mg "first_fork" LA aeN ade ["upward","above"])
  (Oc:gA K mg "leads_of" LJ aeZ adm ["upward","musts"])
  (YB:gA K mg "comes_round" (c6 37) aeI acH ["leads","start"])
  (N':gA K mg "has_ring" LD aeQ adh ["upward","musts"])
  (N7:gA K mg "_law_bag" Lw aeH acG ["_law_script"])
  (Gk:gA K mg "_law_pull" AD ae' adw ["_law_bag_here","_law_many"])
  (xU:gA K mg "_law_same" wU afi adz ["_law_found","_law_due"])
  (Of:gA K mg "_law_names" LM ae5 adv ["_law_bag_here","_law_many"])
  (Gi:gA K mg "_law_good_name" LC aeP adg ["_law_text"])
  (Oh:gA K mg "_law_start" LO afj adA [])
  (N8:gA K mg "_law_copied" Lx aeJ acI ["_law_m"])
  (Oe:gA K mg "_law_low" LK ae3 adt ["_law_m","_law_one","_law_other"])
  (Gh:gA K mg "_law_far_of" Lz aeM adb ["_law_m","_law_ups"])
  (Oa:gA K mg "_law_inherited" LF aeU adj ["_law_m","_law_ups"])
  (YC:gA K mg "_law_low_all" amE aeW adl ["_law_m","_law_some"])
  (Oq:gA K mg "_law_why_rooms" LS afo adH ["_law_m","_law_far","_law_inherited_here","_law_some_rooms"])
  (N_:gA K mg "_law_fork" LB aeO adf ["_law_m","_law_far"])
  (Oo:gA K mg "_law_why_put" LR Ri adG ["_law_m","_law_name","_law_ups","_law_some_rooms"])
  (Gg:gA K mg "_law_entered" Ly Q2 ada ["_law_m","_law_name","_law_ups","_law_some_rooms"])
  (YD:gA K mg "_law_leads" amD ae0 ado ["_law_m","_law_name"])
  (Og:gA K mg "_law_ring" LN afd ady ["_law_m"])
  (Om:gA K mg "_law_under" LQ afn adE ["_law_m","_law_kind"])
  (Od:gA K mg "_law_is" LG ae1 adp ["_law_found","_law_due"])
  (Oj:gA K mg "_law_table_right" LP afk adD ["_law_made","_law_m"])
  (Oi:gA K mg "_law_put_told" Lg Rd adC ["_law_made","_law_name","_law_ups","_law_some_rooms"])
  (Ob:gA K mg "law" LI aeY HJ ["_law_script"])
  (TE:bT K "__init__" "TraitError.__init__" mL Qg Px/\lW K mg "TraitError" xY Qg Px anP)
  (gM:bT K "__init__" "Missing.__init__" mK vZ vO/\lW K mg "Missing" YW vZ vO anQ)
  (qr:ow K mg "ValueError" "ValueError.__new__" "Taken" "Taken.__init__" H8 pu Qo abN ["name"])
  (rO:ow K mg "ValueError" "ValueError.__new__" "Full" "Full.__init__" HY qp Qi abq [])
  (pw:ow K mg "ValueError" "ValueError.__new__" "Forked" "Forked.__init__" HX qo Qh abp ["one","other"])
  (vk:ow K mg "ValueError" "ValueError.__new__" "Twice" "Twice.__init__" H9 va Qp abQ ["room"])
  (vj:ow K mg "ValueError" "ValueError.__new__" "Strange" "Strange.__init__" H7 u' Qn abM ["room"])
  (vl:ow K mg "ValueError" "ValueError.__new__" "Wider" "Wider.__init__" H_ vb Qq abS ["room"])
  (vh:ow K mg "ValueError" "ValueError.__new__" "NoFit" "NoFit.__init__" HZ u_ Qk abA ["room"])
  (qq:ow K mg "ValueError" "ValueError.__new__" "BadName" "BadName.__init__" HV pq Qd abm ["name"])
  (vg:ow K mg "ValueError" "ValueError.__new__" "BadParts" "BadParts.__init__" HW By Qe abn [])
  (vi:ow K mg "LookupError" "LookupError.__new__" "NoKind" "NoKind.__init__" H6 tf Ql abB ["name"])
  (O0:mg "Kinds"=some (.ref C))
  (Fd:mg "LETTERS"=some (.str "abcdefghijklmnopqrstuvwxyz" E8))
  (ru:mg "LONGEST"=some (.int 8 anS))
  (ig:mg "ANY"=some (.str gq anT))
  (fz:mg "MOST_KINDS"=some (.int 24 MD))
  (aoG:mg "ValueError"=none)
  (aoF:mg "LookupError"=none)
  (adR:u4 K (.type "ValueError") (.type "type") "__init__"=some (.val (.builtin "ValueError.__init__")))
  (adT:u4 K (.type "LookupError") (.type "type") "__init__"=some (.val (.builtin "LookupError.__init__")))
  (aan:mg "Ring"=some (.ref xZ))
  (Dr:xJ K c0 j9=true)
  (aox:ta K (.ref qo) (.ref qo)=some true)
  (aon:ta K (.ref pq) (.ref qo)=some false)
  (aoq:my K (.ref pq) [.ref va,.ref u',.ref vb,.ref u_]=some false)
  (aot:my K (.ref pq) [.ref pq,.ref pu,.ref xZ,.ref tf]=some true)
  (aop:ta K (.ref pu) (.ref qo)=some false)
  (aos:my K (.ref pu) [.ref va,.ref u',.ref vb,.ref u_]=some false)
  (aov:my K (.ref pu) [.ref pq,.ref pu,.ref xZ,.ref tf]=some true)
  (aoo:ta K (.ref qp) (.ref qo)=some false)
  (aor:my K (.ref qp) [.ref va,.ref u',.ref vb,.ref u_]=some false)
  (aou:my K (.ref qp) [.ref pq,.ref pu,.ref xZ,.ref tf]=some false)
  (aow:my K (.ref qp) [.ref qp,.ref By]=some true)
  (ar:∀(s:aM)(v:aj),qj s HJ ⟨[v],[]⟩ [("_law_script",v)])
  :∃aE:f4,(∀(s:aM)(v:aj),qj s aE ⟨[v],[]⟩ [("_law_script",v)])/\∀base:cg,K.In base->base.Ns mainGlobals mg->BMain mg base->aY l.prog w K mg base bq 9 i9 aE ["_law_script"] (@EW (Fh j9 ⟨192,27,192,57⟩ ("low_of.<locals>."++"<lambda>")) K):=by
 have e:=agN.symm.trans Ob.a.kR;cases e;letI:bk:=Fh j9 ⟨192,27,192,57⟩ ("low_of.<locals>."++"<lambda>")
 have aaj:Ov K mg pq pu qp qo va u' vb u_ xZ tf By:=⟨pw.a,vk.a,vj.a,vl.a,vh.a,qq.a,qr.a,aan,vi.a,rO.a,vg.a,aox,aon,aoq,aot,aop,aos,aov,aoo,aor,aou,aow,pw.m.cls,qq.m.cls,qr.m.cls,rO.m.cls,pw.k.l_,pw.k.eg _ (by simp),pw.k.eg _ (by simp),qq.k.l_,qq.k.eg _ (by simp),qr.k.l_,qr.k.eg _ (by simp),rO.k.l_⟩
 refine⟨HJ,ar,λbase Z' apK xX=>?_⟩;have qO:=Xk Z' Dr;have qv:=akl (P:=l.prog) (w:=w) (base:=base) TE.1 aoG adR;have Zb:=akg (P:=l.prog) (w:=w) (base:=base) gM.1 aoF adT;obtain⟨YF,Y_⟩:=Yh;have aag:iE l.prog w K mg base "Taken" pu Qo _ ["name"]:=⟨qr.a,qr.m,qr.b,akk qr.d qv TE.2 qr.k⟩;have aac:iE l.prog w K mg base "Full" qp Qi _ []:=⟨rO.a,rO.m,rO.b,aj3 rO.d qv TE.2 rO.k⟩;have aab:iE l.prog w K mg base "Forked" qo Qh _ ["one","other"]:=⟨pw.a,pw.m,pw.b,aj2 pw.d qv TE.2 pw.k⟩;have aah:iE l.prog w K mg base "Twice" va Qp _ ["room"]:=⟨vk.a,vk.m,vk.b,akm vk.d qv TE.2 vk.k⟩;have aaf:iE l.prog w K mg base "Strange" u' Qn _ ["room"]:=⟨vj.a,vj.m,vj.b,akj vj.d qv TE.2 vj.k⟩;have aai:iE l.prog w K mg base "Wider" vb Qq _ ["room"]:=⟨vl.a,vl.m,vl.b,akn vl.d qv TE.2 vl.k⟩;have aad:iE l.prog w K mg base "NoFit" u_ Qk _ ["room"]:=⟨vh.a,vh.m,vh.b,akh vh.d qv TE.2 vh.k⟩;have OY:iE l.prog w K mg base "BadName" pq Qd _ ["name"]:=⟨qq.a,qq.m,qq.b,aj0 qq.d qv TE.2 qq.k⟩;have aaa:iE l.prog w K mg base "BadParts" By Qe _ []:=⟨vg.a,vg.m,vg.b,aj1 vg.d qv TE.2 vg.k⟩;have aae:iE l.prog w K mg base "NoKind" tf Ql _ ["name"]:=⟨vi.a,vi.m,vi.b,aki vi.d Zb gM.2 vi.k⟩;have Rr:=akA (P:=l.prog) (w:=w) (base:=base) (Fd) (ru) Gj.d T;have afH:=akE (P:=l.prog) (w:=w) (base:=base) qO xX (λa=>Iff.rfl) (λH=>Iff.rfl) Y_ T;have afA:=akt YF afH N9.d T;have afE:=akC (P:=l.prog) (w:=w) (base:=base) Oc.d T;have afC:=akw Oc.a afE YB.a (aY.void (k:=1) (cW:=bq)) N'.d T;have sf:=aj7 cF aae j8.d T;have afL:=aj8 cF Gj.a Rr (fz) OY aag aac GL.d T;have Rm:=aj6 (P:=l.prog) (w:=w) (base:=base) cF rU.d T;have afy:=ako (P:=l.prog) (w:=w) (base:=base) cF rU.d T;have af0:=aj9 cF j8.ei j8.b sf rU.ei rU.b Rm N9.a afA aaa aab GX.d T;have afV:=aj_ cF rU.ei rU.b Rm Gj.a Rr j8.ei j8.b sf Cj.ei Cj.b (aY.void (k:=1) (cW:=bq)) OR.ei OR.b (aY.void (k:=5) (cW:=eb l.prog w)) OY aah aaf aai GV.d T;have afJ:=aj' cF Cj.ei Cj.b (aY.void (k:=1) (cW:=bq)) YE.a (aY.void (k:=3) (cW:=bq)) aad GK.d T;have Rq:=aky (P:=l.prog) (w:=w) (base:=base) tu.d cF (ig);have Rv:=akR (P:=l.prog) (w:=w) (base:=base) yp.d cF T;have afY:=akT GW.d cF ⟨mk,tu.ei.at_,tu.ei.fn,DI⟩ (O0) Rq tu.b Rv yp.b yp.ei;have afN:=akG GO.d cF T afy rU.b rU.ei;have afT:∀i:tq,nI i->aY l.prog w K mg base (eb l.prog w) 7 Ir _ ux (EV (tR C pq pu qp qo i.1 i.2.1 i.2.2)):=λi ⟨R,ah,aD,ne,c_⟩=>
  akJ R ah aD ne c_ (R.toqy.new ah) (R.toqy.aa7 aD ne) (acQ (PI R.good R.ok.c_ aD)) acY (λu=>acT (by rfl)) Y6 cF ⟨GL.ei,GL.b,afL,GX.ei,GX.b,af0,GW.ei,GW.b,afY,GO.ei,GO.b,afN,GK.ei,GK.b,afJ,GV.ei,GV.b,afV,N'.a,afC,yp.ei,yp.b,Rv⟩
 have afW:aY l.prog w K mg base bq 8 Rd _ Am (sT nI λi=>mj (sa C i.1 i.2.1 i.2.2)):=aY.ex λi au=>akS Oi.d cF ZT (afT i au) aaM (λ_ _ _ _=>rfl) aaj;have Rt:=akI (akH (P:=l.prog) (w:=w) (base:=base) Gk.d T);have afK:=akF Gk.a Rt Of.d T;have Ru:=akO (P:=l.prog) (w:=w) (base:=base) xU.d T xU.a.kR xU.a.bs;have Rp:=akv (P:=l.prog) (w:=w) (base:=base) Gi.d T;have afI:=akD (P:=l.prog) (w:=w) (base:=base) Oe.d T;have Ro:=aks (P:=l.prog) (w:=w) (base:=base) Gh.d T;have afD:=akx (P:=l.prog) (w:=w) (base:=base) Oa.d T;have af2:=akW Gi.a Rp YC.a (aY.void (k:=2) (cW:=bq)) Oq.d T;have afB:=aku Oe.a afI N_.d T;have afU:=akK (P:=l.prog) (w:=w) (base:=base) YD.a (aY.void (k:=2) (cW:=bq)) Og.d T;have afz:=akq (P:=l.prog) (w:=w) (base:=base) N8.d T;have Rn:∀i:tq,nI i->aY l.prog w K mg base bq 2 Q2 _ ["_law_m","_law_name","_law_ups","_law_some_rooms"] (bV (tO i)):=λi ⟨R,ah,aD,ne,c_⟩=>by
  unfold tO;by_cases z:i.2.1∈i.1.order
  ·rw[if_pos z];exact aY.void
  ·rw[if_neg z];exact akr R z aD ne c_ N8.a afz Gh.a Ro Gg.d T
 have af1:aY l.prog w K mg base bq 4 Ri _ ["_law_m","_law_name","_law_ups","_law_some_rooms"] (sT nI λi=>bV _):=aY.ex λi au=>akV Gi.a Rp Gh.a Ro N_.a afB Oq.a af2 Oa.a afD Og.a afU Gg.a (Rn i au) Oo.d T;have afZ:=akU (P:=l.prog) (w:=w) (base:=base) Om.d T;have afG:=akz (P:=l.prog) (w:=w) (base:=base) Od.d T;have Rs:=akb (P:=l.prog) (w:=w) (base:=base) cF yo.d T;have afF:=aj4 (P:=l.prog) (w:=w) (base:=base) cF GJ.d T;have afS:=akf cF j8.ei j8.b sf GU.d T;have afM:=aj5 cF j8.ei j8.b sf GN.d T;have afR:=ake cF j8.ei j8.b sf GS.d T;have afP:=akc cF j8.ei j8.b sf GQ.d T;have afQ:=akd cF j8.ei j8.b sf GR.d T;have afO:=aka cF j8.ei j8.b sf GP.d T;have afX:=akQ cF xU.a Ru yo.ei yo.b Rs GJ.ei GJ.b afF GU.ei GU.b afS GN.ei GN.b afM GS.ei GS.b afR Om.a afZ GR.ei GR.b afQ GQ.ei GQ.b afP GP.ei GP.b afO Od.a afG OS.ei OS.b (aY.void (k:=4) (cW:=eb l.prog w)) Oj.d T;refine akB N7.a (akp N7.d T) Oh.a (akP Oh.d T) ac4 ⟨mk,tu.ei.at_,tu.ei.fn,DI⟩ (O0) tu.b Rq cF Of.a afK rfl Gk.a Rt Oo.a af1 (λi au=>?_) Oi.a afW Gg.a (aY.ex Rn) xU.a Ru yo.ei yo.b Rs (λM=>PM) Oj.a afX (λM R we=>?_) Ob.d T
 ·obtain⟨R,ah,aD,ne,c_⟩:=au;exact R.toqy.aiu (yg:=λ_=>.no) (i.1.next i.2.1 i.2.2) ah aD ne c_ λsu _=>by
   unfold tO;rw[if_neg su];exact if_pos rfl
 ·have vL:∀k∈M.order,bS (vC C tf) 2 2 [bL C M,.str k]= .ok .bb:=λk aw=>(PJ k (by have:=R.small k aw;omega)).trans (if_pos aw)
  exact ac5 R PM (acX R.ok.c_) (λk aw=>ac9 aw (vL k aw)) (λk aw=>acM aw (by have:=R.toqy.fl k aw;omega) (vL k aw)) (λk aw=>ac8 R.ok.c_ (vL k aw)) (λk aw=>ac7 M R.ok k) (λk aw=>ac6 aw (vL k aw)) (λk aw=>ac3 aw (vL k aw)) (λk aw=>ac1 (vL k aw)) acV we
def aqb{K:b5}(h:((List.range 800).any λc=>xJ K c Q)=true):∃c,xJ K c Q=true:=by
 obtain⟨c,_,e⟩:=uX.mp h;exact⟨c,e⟩
def walk{l:Nt}{r0:cH->cg->Prop}{d:DefRec}{K:Params->b5}{ts:List O}{j9:O}(ba:l.most=some 63)(zQ:d.params.defaults=[])
  (I0:∀(w:cH)(h:cg),r0 w h->(K w.params).In h/\∀Q∈ts,h.get? Q=some (NB #[]))
  (de:∀(w:cH),∀Q∈ts,(K w.params).lookup Q=none/\∃c,xJ (K w.params) c Q=true)(dj:j9∈ts)
  (F:∀(w:cH)(mg:Str->Option aj)(i9:O)(h:cg),(K w.params).In h->h.Ns mainGlobals mg->mg d.name=some (.ref i9)->
   ∃aE:f4,(∀(s:aM)(u:aj),qj s aE ⟨[u],[]⟩ [("_law_script",u)])/\∀base:cg,(K w.params).In base->base.Ns mainGlobals mg->BMain mg base->aY l.prog w (K w.params) mg base bq 9 i9 aE ["_law_script"] (@EW (Fh j9 ⟨192,27,192,57⟩ ("low_of.<locals>."++"<lambda>")) (K w.params))):
  Xi q J3 G9 r0 l.row.toRowW d [] (λf vs=>NF f vs):=
 bu.aof (n:=63) (k:=9) (x:="_law_script") (cW:=λ_=>bq) (sp:=λw=>@EW (Fh j9 ⟨192,27,192,57⟩ ("low_of.<locals>."++"<lambda>")) (K w.params)) ba (by decide) zQ ⟨rfl,by decide,by decide⟩ I0 de F (λw H a ns ar tW dE=>⟨a,ns,rfl,dE,ar,λb ab=>by
  have:b=j9:=ab;rw[this,tW.2 j9 dj];simp,⟨#[],tW.2 j9 dj,trivial,.inl rfl⟩,λ_=>rfl⟩) λ_ _ _ _ _ z=>z
end gB
open PySem PySem.W PyProof.Rows
namespace PySem.W.Fast
def tw46047356163711959:=()
def tw10877646445887357281:=()
def tw5966552467048675640:=()
def tw4298751548922799387:=()
def tw9628386662896749208:=()
def tw14490095542210971326:=()
def tw9916238647075864719:=()
def tw13241236600578272084:=()
def tw4891155283279915023:=()
def tw861502493610598483:=()
def tw14678943786356421948:=()
def tw7893645736953833228:=()
def tw18237906538492839801:=()
def tw10374632558016547081:=()
def tw6427576097997697322:=()
def tw12652432740844512721:=()
def tw3210817489611942815:=()
def tw11502723521405224942:=()
def tw5634160328301049529:=()
def tw2463159546536120769:=()
def tw264932986702033461:=()
def tw13519031799517361783:=()
def tw1624323068313547334:=()
def tw2323540548168759778:=()
def tw938635154573522699:=()
def tw2875624504187281209:=()
def tw987301045722139829:=()
def tw13747245819163237362:=()
def tw7774113678449685934:=()
def tw11296043764143553527:=()
def tw6478921715580560531:=()
def tw4438828346075439977:=()
def tw8833496514701923757:=()
def tw9388713150524257201:=()
def tw2773992215795510196:=()
def tw1251388686125282213:=()
def tw16860917588515726111:=()
def tw16721508838639397229:=()
def tw8413399678365625193:=()
def tw4517560463748656503:=()
def tw1660798551392318424:=()
def tw3851428956369438258:=()
def tw3717076922277056940:=()
def tw13032259773685033708:=()
def tw7766106395892283477:=()
def tw9510108024173832781:=()
def tw15481805183316651443:=()
def tw7828442866392281868:=()
def tw11280630913190679075:=()
def tw14934011241717051027:=()
def tw2846267367221353805:=()
def tw2781441929908095834:=()
def tw5239429619861171699:=()
def tw5449563278759341024:=()
def tw11662115353561507501:=()
def tw13303234937177203706:=()
def tw7046044490832178742:=()
def tw14594842627406614536:=()
def tw18367749455379333440:=()
def tw2474200967059427378:=()
def tw18441984877410159329:=()
def tw577049184839899653:=()
def tw5610444585433571239:=()
def tw10611411778653204182:=()
def tw2213964242967304950:=()
def tw17862349074038704544:=()
def tw15752536640612570366:=()
def tw296083027919845158:=()
def tw354308444213283272:=()
def tw855453113358079251:=()
def tw384561282630992784:=()
def tw10341888390210383824:=()
def tw5323657890516693427:=()
def tw17817366049700826239:=()
def tw18146532975450069615:=()
def tw10842938092177581297:=()
def tw6248682570935725439:=()
def tw9215358943560890414:=()
def tw12773500944031208451:=()
def tw14196522196718054806:=()
def tw5483103596317574428:=()
def tw6968137755033780318:=()
def tw18384110700954362821:=()
def tw18407495941553956032:=()
def tw6557801498797044033:=()
def tw1950803216711332702:=()
def tw7998583776865276027:=()
def tw10539347186207431242:=()
def tw2187251505897268136:=()
def tw4548300405975405348:=()
def tw5537553045615171315:=()
def tw6851275008772768644:=()
def tw16626521671886133394:=()
def tw12826555694032677247:=()
def tw17852080271459398996:=()
def tw6945566481307383155:=()
def tw14332157829676619468:=()
def tw5404398260228975080:=()
def tw9768418358887946270:=()
def tw13215348057498601715:=()
def tw12717557048674177747:=()
def tw8915285831880473931:=()
def tw16607193741793207195:=()
def tw14746253646979254834:=()
def tw17877845533520812795:=()
def tw506581581156960101:=()
def tw2576523973992343609:=()
def tw2759284407945088205:=()
def tw6325675986683464353:=()
def tw3919386906821981792:=()
def tw16109456028575089023:=()
def tw991626836265849350:=()
def tw13567515925198824819:=()
def tw15831126876759372255:=()
def tw17170472223608059050:=()
def tw10294118229990073760:=()
def tw15016216816812991519:=()
def tw6607644564249050058:=()
def tw18402647697222807634:=()
def tw5221592684559293012:=()
def tw5171440476677080432:=()
def tw6216382948874008006:=()
def tw1467881925912835984:=()
def tw10953238642706405951:=()
def tw8752102160057688731:=()
def tw14993981098963755598:=()
def tw15541240446876304647:=()
def tw17267597263503486738:=()
def tw10258873121960336067:=()
def tw12315944733273679750:=()
def tw15806707075529380192:=()
def tw15214748959534726111:=()
def tw14074196154385387334:=()
def tw6145912378217320015:=()
def tw6542358382571353910:=()
def tw12091130801917272685:=()
def tw1692201390411429781:=()
def tw2392593158011319353:=()
def tw4772062507164038959:=()
def tw9630203353718772412:=()
def tw6631347999910079877:=()
def tw8997383693586321770:=()
def tw15240619367488684849:=()
def tw13141587033338554882:=()
def tw6984818610989830729:=()
def tw17508347553164502932:=()
def tw14577027041581768965:=()
def tw10016166984437732892:=()
def tw15792790952358468732:=()
def tw4490611911172417597:=()
def tw14811890972901180937:=()
def tw18095796173783872564:=()
def tw16753820520455620202:=()
def tw14560624547652848805:=()
def tw5920806927976990809:=()
def tw8981176238543900561:=()
def tw5306753302271460952:=()
def tw4026147355466621588:=()
def tw9947508896943372755:=()
def tw3713540243193553862:=()
def tw14226173905949225808:=()
def tw13037224057902187189:=()
def tw4063829332388037331:=()
end PySem.W.Fast
set_option maxRecDepth 100000 in
set_option maxHeartbeats 0 in
open_top hd for PySem.Challenge.rw_traitmere_k04_forked_kinds
local macro_rules
| `(tactic|and_intros)=>`(tactic|first|exact gB.apU λ_ _=>rfl|exact gB.apT λ_=>rfl|exact gB.apV λ_ _ _=>rfl|exact gB.apW λ_ _ _ _=>rfl|exact gB.apX λ_ _ _ _ _=>rfl|exact gB.apS rfl)
set_option maxRecDepth 100000 in
set_option maxHeartbeats 0 in
theorem PySem.Challenge.cw_traitmere_k04_forked_kinds_holds : PySem.Challenge.rw_traitmere_k04_forked_kinds.Holds := by
 refine hd ?_
 k_fill
 refine gB.walk (l:=PySem.Challenge.rw_traitmere_k04_forked_kinds) rfl rfl (j9:=433) (λw h Y=>⟨km_in_of Y, km_tabs_of Y⟩) ?T (List.mem_singleton.mpr rfl) ?F
 case T =>
  intro w Q hQ
  obtain rfl:=List.mem_singleton.mp hQ
  refine ⟨?A, ?B⟩
  (case A=>first|kernel_rfl|rfl|k_is)
  (case B=>exact gB.aqb (by kernel_rfl))
 case F =>
  intro w mg fa h KX G hmg
  refine' gB.apQ hmg ?T ?TK ?MIni ?MPt0 ?FPt0 ?bPt0 ?MNew ?MUps ?MCkd ?MAal ?MPla ?MRms ?MLby ?MLtb ?MNms ?MPup ?MPab ?MPun ?MIsb ?MPrm ?MPtd ?MPhm ?MPmo ?MTwi ?MTko ?MLen ?mk ?kc ?Aisn ?AFlof ?Aloa ?Affk ?Aldo ?Acmr ?Ahrg ?Abag ?Apul ?Asam ?Anam ?Agdn ?Asta ?Acop ?Alow ?Afar ?Ainh ?Alal ?Awyr ?Afrk ?Awyp ?Aent ?Alea ?Arin ?Aund ?Alis ?Atri ?Atol ?Alaw ?TE ?TG ?ETaken ?EFull ?EForked ?ETwice ?EStrange ?EWider ?ENoFit ?EBadName ?EBadParts ?ENoKind ?aC ?v1 ?v2 ?v3 ?v4 ?zV ?zL ?eVE ?eVG ?aCRing ?hc0 ?xF ?x1BadName ?x2BadName ?x3BadName ?x1Taken ?x2Taken ?x3Taken ?x1Full ?x2Full ?x3Full ?x4Full ?hl
  (case aC=>refine' mg_of KX G ?_;k_is)
  (case v1=>refine' mg_of KX G ?_;k_is)
  (case v2=>refine' mg_of KX G ?_;k_is)
  (case v3=>refine' mg_of KX G ?_;k_is)
  (case v4=>refine' mg_of KX G ?_;k_is)
  (case aCRing=>refine' mg_of KX G ?_;k_is)
  (case zV=>refine' mg_none_of KX G ?_;k_is)
  (case zL=>refine' mg_none_of KX G ?_;k_is)
  (case T=>constructor<;>(refine' mg_none_of KX G ?_;k_is))
  (case TK=>refine' ⟨⟨?_, ?_, ?_, ?_⟩, ?_, ?_, ?_, ?_, ?_, ?_, ?_⟩<;>first|k_is|(show findIn _ _ _ = some none;k_is))
  (case mk=>k_is)
  (case kc=>k_is)
  (case MPt0=>refine' ⟨?a, ?i, ?k⟩;(case a=>k_is);(case i=>k_is);(case k=>k_is))
  (case FPt0=>refine' gB.y_ ?l ?c ?k;(case l=>k_is);(case c=>k_is);(case k=>k_is))
  (case bPt0=>refine' gB.apY ?o ?s;(case o=>k_is);(case s=>rfl))
  any_goals (refine' gB.z8 ?a ?i ?l ?c ?k ?b;(case a=>k_is);(case i=>k_is);(case l=>k_is);(case c=>k_is);(case k=>k_is);(case b=>and_intros))
  any_goals (refine' gB.CT KX G ?a ?l ?c ?k ?b;(case a=>k_is);(case l=>k_is);(case c=>k_is);(case k=>k_is);(case b=>and_intros))
  (case ENoKind=>refine' gB.CZ KX G PySem.F.excBase_LookupError ?a ?i ?l ?c ?k ?q2 ?q3 ?q4 ?ob ?kc ?n0 ?q1 ?fc ?b0 ?nf ?b;(case a=>k_is);(case i=>k_is);(case l=>k_is);(case c=>k_is);(case k=>k_is);(case q2=>k_is);(case q3=>k_is);(case q4=>k_is);(case ob=>k_is);(case kc=>k_is);(case n0=>k_is);(case q1=>kernel_rfl);(case fc=>rfl);(case b0=>decide +kernel);(case nf=>first|exact gB.apP|(refine' gB.aaw ?_;show findIn _ _ _ = some none;k_is)|(refine' gB.O2 ?_ ?_<;>(show findIn _ _ _ = some none;k_is)));(case b=>and_intros))
  any_goals (refine' gB.CZ KX G PySem.F.excBase_ValueError ?a ?i ?l ?c ?k ?q2 ?q3 ?q4 ?ob ?kc ?n0 ?q1 ?fc ?b0 ?nf ?b;(case a=>k_is);(case i=>k_is);(case l=>k_is);(case c=>k_is);(case k=>k_is);(case q2=>k_is);(case q3=>k_is);(case q4=>k_is);(case ob=>k_is);(case kc=>k_is);(case n0=>k_is);(case q1=>kernel_rfl);(case fc=>rfl);(case b0=>decide +kernel);(case nf=>first|exact gB.apP|(refine' gB.aaw ?_;show findIn _ _ _ = some none;k_is)|(refine' gB.O2 ?_ ?_<;>(show findIn _ _ _ = some none;k_is)));(case b=>and_intros))
  (case TE=>refine' gB.aqO (mg_of KX G ?a) ?e1 ?e2 ?e3 ?l ?c ?k ?o ?s;(case a=>k_is);(case e1=>k_is);(case e2=>k_is);(case e3=>k_is);(case l=>k_is);(case c=>k_is);(case k=>k_is);(case o=>k_is);(case s=>rfl))
  (case TG=>refine' gB.aqN (mg_of KX G ?a) ?e1 ?e2 ?e3 ?l ?c ?k ?o ?s;(case a=>k_is);(case e1=>k_is);(case e2=>k_is);(case e3=>k_is);(case l=>k_is);(case c=>k_is);(case k=>k_is);(case o=>k_is);(case s=>rfl))
  (case AFlof=>refine' gB.ap0 KX G ?a ?l ?c ?k ?b;(case a=>k_is);(case l=>k_is);(case c=>k_is);(case k=>k_is);(case b=>and_intros))
  (case eVE=>k_is)
  (case eVG=>k_is)
  (case hc0=>first|kernel_rfl|k_is)
  (case xF=>kernel_rfl)
  (case x1BadName=>kernel_rfl)
  (case x2BadName=>kernel_rfl)
  (case x3BadName=>kernel_rfl)
  (case x1Taken=>kernel_rfl)
  (case x2Taken=>kernel_rfl)
  (case x3Taken=>kernel_rfl)
  (case x1Full=>kernel_rfl)
  (case x2Full=>kernel_rfl)
  (case x3Full=>kernel_rfl)
  (case x4Full=>kernel_rfl)
  (case hl=>exact λs v=>.of_eq rfl)
