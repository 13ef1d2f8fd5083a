import PyProof.Rows.All
import KE.KDictOf
import KE.KDictSum
import KE.KEqDat
import KE.KEqDict
import KE.KFromBytes
import KE.KIntText
import KE.KIsAll
import KE.KMinBuiltin
import KE.KRevIter
import KE.KRevSl
import KE.KUnpack
import PySem.Challenge.RW_mixbench_k65_whole_linear
set_option Elab.async false
set_option linter.all false
set_option maxRecDepth 100000
open List (all_cons drop_nil nodup_nil)
open PySem.Str renaming ofString→B0,empty→F6,join→F9,ofString_eq_toList→Ni
open PySem renaming wpAny_bind→Bp,Value→Br,Shared→Bx,mainGlobals→C2,FuncData→C8,sizeLine→Cb,wpAny_pure→Cf,wpAny→Ch,intBits_mul_le→Cn,starEach→Cs,intBits_le_iff→D8,Program→Dc,compareOp→Dl,sizeLine_eq→Dm,boot_len→Dq,Around→Ds,wpAny_mono→Dv,wpAny_field→E1,World→E2,strLen_append→E6,wpAny_setField_rec→Ea,intBits_le_64→Ei,wpAny_callSpecial?_slot→En,mem_of_lookup→Ep,keywordEach→Et,backTo→Ew,wpAny_newObj_type→Ey,foldedSetIterable→Ez,behindInMarks→Fa,attributeBase→Fb,wpAny_call_entry→Fe,intBits_add_le→Ff,Scope→Fg,wpAny_passesOwn→Fn,intBits_fdiv_le→Fo,lookup_relabel_local→Fs,binaryOp→Ft,IntMulOk→Fu,wpAny_comprehension_free→Fw,wpAny_seqItems→Fz,wpAny_Call_Name_kw→G7,sysModules→G8,wpAny_execs_nil→Gb,backToKw→Gc,wpAny_truthy_bool→Gi,wpAny_pyIter_list→Gj,assignEach→Hf,IsPair→Hh,wpAny_getItem_str_slice→Hj,bootBuiltins→Ho,call_meets→Ia,wpAny_standAt→Ik,sliceBounds→Il,cLine→Im,codeAny_mono→Iz,codeAny→J1,swapsWith→J3,typeIs_str→J8,wpAny_execs_cons→Jq,compEnvC→Jr,NameKind→Js,Keyword→Jw,post_val_or_str→K2,wpAny_updateSeq_pair→Kc,rawInt→Ke,pyNext→Kf,newFunctionEnv→Kg,intBits_neg_le→Kh,intBits_le_of_natAbs→Ki,IsZip→Kj,getItem→Kn,wpAny_onRaise→Lb,wpAny_holding→Lc,wpAny_attempt→Le,tupleKind_room_in1→Lg,IsEnum→Li,wpAny_assign_Name→Lv,valueAt→Lw,callerA→Lx,BindsTo→M3,tupleKind→Md,PyData→Me,IsPart→Mf,wpAny_letGo→Ml,letOwnedTupleGo→Ms,Within→Mt,wpAny_rule→N8,recursionLimit→Na,compPost→Nb,callWith→Nc,atKey→Nd,Operator→Nj,GenState→Nl,evalArgs_none→Nu,eval_ListComp→O7,wpAny_Call_method0_late→Ol,seqIndex?→Om,getMethod→On,bindL→Oo,bindC→Op,PassesOwn→Os,wpAny_nextOf_list_item→Pc,strKind_is→Pe,standAt→Pf,pyIter→Pg,codeAny_compStart_list→Ph,Builtin→Pl,wpAny_nextOf_list_end→Pr,wpAny_isTrue_Compare1→Ps,exec_Assign_Name_used→Pt,wpAny_newFunctionEnv→Q1,wpAny_loadName_local→Q2,intText?→Q3,codeAny_call_builtin→Q4,ZipApart→Q5,wpAny_loadName_cell→Qj,codeAny_forLoop_any→Qk,wpAny_pyIter_tuple→Qt,wpAny_call→Qu,wpAny_Name→Qv,typeLookup→Qw,typeIs_int→Qx,isTrue→Qy,builtinsNs→Qz,JoinOk→Rc,wpAny_pyIter_enum→Rl,newList→Rm,intBits_natAbs_le→Rn,OsState→Rt,Drawn→Rw
open False renaming elim→Bq
open PySem.Heap renaming get?_push_of_some→Bt,lt_size→Cc,get?_push_size→Cg,SameBut→E7,size_push→Gf,ExtBut→Lj,get?_update_other→N2,get?_update_self→Nk
open List renaming getElem?_eq_some_iff→Bu,length_map→Bv,getElem?_eq_getElem→By,length_append→C1,getD_eq_getElem?_getD→C3,getElem?_map→C9,mem_of_getElem?→Ca,mem_cons_self→Ce,mem_cons_of_mem→Ci,mem_append_right→Cj,getElem?_append_left→Cm,map_append→Co,length_cons→Cq,take_add_one→Cu,length_singleton→Cw,range→Cz,replicate→D0,getElem?_cons_succ→D7,length_take→D9,mem_cons→Db,mem_append→De,getElem?_append_right→Df,take_length→Dg,mem_singleton→Dh,size_toArray→Di,mem_append_left→Dp,getElem?_eq_none→Dz,mem_map→E4,getElem?_concat_length→E5,getElem?_range→Ed,take_of_length_le→Ef,append_assoc→Eg,not_mem_nil→Eo,map_cons→Es,mem_of_mem_take→Eu,length_drop→Ev,nil_append→Ex,cons_append→Fd,length_eq_zero_iff→Fh,zipWith→Fi,all_eq_true→Fv,mem_filter→Fy,lookup_cons→G6,length_range→Ga,lookup→Gg,replicate_succ→Gr,filter_cons→Gs,length_replicate→Gu,drop_of_length_le→Hd,length_filter_le→Hl,take_sublist→Ht,nodup_append→Hu,map_map→Hv,take_append_of_le_length→Hx,singleton_append→Ig,nodup_cons→Ih,eq_nil_or_concat→Ii,concat_eq_append→Ij,mem_of_mem_drop→Ir,getElem?_of_mem→Iu,sublist_append_right→Iy,length_nil→Jb,append_nil→Jc,getElem?_drop→Jm,getElem?_zipWith→Jp,foldl_append→Jy,flatten_cons→Jz,find?_cons→K0,filterMap_cons→K4,mem_map_of_mem→Kl,length_zipWith→Km,take_zero→Kq,ext_getElem?→Kr,eraseIdxIfInBounds_toArray→L9,length→Lp,any_cons→M6,pairwise_iff_getElem→Mi,mem_take_iff_getElem→Mj,sublist_append_left→Mq,getElem?_replicate→Mw,map_nil→N6,getElem?_set_self→N7,range_succ→No,map_drop→Np,forIn_cons→Nq,map→O0,length_take_le'→O1,length_dropLast→O2,getElem?_set_ne→O3,map_congr_left→Oi,pairwise_cons→Ou,mem_replicate→Ov,mem_filterMap→Ow,foldl→Ox,filter_append→Oy,reverse_cons→Po,all_eq_false→Pp,zipIdx_cons→Pz,drop_length→Q0,zipIdx_nil→Qd,sum_append→Qe,foldl_cons→Qf,all_append→Qg,mem_range→Qo,forIn_nil→Qp,sum_cons→Ri,of_mem_zip→Rj
open PySem.W renaming Frag→Bw,nsIn→Cp,mg_of→Ct,findIn→Dk,mg_none_of→Ee,emptyDict→Gk,kia_one→Gp,specialIn→Ip,instObj→Ix,keepIn→Jj,hasDictIn→K8,callWith_K→Lh,plainGet→Mu,plainGet_of→Nf,fnOf→Oa,takesIn→Oq,methodObj→Pi,lookIn→Pj,mroIn→Pu,subIn→Ql,takerIn→R0,cellsFrom_some→Ra,methodCall_KW→Ro
open Nat renaming le_trans→Bz,le_refl→C0,lt_of_lt_of_le→Cr,ne_of_lt→D2,zero_le→Dx,lt_of_le_of_lt→E3,pow_le_pow_right→Ej,mul_le_mul_right→Ek,lt_or_ge→F0,lt_irrefl→Fk,ne_of_gt→Gn,min_eq_right→Go,mul_le_mul_left→Gq,eq_zero_or_pos→Ha,le_add_right→Hr,min_eq_left→Ie,min_self→Io,succ_mul→Jk,le_of_lt→Jl,div_le_self→Jo,le_succ→Jx,toDigits→Ky,sub_zero→Kz,pow_succ→L0,mul_comm→L7,max_self→L8,strongRecOn→M5,mul_assoc→Mv,add_comm→Nn,log2_lt→Oh,lcm→Px,gcd→Py,lt_succ_self→Qb,gcd_dvd_left→Qc
open Option renaming map_eq_some_iff→C7,map_some→Jf,isSome_iff_exists→M9,isSome_map→Og,getD_none→Ot,none→Rh
open Bool renaming false_ne_true→Cd,and_eq_true→Ec,eq_iff_iff→Gv,bne_true→J7,true_and→Kb,eq_false_iff→Ks,or_eq_true→Ls,false_and→Mb,bne_false→Mc,or_false→Rk
open PySem.PassesOwn renaming never→Ck
open Int renaming gcd→Cv,toNat_natCast→Dy,mul_fdiv_cancel_left→Eh,add_zero→F4,natCast_mul→Fj,mul_ediv_cancel_left→Fm,gcd_pos_of_ne_zero_right→G4,natCast_add→Gx,natAbs_natCast→Hb,eq_ofNat_of_zero_le→Hc,natAbs_mul→Hi,one_mul→Hz,fmod_eq_emod_of_nonneg→Iv,fdiv_eq_ediv_of_nonneg→Iw,gcd_dvd_right→J5,gcd_natCast_natCast→Jg,mul_comm→Jn,mul_pos→K1,lcm→K7,zero_mul→La,gcd_dvd_left→Lq,gcd_comm→Nr,natAbs_dvd_natAbs→O4,toNat_of_nonneg→Oz,emod_lt_of_pos→Pq,natCast_ediv→Qh,dvd_mul_left→Qi,emod_nonneg→Qq,le_of_dvd→Ry
open PySem.NameKind renaming free→Cy,cell→Lr
open PySem.PyData renaming strOk→D1,eqv→Rs
open PySem.F renaming slot_list_append→D3,plainAttrs_list→Da,type_list_append→Dd,slot_str_split→El,plainAttrs_str→Em,slot_tuple_iterator_next→Gm,type_str_split→Gz,slot_enumerate_next→Hw,slot_str_startswith→Hy,slot_list_pop→Jd,slot_zip_next→Jv,args_str_split_2→Kw,type_str_startswith→Lf,entry_str_split→Lm,slot_dict_items→M8,args_tuple_iterator_next_1→Mh,entry_tuple_iterator_next→Mo,args_enumerate_next_1→Nz,entry_enumerate_next→Oe,args_zip_next_1→Qn,entry_zip_next→Re,entry_list_pop→Rf,slot_int_rmul→Rv
open PySem.Builtin.SmallTypes renaming nextOf→Dj,ownedTupleIsFree→Dw,ownedTupleHandOut→Er,fitsIndex→Jh
open PySem.Value renaming ref→Do,none→Ge,str→J9,int→Ja,bool→K9,type→Ly,float→Ng,isStrOf→Qm,isInt→Rq,bytes→Rr
open PySem.IntMulOk renaming of_le→Dr,of_left→Du,of_right→Fc
open Option.some renaming inj→E8
open PySem.Builtin.Str renaming strKind→E9,occurrences→Eb,partsBetween→Kx
open True renaming intro→F8
open PyProof.Rows renaming boot_isinstance→Fp,callWith_type1→Fx,boot_list→Ic,kindOf→Iq,AllBare→Ji,slot_tuple_getitem→Jt,boot_str→Ju,boot_abs→Kk,envOfC→Ln,sortedS→M4,boot_tuple→Nm,subscriptTail→Of,subscriptTail_builtinR→Pm,IntsAre→Pn,boot_int→Qa,Subscript_→Rg
open Array renaming length_toList→Fq,getElem?_toList→G5,toList→Mx,mem_toList_iff→Nt,append_assoc→Oj
open PySem.Builtin.Slice renaming slicePlaces→G0,sliceAdjust→Hq,sliceApplied→Ka
open Or renaming inr→G3,inl→Kp
open PySem.Builtin.Tuple renaming tupleExact→G9
open Rat renaming divInt→Gh,intCast_mul→Gw,num_divInt_den→Gy,intCast_inj→Lu,mul_assoc→Mr,mul_one→O6,sub_eq_add_neg→Pa,inv_mul_cancel→Pb,num_divInt→Qr,den_divInt→Qs
open Lean renaming mkIdent→He
open PySem.Txt renaming startswith→Hg,slice_le→Ku,join→Kv,split→Q6,slice→Q7
open Ne renaming symm→Hk
open Lean.Macro renaming throwUnsupported→Hn
open PySem.Builtin.List renaming listTooLong→I0
open PySem.SeqAt renaming shaped→Ib
open Sum renaming inr→J2,inl→Kt
open List.cons renaming injEq→J4
open ForInStep renaming yield→J6
open PySem.Calls renaming callWith_builtin→Je,Name_function_global→M0
open PySem.Builtin.Range renaming rangeSize→Ko
open PySem.Heap.SameBut renaming update→Lz,refl→Mg
open PySem.Paired renaming length→M7,snoc→Rb
open Char renaming toNat→Ma
open PySem.SeqAt.EqAt renaming str_int→Mm,int_str→Mn
open PySem.Around renaming under→Mp
open PySem.Shared renaming heap→Mz
open PySem.Code renaming isFrame→N4
open PySem.StrLaws renaming At→Nh,subAt_one→Nv,found_one→Ny
open PySem.Obj renaming data_mapFields→Pk
open PySem.Heap.IsSliceOf renaming new→Ru
open PySem.CmpOp renaming NotIn→Rx
namespace L2
open PySem PySem.Spec PyProof.Rows
noncomputable abbrev Key:=Sum Int Str
noncomputable def g6j:Key->Br->Bool
 | .inl k,v=>Rq k v
 | .inr x,v=>Qm x v
noncomputable def keyH(w:E2):Key->Int
 | .inl k=>hashInt k
 | .inr x=>hashStr w x
theorem a6p:∀ {k:Key} {v:Br},g6j k v=true->(∃ i t,k=Kt i/\v=Ja i t)\/(∃ x t,k=J2 x/\v=J9 x t)
 | .inl i,v,h=>by
  obtain⟨t,e⟩:=Value.isInt_shape (k:=i) (v:=v) h
  exact .inl ⟨i,t,rfl,e⟩
 | .inr x,v,h=>by
  obtain⟨t,e⟩:=Value.isStrOf_shape (x:=x) (v:=v) h
  exact .inr ⟨x,t,rfl,e⟩
theorem h4k(i:Int)(t:Tok):g6j (.inl i) (.int i t)=true:=by simp [g6j,Rq]
theorem h4l(x:Str)(t:Tok):g6j (.inr x) (.str x t)=true:=by simp [g6j,Qm]
theorem j1j(a b:Int):decide ((Kt a:Key)=Kt b)=(a == b):=by
 by_cases e:a=b
 .subst e; simp
 .have h:¬ (Kt a:Key)=Kt b:=fun q=>e (Sum.inl.inj q)
  rw [decide_eq_false h]
  exact (beq_eq_false_iff_ne.mpr e).symm
theorem j1k(a b:Str):decide ((J2 a:Key)=J2 b)=decide (a=b):=by
 by_cases e:a=b
 .subst e; simp
 .have h:¬ (J2 a:Key)=J2 b:=fun q=>e (Sum.inr.inj q)
  rw [decide_eq_false h,decide_eq_false e]
theorem j1l(a:Int)(b:Str):decide ((Kt a:Key)=J2 b)=false:=decide_eq_false (fun q=>nomatch q)
theorem j1m(a:Str)(b:Int):decide ((J2 a:Key)=Kt b)=false:=decide_eq_false (fun q=>nomatch q)
noncomputable def a7s(prog:Dc)(w:E2):PySem.KeyKind prog w Key where
 is:=g6j
 hash:=keyH w
 inj:=fun v a b ha hb=>by
  rcases a6p ha with ⟨i,t,rfl,rfl⟩ | ⟨x,t,rfl,rfl⟩
  .rcases a6p hb with ⟨j,u,rfl,e⟩ | ⟨y,u,rfl,e⟩
   .injection e with e1 _; rw [e1]
   .exact nomatch e
  .rcases a6p hb with ⟨j,u,rfl,e⟩ | ⟨y,u,rfl,e⟩
   .exact nomatch e
   .injection e with e1 _; rw [e1]
 byValue:=fun k v h=>by
  rcases a6p h with ⟨i,t,rfl,rfl⟩ | ⟨x,t,rfl,rfl⟩ <;> rfl
 pyHash:=fun hv h=>by
  rcases a6p hv with ⟨i,t,rfl,rfl⟩ | ⟨x,t,rfl,rfl⟩
  .exact wpAny_pyHash_int h
  .exact wpAny_pyHash_str h
 eqBool:=fun hu hv h=>by
  rcases a6p hu with ⟨i,t,rfl,rfl⟩ | ⟨x,t,rfl,rfl⟩
  .rcases a6p hv with ⟨j,u,rfl,rfl⟩ | ⟨y,u,rfl,rfl⟩
   .rw [j1j] at h; exact wpAny_eqBool_int h
   .rw [j1l] at h; exact Mn i t y u _ _ _ _ h
  .rcases a6p hv with ⟨j,u,rfl,rfl⟩ | ⟨y,u,rfl,rfl⟩
   .rw [j1m] at h; exact Mm x t j u _ _ _ _ h
   .rw [j1k] at h; exact wpAny_eqBool_str h
 «strs» := fun k x t v h => by
  rcases a6p h with ⟨i,u,rfl,e⟩ | ⟨y,u,rfl,e⟩
  .exact nomatch e
  .injection e with e1 _
   subst e1
   cases v <;> rfl
theorem g6k(prog:Dc)(w:E2)(i:Int)(t:Tok):(a7s prog w).is (.inl i) (.int i t)=true:=h4k i t
theorem g6l(prog:Dc)(w:E2)(x:Str)(t:Tok):(a7s prog w).is (.inr x) (.str x t)=true:=h4l x t
inductive V where
 | non | bl (b:Bool) | int (i:Int) | str (x:Str) | byt (b:Array UInt8) | flt (b:UInt64) | ref (a:Addr) | ty (n:String)
 deriving DecidableEq
noncomputable def RelV:V->Br->Prop
 | .non,u=>u=Ge
 | .bl b,u=>u=K9 b
 | .int i,u=>∃ t,u=Ja i t
 | .str x,u=>∃ t,u=J9 x t
 | .byt b,u=>∃ t,u=Rr b t
 | .flt b,u=>∃ t,u=Ng b t
 | .ref a,u=>u=Do a
 | .ty n,u=>u=Ly n
noncomputable abbrev Vals:List V->List Br->Prop:=Paired RelV
variable {us:List Br}
theorem Vals.length{xs:List V}(r:Vals xs us):xs.length=us.length:=M7 r
theorem Vals.get:∀ {xs:List V} {us:List Br} {i:Nat} {x:V},Vals xs us->xs[i]? = some x->∃ u,us[i]? = some u/\RelV x u
 | _,_,_,_,.nil,e=>by simp at e
 | _,_,0,_,.cons r _,e=>by simp at e; subst e; exact⟨_,rfl,r⟩
 | _,_,i+1,x,.cons _ t,e=>by
  obtain⟨u,h1,h2⟩:=Vals.get (i:=i) (x:=x) t (by simpa using e)
  exact⟨u,by simpa using h1,h2⟩
theorem Vals.set{x:V}{u:Br}(r:RelV x u):∀ {xs:List V} {us:List Br} (i:Nat),Vals xs us->Vals (xs.set i x) (us.set i u)
 | _,_,_,.nil=>.nil
 | _,_,0,.cons _ t=>.cons r t
 | _,_,i+1,.cons q t=>.cons q (Vals.set r i t)
theorem Vals.append:∀ {xs ys:List V} {us ws:List Br},Vals xs us->Vals ys ws->Vals (xs++ys) (us++ws)
 | _,_,_,_,.nil,s=>s
 | _,_,_,_,.cons r t,s=>.cons r (Vals.append t s)
theorem Vals.take:∀ {xs:List V} {us:List Br} (n:Nat),Vals xs us->Vals (xs.take n) (us.take n)
 | _,_,0,_=>.nil
 | _,_,_+1,.nil=>.nil
 | _,_,n+1,.cons r t=>.cons r (Vals.take n t)
theorem Vals.drop:∀ {xs:List V} {us:List Br} (n:Nat),Vals xs us->Vals (xs.drop n) (us.drop n)
 | _,_,0,r=>r
 | _,_,_+1,.nil=>.nil
 | _,_,n+1,.cons _ t=>Vals.drop n t
noncomputable def g6g:Option V->Option Br->Prop
 | some v,some u=>RelV v u
 | none,none=>True
 | _,_=>False
noncomputable def KV{κ:Type}:List (κ×V)->List (κ×Br)->Prop:=Paired fun (p:κ×V) (q:κ×Br)=>p.1=q.1/\RelV p.2 q.2
noncomputable def kV:Key->V
 | .inl i=>.int i
 | .inr x=>.str x
inductive HO where
  | lst (xs:List V)
  | tup (xs:List V)
  | dK (kvs:List (Key×V)) | dT (kvs:List (List Key×V))
  | set (S:Int->Bool) (n:Nat)
  | ins (C dx:Addr) (fs:List (Str×V))
  | own (x:Addr)
  | xd (fs:List (Str×V))
  | met (f x:Addr)
  | rng (lo hi:Int)
  | frz (o:Obj) (u:HO)
  | tbl (ps:Array Br)
  | ext (φ:Heap->Prop)
noncomputable abbrev Hp:=Addr->Option HO
noncomputable def upd(H:Hp)(a:Addr)(o:HO):Hp:=fun b=>if b=a then some o else H b
variable {H:Hp}{o:HO}
theorem a2v{a:Addr}:upd H a o a=some o:=by unfold upd; rw [if_pos rfl]
theorem a3w{a b:Addr}(h:b≠a):upd H a o b=H b:=by unfold upd; rw [if_neg h]
theorem j8z{a b:Addr}{u:HO}(h:H a=some o)(h':H b=some u)(d:o≠u):a≠b:=by
 intro e; subst e; rw [h] at h'; exact d (E8 h')
theorem a5u{a b:Addr}(h:H a=some o)(h':H b=none):a≠b:=by
 intro e; subst e; rw [h] at h'; cases h'
section
variable (P:Dc)(w:E2)
noncomputable def b3k(H:Hp)(h:Heap)(a:Addr):HO->Prop
 | .lst xs=>xs.length<=Cb/\∃ (its:List Br) (n:Nat),Vals xs its/\h.get? a=some { cls:=.type "list",data:=.seq its.toArray n }
 | .tup xs=>xs.length<=Cb/\∃ its:List Br,Vals xs its/\IsTup h a its.toArray
 | .dK kvs=>kvs.length<=Cb/\(a == G8)=false/\∃ vs,KV kvs vs/\h.DictOf (a7s P w) a vs
 | .dT kvs=>kvs.length<=Cb/\(a == G8)=false/\∃ xs:List (List Key×Addr×Br),
   Paired (fun (p:List Key×V) (q:List Key×Addr×Br)=>p.1=q.1/\H q.2.1=some (.tup (p.1.map kV))/\RelV p.2 q.2.2) kvs xs /\
   ∃ o es ep,h.get? a=some o/\o.ExactDict/\o.data = .dict es ep/\es.toList=xs.map (entryOfKey (Md (a7s P w)))/\(xs.map (·.1)).Nodup
 | .set S n=>h.SetOf (intKind P w) a S n
 | .ins C dx fs=>H dx=some (.own a)/\fs.length<=1000/\dx≠a/\h.get? a=some (Ix C dx) /\
   ∃ mA,h.Ns1 dx mA/\(∀ f,g6g (fs.lookup f) (mA f))/\Mt mA (fs.map (·.1))
 | .own _=>∃ o,h.get? a=some o
 | .xd fs=>∃ mA,h.Ns1 a mA/\∀ f,g6g (fs.lookup f) (mA f)
 | .rng lo hi=>∃ t u v,h.get? a=some { cls:=.type "range",data:=.fields #[.int lo t,.int hi u,.int 1 v] }
 | .frz o u=>h.get? a=some o/\b3k H h a u
 | .tbl ps=>h.get? a=some { cls:=.none,data:=.fields ps }
 | .met f x=>h.get? a=some (Pi (.ref f) (.ref x))
 | .ext φ=>φ h/\(∃ o,h.get? a=some o)/\∀ h1 h2:Heap,φ h1->(∀ o,h1.get? a=some o->h2.get? a=some o)->φ h2
def HOk(H:Hp)(h:Heap):Prop:=∀ a o,H a=some o->b3k P w H h a o
end
section
variable {P:Dc}{w:E2}{H H':Hp}{h h':Heap}{a:Addr}{o:HO}
theorem b3k.lt(x:b3k P w H h a o):a < h.objs.size:=by
 cases o with
 | lst xs=>obtain⟨_,_,_,_,e⟩:=x; exact Cc e
 | tup xs=>obtain⟨_,_,_,p⟩:=x; exact p.lt
 | dK kvs=>obtain⟨_,_,_,_,o,_,_,e,_⟩:=x; exact Cc e
 | dT kvs=>obtain⟨_,_,_,_,o,_,_,e,_⟩:=x; exact Cc e
 | set S n=>obtain⟨o,_,_,_,e,_⟩:=x; exact Cc e
 | ins C dx fs=>obtain⟨_,_,_,e,_⟩:=x; exact Cc e
 | own y=>obtain⟨_,e⟩:=x; exact Cc e
 | xd fs=>obtain⟨_,⟨_,_,_,e,_⟩,_⟩:=x; exact Cc e
 | rng lo hi=>obtain⟨_,_,_,e⟩:=x; exact Cc e
 | frz ob u=>obtain⟨e,_⟩:=x; exact Cc e
 | tbl ps=>exact Cc (show h.get? a=some _ from x)
 | met f y=>exact Cc (show h.get? a=some _ from x)
 | ext φ=>obtain⟨_,⟨_,e⟩,_⟩:=x; exact Cc e
theorem Paired.j9a{α β:Type}{F G:α->β->Prop}:∀ {An:List α} {l₂:List β},Paired F An l₂->(∀ a b,F a b->G a b)->Paired G An l₂
 | _,_,.nil,_=>.nil
 | _,_,.cons r t,f=>.cons (f _ _ r) (Paired.j9a t f)
theorem b3k.stay(x:b3k P w H h a o)(k:∀ b u,(b=a\/H b=some (.own a))->h.get? b=some u->h'.get? b=some u)
  (ho:∀ b,H b=some (.own a)->H' b=some (.own a)) (ht:∀ b xs,H b=some (.tup xs)->H' b=some (.tup xs)):b3k P w H' h' a o:=by
 induction o with
 | lst xs=>obtain⟨z,its,n,r,e⟩:=x; exact⟨z,its,n,r,k _ _ (.inl rfl) e⟩
 | tup xs=>obtain⟨z,its,r,ob,e,c⟩:=x; exact⟨z,its,r,ob,k _ _ (.inl rfl) e,c⟩
 | dK kvs=>obtain⟨z,y,vs,r,ob,es,ep,e,c⟩:=x; exact⟨z,y,vs,r,ob,es,ep,k _ _ (.inl rfl) e,c⟩
 | dT kvs =>
  obtain⟨z,y,xs,r,ob,es,ep,e,c⟩:=x
  exact⟨z,y,xs,Paired.j9a r fun p q z=>⟨z.1,ht _ _ z.2.1,z.2.2⟩,ob,es,ep,k _ _ (.inl rfl) e,c⟩
 | set S n=>obtain⟨ob,es,ep,t,e,c⟩:=x; exact⟨ob,es,ep,t,k _ _ (.inl rfl) e,c⟩
 | ins C dx fs =>
  obtain⟨d,z,ne,e,mA,⟨od,es,ep,e2,c⟩,r⟩:=x
  exact⟨ho _ d,z,ne,k _ _ (.inl rfl) e,mA,⟨od,es,ep,k _ _ (.inr d) e2,c⟩,r⟩
 | own y=>obtain⟨ob,e⟩:=x; exact⟨ob,k _ _ (.inl rfl) e⟩
 | xd fs=>obtain⟨mA,⟨od,es,ep,e,c⟩,r⟩:=x; exact⟨mA,⟨od,es,ep,k _ _ (.inl rfl) e,c⟩,r⟩
 | rng lo hi=>obtain⟨t,u,v,e⟩:=x; exact⟨t,u,v,k _ _ (.inl rfl) e⟩
 | frz ob u ih=>obtain⟨e,q⟩:=x; exact⟨k _ _ (.inl rfl) e,ih q⟩
 | tbl ps =>
  have e:h.get? a=some { cls:=.none,data:=.fields ps }:=x
  show h'.get? a=some { cls:=.none,data:=.fields ps }
  exact k a _ (.inl rfl) e
 | met f y =>
  have e:h.get? a=some (Pi (.ref f) (.ref y)):=x
  show h'.get? a=some (Pi (.ref f) (.ref y))
  exact k a _ (.inl rfl) e
 | ext φ=>obtain⟨p,⟨o,e⟩,st⟩:=x; exact⟨st _ _ p fun o q=>k _ _ (.inl rfl) q,⟨o,k _ _ (.inl rfl) e⟩,st⟩
theorem HOk.lt(x:HOk P w H h)(e:H a=some o):a < h.objs.size:=(x a o e).lt
theorem HOk.fresh(x:HOk P w H h)(e:h.objs.size<=a):H a=none:=by
 cases q:H a with
 | none=>rfl
 | some u=>exact absurd (Cr (x.lt q) e) (Fk _)
theorem HOk.kept(x:HOk P w H h)(k:∀ b u,h.get? b=some u->h'.get? b=some u):HOk P w H h':=fun a o e =>
 (x a o e).stay (fun b u _ q=>k b u q) (fun _ q=>q) fun _ _ q=>q
theorem HOk.laid(x:HOk P w H h)(k:∀ b u,h.get? b=some u->h'.get? b=some u)(hp:h.objs.size<=a)(new:b3k P w (upd H a o) h' a o):HOk P w (upd H a o) h':=fun b u e=>by
 have hn:=x.fresh hp
 by_cases hb:b=a
 .subst hb; rw [a2v] at e; cases e; exact new
 .rw [a3w hb] at e
  exact (x b u e).stay (fun c v _ q=>k c v q) (fun c q=>by rw [a3w (a5u q hn)]; exact q) fun c xs q=>by rw [a3w (a5u q hn)]; exact q
end
def Rd(H:Hp)(a:Addr)(u:HO):Prop:=H a=some u\/∃ o,H a=some (.frz o u)
theorem Rd.ok{P:Dc}{w:E2}{H:Hp}{h:Heap}{a:Addr}{u:HO}(r:Rd H a u)(x:HOk P w H h):b3k P w H h a u:=by
 rcases r with r | ⟨o,r⟩
 .exact x a u r
 .obtain⟨_,q⟩:=x a _ r
  exact q
noncomputable def Mut:Option HO->Prop
 | some (.lst _)=>True
 | some (.dK _)=>True
 | some (.dT _)=>True
 | some (.set _ _)=>True
 | some (.ins _ _ _)=>True
 | some (.ext _)=>True
 | _=>False
section
variable {P:Dc}{w:E2}{H:Hp}{h h':Heap}{x e:Addr}{o':HO}
theorem HOk.write(ok:HOk P w H h)(mu:Mut (H x))(he:e=x\/H e=some (.own x))(k:∀ b u,b≠e->h.get? b=some u->h'.get? b=some u)(heo:∃ u,h'.get? e=some u)
  (new:b3k P w (upd H x o') h' x o'):HOk P w (upd H x o') h':=fun b u q=>by
 have k3c:∀ c y,H c=some (.own y)->c≠x:=fun c y r z=>by subst z; rw [r] at mu; exact mu
 have ntup:∀ c xs,H c=some (.tup xs)->c≠x:=fun c xs r z=>by subst z; rw [r] at mu; exact mu
 by_cases hb:b=x
 .subst hb; rw [a2v] at q; cases q; exact new
 .rw [a3w hb] at q
  by_cases hbe:b=e
  .have q':H b=some (.own x):=by
    rcases he with z | z
    .exact absurd (hbe.trans z) hb
    .rw [hbe]; exact z
   rw [q] at q'; cases q'
   obtain⟨v,hv⟩:=heo
   exact⟨v,by rw [hbe]; exact hv⟩
  .refine (ok b u q).stay (fun c v hc r=>k c v ?_ r) (fun c r=>by rw [a3w (k3c c b r)]; exact r) fun c xs r=>by rw [a3w (ntup c xs r)]; exact r
   rcases hc with rfl | hc
   .exact hbe
   .rintro rfl
    rcases he with z | z
    .exact k3c c b hc z
    .rw [hc] at z; cases z; exact hb rfl
end
structure Un(fs ex:List Addr)(H H':Hp)(h h':Heap):Prop where
 keep:∀ b o,h.get? b=some o->H b=none->b∉fs->b∉ex->h'.get? b=some o
 slot:∀ b o,h.get? b=some o->H b=none->b∈fs->b∉ex->∃ sl,h'.get? b=some { o with slots:=sl }
 free:∀ b o,h.get? b=some o->H b=none->b∉ex->H' b=none
 there:∀ b o,h.get? b=some o->b∉ex->∃ o',h'.get? b=some o'
 tups:∀ b xs,H b=some (.tup xs)->H' b=some (.tup xs)
 g6m:∀ b o u,H b=some (.frz o u)->H' b=some (.frz o u)
 g9i:∀ b ps,H b=some (.tbl ps)->∃ more,H' b=some (.tbl (ps++more))
section
variable {fs fs' ex ex':List Addr}{H H1 H2:Hp}{h h1 h2 h':Heap}{a x e:Addr}{o:HO}
theorem Un.any(u:Un fs ex H H1 h h1){b:Addr}{ob:Obj}(q:h.get? b=some ob)(n:H b=none)(hx:b∉ex):∃ sl,h1.get? b=some { ob with slots:=sl }:=by
 by_cases hb:b∈fs
 .exact u.slot b ob q n hb hx
 .exact⟨ob.slots,u.keep b ob q n hb hx⟩
theorem Un.trans(a:Un fs ex H H1 h h1)(b:Un fs ex H1 H2 h1 h2):Un fs ex H H2 h h2 where
 keep:=fun c ob q n hc hx=>b.keep c ob (a.keep c ob q n hc hx) (a.free c ob q n hx) hc hx
 slot:=fun c ob q n hc hx=>by
  obtain⟨sl,e1⟩:=a.slot c ob q n hc hx
  obtain⟨sl',e2⟩:=b.slot c _ e1 (a.free c ob q n hx) hc hx
  exact⟨sl',e2⟩
 free:=fun c ob q n hx=>by
  obtain⟨o',e1⟩:=a.there c ob q hx
  exact b.free c o' e1 (a.free c ob q n hx) hx
 there:=fun c ob q hx=>by
  obtain⟨o',e1⟩:=a.there c ob q hx
  exact b.there c o' e1 hx
 tups:=fun c xs q=>b.tups c xs (a.tups c xs q)
 g6m:=fun c ob xs q=>b.g6m c ob xs (a.g6m c ob xs q)
 g9i:=fun c ps q=>by
  obtain⟨m1,e1⟩:=a.g9i c ps q
  obtain⟨m2,e2⟩:=b.g9i c _ e1
  exact⟨m1++m2,by rw [e2,Oj]⟩
theorem Un.kept(k:∀ b u,h.get? b=some u->h'.get? b=some u):Un fs ex H H h h' :=
 ⟨fun b ob q _ _ _=>k b ob q,fun b ob q _ _ _=>⟨ob.slots,k b ob q⟩,fun _ _ _ n _=>n,fun b ob q _=>⟨ob,k b ob q⟩,fun _ _ q=>q,fun _ _ _ q=>q,fun _ ps q=>⟨#[],by rw [q]; simp⟩⟩
theorem Un.refl:Un fs ex H H h h:=Un.kept fun _ _ q=>q
theorem Un.laid(k:∀ b u,h.get? b=some u->h'.get? b=some u)(hp:h.objs.size<=a)(hn:H a=none):Un fs ex H (upd H a o) h h' where
 keep:=fun b u q _ _ _=>k b u q
 slot:=fun b u q _ _ _=>⟨u.slots,k b u q⟩
 free:=fun b u q n _=>by rw [a3w (D2 (Cr (Cc q) hp))]; exact n
 there:=fun b u q _=>⟨u,k b u q⟩
 tups:=fun b xs q=>by rw [a3w (a5u q hn)]; exact q
 g6m:=fun b u xs q=>by rw [a3w (a5u q hn)]; exact q
 g9i:=fun b ps q=>⟨#[],by rw [a3w (a5u q hn),q]; simp⟩
theorem Un.write(mu:Mut (H x))(he:e=x\/H e=some (.own x))(k:∀ b u,b≠e->h.get? b=some u->h'.get? b=some u)(heo:∃ u,h'.get? e=some u):Un fs ex H (upd H x o) h h':=by
 have hx:∀ b,H b=none->b≠x:=fun b n z=>by subst z; rw [n] at mu; exact mu
 have hb:∀ b,H b=none->b≠e:=fun b n z=>by
  subst z
  rcases he with r | r
  .exact hx b n r
  .rw [n] at r; cases r
 have hm:∀ b u,H b=some u->¬ Mut (some u)->b≠x:=fun b u q nm z=>by subst z; rw [q] at mu; exact nm mu
 refine⟨fun b u q n _ _=>k b u (hb b n) q,fun b u q n _ _=>⟨u.slots,k b u (hb b n) q⟩,fun b u q n _=>by rw [a3w (hx b n)]; exact n,fun b u q _=>?_,
  fun b xs q=>by rw [a3w (hm b _ q fun z=>z)]; exact q,fun b u xs q=>by rw [a3w (hm b _ q fun z=>z)]; exact q,fun b ps q=>⟨#[],by rw [a3w (hm b _ q fun z=>z),q]; simp⟩⟩
 by_cases hbe:b=e
 .subst hbe; exact heo
 .exact⟨u,k b u hbe q⟩
end
noncomputable def trk(h:Heap)(H:Hp):List Addr:=(Cz h.objs.size).filter fun a=>(H a).isSome
noncomputable def i0r(h:Heap)(H:Hp):Heap:=W.hideAll h (trk h H)
theorem h4m(h:Heap)(H:Hp):(i0r h H).objs.size=h.objs.size:=W.hideAll_size _ _
theorem i0s{h:Heap}{b:Addr}{o:Obj}(e:h.get? b=some o)(n:H b=none):(i0r h H).get? b=some o :=
 W.hideAll_get _ e fun hm=>by
  have q:(H b).isSome=true:=(Fy.mp hm).2
  rw [n] at q; simp at q
theorem i6c{h:Heap}{b:Addr}{o:Obj}(e:(i0r h H).get? b=some o):h.get? b=some o/\H b=none:=by
 have e':h.get? b=some o:=W.of_hideAll (trk h H) e
 refine⟨e',?_⟩
 cases q:H b with
 | none=>rfl
 | some x =>
  have hm:b∈trk h H:=Fy.mpr ⟨Qo.mpr (Cc e'),by simp [q]⟩
  have z:(i0r h H).get? b=none:=W.hideAll_none (trk h H) hm
  rw [z] at e; cases e
noncomputable def i6d(g h:Heap)(L:Addr):List (Addr×Obj):=(Cz h.objs.size).filterMap fun a=>if a=L\/(g.get? a).isSome=true then none else (h.get? a).map fun o=>(a,o)
noncomputable def rest(g h:Heap)(L d:Addr):List (Addr×Obj):=(i6d g h L).filter fun p=>decide (p.1≠d)
structure Mod(K:Bw)(mg:Str->Option Br)(base:Heap):Prop where
 kin:K.In base
 glob:base.Ns C2 mg
 blt:∃ mb,base.Ns Qz mb/\∀ x:Str,x≠"__name__"->mb x=Ho x
 nolimit:base.NoLimit
structure Cx where
 prog:Dc
 w:E2
 K:Bw
 mg:Str->Option Br
 base:Heap
 A:Ds
 N:List Str
 s₀:Bx
 H₀:Hp
 env:Env
 outer:List Env
 stack:List Env
 ex:List Addr
 fn:Str->Bool
 calm:Bool
 pn:List (Addr×Obj)
 xe:Br->Bx->Prop
noncomputable def frs(l:List Env):List Addr:=l.filterMap (·.frame)
noncomputable abbrev Cx.fs(X:Cx):List Addr:=frs X.outer
def Vis(sc:Fg)(x:Str):Prop:=sc.names.lookup x=some .local\/sc.names.lookup x=some .cell\/sc.names.lookup x=some .free
def Loc(sc:Fg)(x:Str):Prop:=sc.names.lookup x=some .local\/sc.names.lookup x=some .cell
def Look(env:Env)(h:Heap)(m:Str->Option Br)(x:Str)(u:Br):Prop :=
 (env.kindOf x=some .local/\m x=some u)\/((env.kindOf x=some .cell\/env.kindOf x=some .free)/\∃ c,env.cells.lookup x=some c/\h.IsCell c (some u))
structure Cx.Ok(X:Cx):Prop where
 mod:Mod X.K X.mg X.base
 kind:X.env.scope.kind = .function
 glob:X.env.globals=C2
 blt:X.env.builtins=Qz
 above:X.s₀.heap.objs.size<=X.env.locals
 inj:∀ x y c,X.env.cells.lookup x=some c->X.env.cells.lookup y=some c->x=y
 has:∀ x,(X.env.kindOf x=some .cell\/X.env.kindOf x=some .free)->∃ c,X.env.cells.lookup x=some c
 cab:∀ x c,X.fn x=true->X.env.cells.lookup x=some c->X.s₀.heap.objs.size<=c
 hd:X.calm=true->X.A.handled=none
 frames:X.A.frames=some X.stack
 stk:X.stack=X.outer\/(X.stack=X.env :: X.outer/\X.env.frame=some X.env.locals)
 exf:∀ b∈X.ex,b≠X.env.locals/\∀ x c,X.env.cells.lookup x=some c->c≠b
 bs:∀ b o,X.base.get? b=some o->X.s₀.heap.get? b=some o/\X.H₀ b=none
 bsz:X.base.objs.size<=X.s₀.heap.objs.size
 j0u:∀ b o,X.base.get? b=some o->b∉X.ex
 j8i:∀ b∈X.ex,b∉X.fs
 h4f:X.s₀.heap.FunFrames X.base X.outer
 frf:∀ b∈X.fs,X.H₀ b=none
structure Inv(X:Cx)(pins:List (Addr×Obj))(O:List (Option V))(H:Hp)(s:Bx):Prop where
 ok:X.Ok
 os:s.os=X.s₀.os
 bare:Ji s.gens
 base:Un X.fs X.ex X.H₀ H X.s₀.heap s.heap
 loc:∃ m,s.heap.Ns X.env.locals m/\∀ (i:Nat) (x:Str) (v:V),X.N[i]? = some x->O[i]? = some (some v)->Vis X.env.scope x->∃ u,RelV v u/\Look X.env s.heap m x u
 cell:∀ x c,X.env.cells.lookup x=some c->∃ v,s.heap.IsCell c v
 free:H X.env.locals=none
 f0u:∀ x c,X.env.cells.lookup x=some c->H c=none
 pin:∀ p∈X.pn++pins,s.heap.get? p.1=some p.2/\H p.1=none/\p.1≠X.env.locals/\p.1∉X.fs/\∀ v,p.2.data≠.cell v
 hok:HOk X.prog X.w H s.heap
 len:O.length=X.N.length
variable {g':Array Nl}{ch:List Addr}{it:Addr}{i:Nat}{M:Model}{E:Br->Bx->Prop}{v:V}{u:Br}{s':Bx}
section
variable {X:Cx}{pins:List (Addr×Obj)}{O:List (Option V)}{H H':Hp}{s:Bx}{h':Heap}
theorem Cx.Ok.nofr(ok:X.Ok){b:Addr}{o:Obj}(e:X.base.get? b=some o):b∉X.fs:=fun hb=>by
 have:=(ok.h4f.mem hb).1
 rw [e] at this; cases this
theorem Inv.bs(I:Inv X pins O H s):∀ b o,X.base.get? b=some o->s.heap.get? b=some o/\H b=none:=fun b o e =>
 ⟨I.base.keep b o (I.ok.bs b o e).1 (I.ok.bs b o e).2 (I.ok.nofr e) (I.ok.j0u b o e),I.base.free b o (I.ok.bs b o e).1 (I.ok.bs b o e).2 (I.ok.j0u b o e)⟩
theorem Inv.bk(I:Inv X pins O H s):∀ b o,X.base.get? b=some o->s.heap.get? b=some o:=fun b o e=>(I.bs b o e).1
theorem Inv.mod(I:Inv X pins O H s):Mod X.K X.mg X.base:=I.ok.mod
theorem Inv.kIn(I:Inv X pins O H s):X.K.In s.heap:=I.ok.mod.kin.keeps I.bk
theorem Inv.lt(I:Inv X pins O H s):X.env.locals < s.heap.objs.size:=let ⟨_,hn,_⟩:=I.loc; hn.lt
theorem Inv.sz(I:Inv X pins O H s):X.s₀.heap.objs.size<=s.heap.objs.size:=Bz I.ok.above (Jl I.lt)
theorem Inv.nofs(I:Inv X pins O H s){a:Addr}(h:s.heap.objs.size<=a):a∉X.fs:=fun hb=>by
 obtain⟨_,o,ho,_⟩:=I.ok.h4f.mem hb
 exact absurd (Cr (Cc ho) (Bz I.sz h)) (Fk _)
theorem Inv.cne(I:Inv X pins O H s):∀ x c,X.env.cells.lookup x=some c->c≠X.env.locals:=fun x c e z=>by
 obtain⟨v,o,ho,hd⟩:=I.cell x c e
 obtain⟨m,⟨o',es,ep,ho',hd',_⟩,_⟩:=I.loc
 rw [z,ho'] at ho; cases ho; rw [hd'] at hd; cases hd
theorem Inv.h4f(I:Inv X pins O H s):s.heap.FunFrames X.base X.outer:=by
 have all:∀ (l:List Env),(∀ b∈frs l,b∈X.fs)->X.s₀.heap.FunFrames X.base l->s.heap.FunFrames X.base l:=by
  intro l
  induction l with
  | nil=>intro _ _; trivial
  | cons env r ih =>
   intro hs hl
   obtain⟨hk,⟨L,o,hf,hn,ho,hd⟩,hr⟩:=hl
   have hL:L∈X.fs:=hs L (by unfold frs; rw [K4,hf]; exact Ce)
   obtain⟨sl,e⟩:=I.base.slot L o ho (I.ok.frf L hL) hL fun z=>I.ok.j8i L z hL
   exact⟨hk,⟨L,_,hf,hn,e,hd⟩,ih (fun b hb=>hs b (by unfold frs; rw [K4,hf]; exact Ci _ hb)) hr⟩
 exact all X.outer (fun _ hb=>hb) I.ok.h4f
theorem Inv.stack(I:Inv X pins O H s):s.heap.FunFrames X.base X.stack:=by
 rcases I.ok.stk with e | ⟨e,hf⟩
 .rw [e]; exact I.h4f
 .rw [e]
  obtain⟨m,hn,_⟩:=I.loc
  refine .cons (by rw [I.ok.kind]; decide) hf hn ?_ I.h4f
  exact Heap.get?_none_of_le (Bz I.ok.bsz I.ok.above)
theorem Inv.f7t(I:Inv X pins O H s):∀ b∈frs X.stack,b∈X.env.locals :: X.fs:=fun b hb=>by
 rcases I.ok.stk with e | ⟨e,hf⟩
 .rw [e] at hb; exact Ci _ hb
 .rw [e] at hb
  unfold frs at hb
  rw [K4,hf] at hb
  exact hb
theorem Inv.g6n(I:Inv X pins O H s):∀ b∈frs X.stack,H b=none:=fun b hb=>by
 rcases Db.mp (I.f7t b hb) with e | hb
 .rw [e]; exact I.free
 .obtain⟨_,o,ho,_⟩:=I.ok.h4f.mem hb
  exact I.base.free b o ho (I.ok.frf b hb) fun z=>I.ok.j8i b z hb
theorem Inv.step{t':Nat}{d':Rw}(I:Inv X pins O H s)
  (hch:∀ b∈ch,(b∈X.ex\/X.s₀.heap.objs.size<=b)/\b≠X.env.locals/\(∀ x c,X.env.cells.lookup x=some c->c≠b)/\∀ p∈X.pn++pins,p.1≠b)
  (keep:∀ b o,b≠X.env.locals->b∉X.fs->b∉ch->s.heap.get? b=some o->H b=none->h'.get? b=some o)
  (slot:∀ b o,b≠X.env.locals->b∈X.fs->b∉ch->s.heap.get? b=some o->H b=none->∃ sl,h'.get? b=some { o with slots:=sl }) (free:∀ b o,b∉ch->s.heap.get? b=some o->H b=none->H' b=none)
  (there:∀ b o,b∉ch->s.heap.get? b=some o->∃ o',h'.get? b=some o')
  (tups:∀ b xs,H b=some (.tup xs)->H' b=some (.tup xs)) (g6m:∀ b o u,H b=some (.frz o u)->H' b=some (.frz o u)) (g9i:∀ b ps,H b=some (.tbl ps)->∃ more,H' b=some (.tbl (ps++more)))
  (ns:∀ m,s.heap.Ns X.env.locals m->h'.Ns X.env.locals m) (hok:HOk X.prog X.w H' h') (hg:Ji g') :
  Inv X pins O H' { s with heap:=h',gens:=g',drawn:=d',toks:=t' }:=by
 have neL:∀ b o,X.s₀.heap.get? b=some o->b≠X.env.locals:=fun b o e=>D2 (Cr (Cc e) I.ok.above)
 have neC:∀ b o,X.s₀.heap.get? b=some o->b∉X.ex->b∉ch:=fun b o e hx hb=>by
  rcases (hch b hb).1 with z | z
  .exact hx z
  .exact absurd (Cr (Cc e) z) (Fk _)
 have cellK:∀ x c,X.env.cells.lookup x=some c->∀ v,s.heap.IsCell c v->h'.IsCell c v:=fun x c e v ⟨o,ho,hd⟩=>by
  have nch:c∉ch:=fun z=>(hch c z).2.2.1 x c e rfl
  by_cases hc:c∈X.fs
  .obtain⟨sl,q⟩:=slot c o (I.cne x c e) hc nch ho (I.f0u x c e)
   exact⟨_,q,hd⟩
  .exact⟨o,keep c o (I.cne x c e) hc nch ho (I.f0u x c e),hd⟩
 refine⟨I.ok,I.os,hg,⟨fun b o e n hb hx=>?_,fun b o e n hb hx=>?_,fun b o e n hx=>?_,fun b o e hx=>?_,fun b xs e=>tups b xs (I.base.tups b xs e),fun b o xs e=>g6m b o xs (I.base.g6m b o xs e),fun b ps e=>?_⟩,?_,fun x c e=>?_,?_,fun x c e=>?_,fun p hp=>?_,hok,I.len⟩
 .exact keep b o (neL b o e) hb (neC b o e hx) (I.base.keep b o e n hb hx) (I.base.free b o e n hx)
 .obtain⟨sl,e1⟩:=I.base.slot b o e n hb hx
  obtain⟨sl',e2⟩:=slot b _ (neL b o e) hb (neC b o e hx) e1 (I.base.free b o e n hx)
  exact⟨sl',e2⟩
 .obtain⟨o',e1⟩:=I.base.there b o e hx
  exact free b o' (neC b o e hx) e1 (I.base.free b o e n hx)
 .obtain⟨o',e1⟩:=I.base.there b o e hx
  exact there b o' (neC b o e hx) e1
 .obtain⟨m1,e1⟩:=I.base.g9i b ps e
  obtain⟨m2,e2⟩:=g9i b _ e1
  exact⟨m1++m2,by rw [e2,Oj]⟩
 .obtain⟨m,hn,hl⟩:=I.loc
  refine⟨m,ns m hn,fun i x v e1 e2 e3=>?_⟩
  obtain⟨u,r,l⟩:=hl i x v e1 e2 e3
  refine⟨u,r,?_⟩
  rcases l with l | ⟨k,c,e,z⟩
  .exact .inl l
  .exact .inr ⟨k,c,e,cellK x c e _ z⟩
 .obtain⟨v,z⟩:=I.cell x c e
  exact⟨v,cellK x c e v z⟩
 .obtain⟨m,⟨o,_,_,ho,_⟩,_⟩:=I.loc
  exact free _ o (fun z=>(hch _ z).2.1 rfl) ho I.free
 .obtain⟨v,o,ho,hd⟩:=I.cell x c e
  exact free c o (fun z=>(hch c z).2.2.1 x c e rfl) ho (I.f0u x c e)
 .obtain⟨e,n,ne,nf,d⟩:=I.pin p hp
  have nch:p.1∉ch:=fun z=>(hch p.1 z).2.2.2 p hp rfl
  exact⟨keep p.1 p.2 ne nf nch e n,free p.1 p.2 nch e n,ne,nf,d⟩
theorem Inv.un{t':Nat}(I:Inv X pins O H s)(u:Un X.fs [] H H' s.heap h')(hok:HOk X.prog X.w H' h'):Inv X pins O H' { s with heap:=h',toks:=t' }:=by
 obtain⟨m,⟨o,es,ep,ho,r⟩,_⟩:=id I.loc
 obtain⟨sl,hL⟩:=u.any ho I.free (by simp)
 exact I.step (g':=s.gens) (d':=s.drawn) (ch:=[]) (fun _ z=>nomatch z) (fun b o _ hb _ e n=>u.keep b o e n hb (by simp)) (fun b o _ hb _ e n=>u.slot b o e n hb (by simp)) (fun b o _ e n=>u.free b o e n (by simp)) (fun b o _ e=>u.there b o e (by simp)) u.tups u.g6m u.g9i (fun m' hm=>by
  obtain⟨o',es',ep',ho',r'⟩:=hm
  rw [ho] at ho'; cases ho'
  exact⟨_,es',ep',hL,r'⟩) hok I.bare
theorem Inv.call{t':Nat}{d':Rw}(I:Inv X pins O H s)(u:Un (frs X.stack) ch H H' s.heap h')(hok:HOk X.prog X.w H' h')(hg:Ji g')
  (hch:∀ b∈ch,(b∈X.ex\/X.s₀.heap.objs.size<=b)/\b≠X.env.locals/\(∀ x c,X.env.cells.lookup x=some c->c≠b)/\∀ p∈X.pn++pins,p.1≠b) :
  Inv X pins O H' { s with heap:=h',gens:=g',drawn:=d',toks:=t' }:=by
 obtain⟨m,⟨o,es,ep,ho,r⟩,_⟩:=id I.loc
 obtain⟨sl,hL⟩:=u.any ho I.free fun z=>(hch _ z).2.1 rfl
 exact I.step (ch:=ch) hch (fun b o hL hb hc e n=>u.keep b o e n (fun z=>(Db.mp (I.f7t b z)).elim hL hb) hc) (fun b o _ _ hc e n=>u.any e n hc) (fun b o hc e n=>u.free b o e n hc) (fun b o hc e=>u.there b o e hc) u.tups u.g6m u.g9i (fun m' hm=>by
  obtain⟨o',es',ep',ho',r'⟩:=hm
  rw [ho] at ho'; cases ho'
  exact⟨_,es',ep',hL,r'⟩) hok hg
theorem Inv.turned{t':Nat}(I:Inv X pins O H s)(k:∀ b o,b≠it->s.heap.get? b=some o->h'.get? b=some o)(hn:H it=none)(hL:it≠X.env.locals)
  (h1:it∈X.ex\/X.s₀.heap.objs.size<=it) (h2:∀ x c,X.env.cells.lookup x=some c->c≠it) (h3:∀ p∈X.pn++pins,p.1≠it):Inv X pins O H { s with heap:=h',toks:=t' }:=by
 have nit:∀ b u,H b=some u->b≠it:=fun b u e z=>by rw [z,hn] at e; cases e
 refine I.step (g':=s.gens) (d':=s.drawn) (ch:=[it]) (fun b hb=>?_) (fun b o _ _ hc e _=>k b o (fun z=>hc (by simp [z])) e) (fun b o _ _ hc e _=>⟨o.slots,k b o (fun z=>hc (by simp [z])) e⟩) (fun _ _ _ _ n=>n)
  (fun b o hc e=>⟨o,k b o (fun z=>hc (by simp [z])) e⟩) (fun _ _ e=>e) (fun _ _ _ e=>e) (fun b ps e=>⟨#[],by rw [e]; simp⟩) (fun m hm=>?_) (fun b u e=>?_) I.bare
 .have e:b=it:=by simpa using hb
  subst e
  exact⟨h1,hL,h2,h3⟩
 .obtain⟨o,es,ep,ho,r⟩:=hm
  exact⟨o,es,ep,k _ o (Hk hL) ho,r⟩
 .refine (I.hok b u e).stay (fun c v hc q=>k c v ?_ q) (fun _ q=>q) fun _ _ q=>q
  rcases hc with z | z
  .rw [z]; exact nit b u e
  .exact nit c _ z
theorem Inv.tok(I:Inv X pins O H s)(t:Nat):Inv X pins O H { s with toks:=t }:=I.un (h':=s.heap) (t':=t) Un.refl I.hok
theorem Inv.kept{t':Nat}(I:Inv X pins O H s)(k:∀ b u,s.heap.get? b=some u->h'.get? b=some u):Inv X pins O H { s with heap:=h',toks:=t' }:=I.un (Un.kept k) (I.hok.kept k)
theorem Inv.laid{a:Addr}{t':Nat}(I:Inv X pins O H s)(k:∀ b u,s.heap.get? b=some u->h'.get? b=some u)(hp:s.heap.objs.size<=a)(new:b3k X.prog X.w (upd H a o) h' a o) :
  Inv X pins O (upd H a o) { s with heap:=h',toks:=t' }:=I.un (Un.laid k hp (I.hok.fresh hp)) (I.hok.laid k hp new)
theorem Inv.write{x e:Addr}{t':Nat}(I:Inv X pins O H s)(mu:Mut (H x))(he:e=x\/H e=some (.own x))(k:∀ b u,b≠e->s.heap.get? b=some u->h'.get? b=some u)(heo:∃ u,h'.get? e=some u)
  (new:b3k X.prog X.w (upd H x o) h' x o):Inv X pins O (upd H x o) { s with heap:=h',toks:=t' }:=I.un (Un.write mu he k heo) (I.hok.write mu he k heo new)
theorem Inv.h4n{pins':List (Addr×Obj)}(I:Inv X pins O H s)(h:∀ p∈pins',s.heap.get? p.1=some p.2/\H p.1=none/\p.1≠X.env.locals/\p.1∉X.fs/\∀ v,p.2.data≠.cell v):Inv X pins' O H s :=
 ⟨I.ok,I.os,I.bare,I.base,I.loc,I.cell,I.free,I.f0u,fun p hp=>(De.mp hp).elim (fun z=>I.pin p (Dp _ z)) (h p),I.hok,I.len⟩
theorem g9j{N:List Str}(hN:N.Nodup){j:Nat}{x:Str}(a:N[i]? = some x)(b:N[j]? = some x):i=j:=by
 obtain⟨h1,e1⟩:=Bu.mp a
 obtain⟨h2,e2⟩:=Bu.mp b
 exact (List.getElem_inj hN).mp (e1.trans e2.symm)
variable {Q:Unit->Bx->Prop}
theorem f1s{A:Ds}{x:Str}(I:Inv X pins O H s)(hN:X.N.Nodup)(hi:X.N[i]? = some x)(hx:Loc X.env.scope x)(r:RelV v u)
  (h:∀ s',Inv X pins (O.set i (some v)) H s'->(∃ a,E7 a s.heap s'.heap/\(a=X.env.locals\/X.env.cells.lookup x=some a))->Q () s') (hf:X.fn x=true\/X.env.scope.names.lookup x=some .local:=by first | exact .inl rfl | exact .inr rfl | assumption):Ch M A (storeName X.env x u) Q E s:=by
 obtain⟨m,hn,hl⟩:=id I.loc
 have hcls:(X.env.scope.kind == .class || (X.env.scope.kind == .module && X.env.locals != X.env.globals))=false:=by rw [I.ok.kind]; rfl
 have Av:i < O.length:=by rw [I.len]; exact (Bu.mp hi).1
 have cne:=I.cne
 have tracked:∀ {a:Addr} {h':Heap},(∃ o,s.heap.get? a=some o/\H a=none)->E7 a s.heap h'->HOk X.prog X.w H h':=fun {a h'} ha hs b ob e=>by
  obtain⟨_,_,hfree⟩:=ha
  refine (I.hok b ob e).stay (fun c w' hc q=>(hs.2 c ?_).trans q) (fun _ q=>q) fun _ _ q=>q
  rintro rfl
  rcases hc with rfl | hc
  .rw [hfree] at e; cases e
  .rw [hfree] at hc; cases hc
 rcases hx with hk | hk
 .refine wpAny_storeName_local hk hn (fun h' hn' hs=>?_) hcls
  obtain⟨oL,_,_,hoL,_⟩:=id hn
  refine h _ ⟨I.ok,I.os,I.bare,⟨fun b o e n hb hx=>?_,fun b o e n hb hx=>?_,I.base.free,fun b o e hx=>?_,I.base.tups,I.base.g6m,I.base.g9i⟩,⟨_,hn',fun j y v' e1 e2 e3=>?_⟩,fun y c e=>?_,I.free,I.f0u,fun p hp=>?_,tracked ⟨oL,hoL,I.free⟩ hs,by simpa using I.len⟩ ⟨_,hs,.inl rfl⟩
  .exact (hs.2 b (D2 (Cr (Cc e) I.ok.above))).trans (I.base.keep b o e n hb hx)
  .obtain⟨sl,e1⟩:=I.base.slot b o e n hb hx
   exact⟨sl,(hs.2 b (D2 (Cr (Cc e) I.ok.above))).trans e1⟩
  .obtain⟨o',e1⟩:=I.base.there b o e hx
   exact⟨o',(hs.2 b (D2 (Cr (Cc e) I.ok.above))).trans e1⟩
  .by_cases hj:j=i
   .subst hj
    rw [hi] at e1; cases e1
    rw [N7 Av] at e2
    cases e2
    exact⟨u,r,.inl ⟨hk,by simp⟩⟩
   .rw [O3 (Hk hj)] at e2
    obtain⟨u',r',q⟩:=hl j y v' e1 e2 e3
    refine⟨u',r',?_⟩
    rcases q with ⟨k,e⟩ | ⟨k,c,e,z⟩
    .refine .inl ⟨k,?_⟩
     have:y≠x:=fun e=>hj (g9j hN e1 (e▸hi))
     simp [this,e]
    .exact .inr ⟨k,c,e,z.sameBut hs (cne y c e)⟩
  .obtain⟨w',z⟩:=I.cell y c e
   exact⟨w',z.sameBut hs (cne y c e)⟩
  .obtain⟨e,n,ne,nf,d⟩:=I.pin p hp
   exact⟨(hs.2 p.1 ne).trans e,n,ne,nf,d⟩
 .have hfn:X.fn x=true:=by
   rcases hf with z | z
   .exact z
   .rw [z] at hk; cases hk
  obtain⟨c,hc⟩:=I.ok.has x (.inl hk)
  obtain⟨w',z⟩:=I.cell x c hc
  refine wpAny_storeName_cell I.ok.kind hk hc z (fun h' hc' hs=>?_)
  obtain⟨oc,hoc,hocd⟩:=id z
  refine h { s with heap:=h' } ⟨I.ok,I.os,I.bare,⟨fun b o e n hb hx=>?_,fun b o e n hb hx=>?_,I.base.free,fun b o e hx=>?_,I.base.tups,I.base.g6m,I.base.g9i⟩,⟨m,hn.sameBut hs (Hk (cne x c hc)),fun j y v' e1 e2 e3=>?_⟩,fun y c' e=>?_,I.free,I.f0u,fun p hp=>?_,tracked ⟨oc,hoc,I.f0u x c hc⟩ hs,by simpa using I.len⟩ ⟨c,hs,.inr hc⟩
  .exact (hs.2 b (D2 (Cr (Cc e) (I.ok.cab x c hfn hc)))).trans (I.base.keep b o e n hb hx)
  .obtain⟨sl,e1⟩:=I.base.slot b o e n hb hx
   exact⟨sl,(hs.2 b (D2 (Cr (Cc e) (I.ok.cab x c hfn hc)))).trans e1⟩
  .obtain⟨o',e1⟩:=I.base.there b o e hx
   exact⟨o',(hs.2 b (D2 (Cr (Cc e) (I.ok.cab x c hfn hc)))).trans e1⟩
  .by_cases hj:j=i
   .subst hj
    rw [hi] at e1; cases e1
    rw [N7 Av] at e2
    cases e2
    exact⟨u,r,.inr ⟨.inl hk,c,hc,hc'⟩⟩
   .rw [O3 (Hk hj)] at e2
    obtain⟨u',r',q⟩:=hl j y v' e1 e2 e3
    refine⟨u',r',?_⟩
    rcases q with q | ⟨k,c',e,z'⟩
    .exact .inl q
    .refine .inr ⟨k,c',e,z'.sameBut hs ?_⟩
     rintro rfl
     exact hj (g9j hN e1 (I.ok.inj _ _ _ e hc▸hi))
  .by_cases hcc:c'=c
   .subst hcc; exact⟨_,hc'⟩
   .obtain⟨w2,z2⟩:=I.cell y c' e
    exact⟨w2,z2.sameBut hs hcc⟩
  .obtain⟨e,n,ne,nf,d⟩:=I.pin p hp
   refine⟨(hs.2 p.1 ?_).trans e,n,ne,nf,d⟩
   intro q
   rw [q,hoc] at e
   have q':oc=p.2:=E8 e
   exact d w' (by rw [<- q']; exact hocd)
theorem f9l{A:Ds}{x:Str}(I:Inv X pins O H s)(hN:X.N.Nodup)(hi:X.N[i]? = some x)(hx:Loc X.env.scope x)(r:RelV v u)
  (h:∀ s',Inv X pins (O.set i (some v)) H s'->Q () s') (hf:X.fn x=true\/X.env.scope.names.lookup x=some .local:=by first | exact .inl rfl | exact .inr rfl | assumption):Ch M A (storeName X.env x u) Q E s :=
 f1s I hN hi hx r (fun s' I' _=>h s' I') hf
theorem Inv.call'(I:Inv X pins O H s)(ho:s'.os=s.os)(u:Un (frs X.stack) ch H H' s.heap s'.heap)(hok:HOk X.prog X.w H' s'.heap)(hg:Ji s'.gens)
  (hch:∀ b∈ch,(b∈X.ex\/X.s₀.heap.objs.size<=b)/\b≠X.env.locals/\(∀ x c,X.env.cells.lookup x=some c->c≠b)/\∀ p∈X.pn++pins,p.1≠b):Inv X pins O H' s':=by
 obtain⟨h',g',d',t',o'⟩:=s'
 have e:o'=s.os:=ho
 subst e
 exact I.call (g':=g') (t':=t') (d':=d') u hok hg hch
end
noncomputable abbrev XK:=Br->Option Addr->Hp->Prop
noncomputable abbrev St:=List (Option V)
noncomputable abbrev VK:=V->Hp->Prop
noncomputable abbrev TE:=St->Hp->VK->Prop
noncomputable abbrev TT:=St->Hp->(Bool->Hp->Prop)->Prop
noncomputable abbrev TA:=St->Hp->(List V->Hp->Prop)->Prop
structure Ends where
 nx:St->Hp->Prop
 rt:VK
 bk:St->Hp->Prop:=fun _ _=>False
 ct:St->Hp->Prop:=fun _ _=>False
noncomputable abbrev TS:=Ends->St->Hp->Prop
def EP(X:Cx)(pins:List (Addr×Obj))(O:St)(Q:VK)(u:Br)(s':Bx):Prop:=∃ v H',Inv X pins O H' s'/\RelV v u/\Q v H'
def TP(X:Cx)(pins:List (Addr×Obj))(O:St)(Q:Bool->Hp->Prop)(b:Bool)(s':Bx):Prop:=∃ H',Inv X pins O H' s'/\Q b H'
def AP(X:Cx)(pins:List (Addr×Obj))(O:St)(Q:List V->Hp->Prop)(us:List Br)(s':Bx):Prop:=∃ vs H',Inv X pins O H' s'/\Vals vs us/\Q vs H'
def SP(X:Cx)(pins:List (Addr×Obj))(D:Ends)(f:Flow)(s':Bx):Prop :=
 match f with
 | .next=>∃ Aa H',Inv X pins Aa H' s'/\D.nx Aa H'
 | .brk=>∃ Aa H',Inv X pins Aa H' s'/\D.bk Aa H'
 | .cont=>∃ Aa H',Inv X pins Aa H' s'/\D.ct Aa H'
 | .ret u=>∃ v Aa H',Inv X pins Aa H' s'/\RelV v u/\D.rt v H'
def PE(X:Cx)(e:Expr)(t:TE):Prop :=
 ∀ (pins:List (Addr×Obj)) (s:Bx) (O:St) (H:Hp) (Q:VK),Inv X pins O H s->t O H Q->Ch (model X.prog X.w) X.A (eval e X.env) (EP X pins O Q) X.xe s
def PT(X:Cx)(e:Expr)(t:TT):Prop :=
 ∀ (pins:List (Addr×Obj)) (s:Bx) (O:St) (H:Hp) (Q:Bool->Hp->Prop),Inv X pins O H s->t O H Q->Ch (model X.prog X.w) X.A (Qy e X.env (eval e X.env)) (TP X pins O Q) X.xe s
def PW(X:Cx)(e:Expr)(t:TT):Prop :=
 ∀ (whole:Sem Br) (pins:List (Addr×Obj)) (s:Bx) (O:St) (H:Hp) (Q:Bool->Hp->Prop),Inv X pins O H s->t O H Q->Ch (model X.prog X.w) X.A (Qy e X.env whole) (TP X pins O Q) X.xe s
variable {X:Cx}{e:Expr}
theorem PW.pt{t:TT}(h:PW X e t):PT X e t:=h _
def PA(X:Cx)(es:List Expr)(t:TA):Prop :=
 ∀ (pos:Pos) (pins:List (Addr×Obj)) (s:Bx) (O:St) (H:Hp) (Q:List V->Hp->Prop),Inv X pins O H s->t O H Q->Ch (model X.prog X.w) X.A (spliced (Ew pos (Cs es X.env))) (AP X pins O Q) X.xe s
def PS(X:Cx)(st:Stmt)(t:TS):Prop :=
 ∀ (pins:List (Addr×Obj)) (s:Bx) (O:St) (H:Hp) (D:Ends),Inv X pins O H s->t D O H->Ch (model X.prog X.w) X.A (exec st X.env) (SP X pins D) X.xe s
def PSs(X:Cx)(st:List Stmt)(t:TS):Prop :=
 ∀ (pins:List (Addr×Obj)) (s:Bx) (O:St) (H:Hp) (D:Ends),Inv X pins O H s->t D O H->Ch (model X.prog X.w) X.A (execs st X.env) (SP X pins D) X.xe s
variable {A:Ds}
theorem thn{α:Type}{t:Sem α}{Q Q':α->Bx->Prop}{s:Bx}(h:Ch M A t Q E s)(hQ:∀ a s,Q a s->Q' a s):Ch M A t Q' E s:=Dv h hQ fun _ _ x=>x
variable {pins:List (Addr×Obj)}{O:St}
theorem c9u{t:Sem Br}{Q:VK}{Q':Br->Bx->Prop}{s:Bx}(h:Ch M A t (EP X pins O Q) E s)(k:∀ u s v H,Inv X pins O H s->RelV v u->Q v H->Q' u s):Ch M A t Q' E s:=by
 refine thn h fun u s z=>?_
 obtain⟨v,H,I,r,q⟩:=z
 exact k u s v H I r q
theorem h1j{t:Sem (List Br)}{Q:List V->Hp->Prop}{Q':List Br->Bx->Prop}{s:Bx}(h:Ch M A t (AP X pins O Q) E s)(k:∀ u s v H,Inv X pins O H s->Vals v u->Q v H->Q' u s):Ch M A t Q' E s:=by
 refine thn h fun u s z=>?_
 obtain⟨v,H,I,r,q⟩:=z
 exact k u s v H I r q
theorem j1n{t:Sem Bool}{Q:Bool->Hp->Prop}{Q':Bool->Bx->Prop}{s:Bx}(h:Ch M A t (TP X pins O Q) E s)(k:∀ u s H,Inv X pins O H s->Q u H->Q' u s):Ch M A t Q' E s:=by
 refine thn h fun u s z=>?_
 obtain⟨H,I,q⟩:=z
 exact k u s H I q
variable {pos:Pos}{op:CmpOp}
section
variable {X:Cx}
def tVar(i:Nat):TE:=fun O H Q=>∃ v,O[i]? = some (some v)/\Q v H
def tC(v:V):TE:=fun _ H Q=>Q v H
theorem j1o{x:Str}(hN:X.N[i]? = some x)(hv:Vis X.env.scope x)(hd:(x == ("__debug__":Str))=false:=by decide)(hcd:(x == ("__classdict__":Str))=false:=by decide):PE X (.Name x pos) (tVar i):=by
 intro pins s O H Q I h
 obtain⟨v,e,h⟩:=h
 obtain⟨m,hn,hl⟩:=I.loc
 obtain⟨u,r,l⟩:=hl i x v hN e hv
 have fin:EP X pins O Q u s:=⟨v,H,I,r,h⟩
 rcases l with ⟨hk,hm⟩ | ⟨hk,c,hc,hcell⟩
 .exact Qv (Q2 I.ok.kind hk hn hm fin) hd
 .rcases hk with hk | hk
  .exact Qv (Qj I.ok.kind hk hc hcell fin) hd
  .exact Qv (wpAny_loadName_free I.ok.kind hk hc hcell fin hcd) hd
theorem a0j{i j pos}:PE X (.Constant (.int i) j pos) (tC (.int i)):=fun _ _ _ H _ I h=>wpAny_Constant_int ⟨.int i,H,I.tok _,⟨_,rfl⟩,h⟩
theorem f0v{b j pos}:PE X (.Constant (.bool b) j pos) (tC (.bl b)):=fun _ _ _ H _ I h=>Constant_bool ⟨.bl b,H,I,rfl,h⟩
theorem h4o{j pos}:PE X (.Constant .none j pos) (tC .non):=fun _ _ _ H _ I h=>Constant_none ⟨.non,H,I,rfl,h⟩
theorem a2p{x j pos}:PE X (.Constant (.str x) j pos) (tC (.str x)):=fun _ _ _ H _ I h=>Calls.Constant_str ⟨.str x,H,I.tok _,⟨_,rfl⟩,h⟩
def Gl(X:Cx)(x:Str):Prop:=X.env.kindOf x=some .globalImplicit
variable {Q:Br->Bx->Prop}
theorem f9m{s:Bx}{x:Str}(I:Inv X pins O H s)(hg:Gl X x)(hm:X.mg x=some u)(h:Q u s)
  (hd:(x == ("__debug__":Str))=false:=by decide):Ch (model X.prog X.w) X.A (eval (.Name x pos) X.env) Q E s :=
 M0 I.ok.kind hg (Calls.loadGlobal_global (by rw [I.ok.glob]; exact I.mod.glob.keeps I.bk) hm h) hd
theorem f1t{s:Bx}{x:Str}(I:Inv X pins O H s)(hg:Gl X x)(hm:X.mg x=none)(hv:Ho x=some u)(h:Q u s)
  (hn:x≠"__name__":=by decide) (hd:(x == ("__debug__":Str))=false:=by decide):Ch (model X.prog X.w) X.A (eval (.Name x pos) X.env) Q E s:=by
 obtain⟨mb,h1,h2⟩:=I.mod.blt
 exact M0 I.ok.kind hg (Calls.loadGlobal_builtin (by rw [I.ok.glob]; exact I.mod.glob.keeps I.bk) hm (by rw [I.ok.blt]; exact h1.keeps I.bk) ((h2 x hn).trans hv) h) hd
theorem a6y{x:Str}(hg:Gl X x)(hm:X.mg x=some u)(r:RelV v u)(hd:(x == ("__debug__":Str))=false:=by decide):PE X (.Name x pos) (tC v) :=
 fun _ _ _ H _ I h=>f9m I hg hm ⟨v,H,I,r,h⟩ hd
theorem c9w{x:Str}(hg:Gl X x)(hm:X.mg x=none)(hv:Ho x=some u)(r:RelV v u)(hn:x≠"__name__":=by decide)(hd:(x == ("__debug__":Str))=false:=by decide):PE X (.Name x pos) (tC v) :=
 fun _ _ _ H _ I h=>f1t I hg hm hv ⟨v,H,I,r,h⟩ hn hd
variable {a b:Expr}{ta tb:TE}{pos:Pos}
def PC(X:Cx)(op:CmpOp)(a b:Expr)(t:TE):Prop :=
 ∀ (pins:List (Addr×Obj)) (s:Bx) (O:St) (H:Hp) (Q:VK),Inv X pins O H s->t O H Q ->
  Ch (model X.prog X.w) X.A (eval a X.env) (fun v Ae=>Ch (model X.prog X.w) X.A (eval b X.env) (fun u Ac=>Ch (model X.prog X.w) X.A (Dl op v u) (EP X pins O Q) X.xe Ac) X.xe Ae) X.xe s
theorem i0t(b:Expr)(h:op≠.In)(h2:op≠.NotIn):Fa op b=false:=by
 have e1:(op == CmpOp.In)=false:=by cases op <;> first | rfl | exact absurd rfl h
 have e2:(op == Rx)=false:=by cases op <;> first | rfl | exact absurd rfl h2
 cases b <;> simp [Fa,e1,e2]
def tB(t:TE):TT:=fun O H Q=>t O H fun x H1=>∃ c,x = .bl c/\Q c H1
theorem j1p{t:TE}(h:PC X op a b t)(h1:Fa op b=false:=by first | exact i0t _ (by decide) (by decide) | rfl):PT X (.Compare a [op] [b] pos) (tB t):=by
 intro pins s O H Q I hw
 refine Ps (thn (h pins s O H _ I hw) fun v s1 h1=>thn h1 fun u s2 h2=>thn h2 fun c s3 ⟨x,H1,I1,r1,q1⟩=>?_) h1
 obtain⟨d,rfl,q⟩:=q1
 cases r1
 exact Gi ⟨H1,I1,q⟩
theorem j1q{t:TE}(h:PE X e t)(he:∀ whole,Qy e X.env whole=(do let v <- whole; Pf e.pos; holding [v] (truthy v)):=by intro _; rfl):PT X e (tB t):=by
 intro pins s O H Q I hw
 refine isTrue_plain (c9u (h pins s O H _ I hw) fun v s1 x H1 I1 r1 q1=>?_) (he _)
 obtain⟨d,rfl,q⟩:=q1
 cases r1
 exact Gi ⟨H1,I1,q⟩
variable {tA tB':TT}{rest:List Expr}
def j9b(t u:TT):TT:=fun O H Q=>t O H fun c H1=>if c=true then u O H1 Q else Q false H1
def tOr(t u:TT):TT:=fun O H Q=>t O H fun c H1=>if c=true then Q true H1 else u O H1 Q
def k3d(t:TT):TT:=fun O H Q=>t O H fun c H1=>Q (!c) H1
theorem pw_and1(ha:PT X a tA):PW X (.BoolOp .And [a] pos) tA:=by
 intro wh pins s O H Q I h
 refine isTrue_and (thn (ha pins s O H Q I h) fun c s1 e=>?_)
 cases c with
 | true=>exact isTrue_and_nil e
 | false=>exact e
theorem pw_or1(ha:PT X a tA):PW X (.BoolOp .Or [a] pos) tA:=by
 intro wh pins s O H Q I h
 refine isTrue_or (thn (ha pins s O H Q I h) fun c s1 e=>?_)
 cases c with
 | false=>exact isTrue_or_nil e
 | true=>exact e
theorem pw_and(ha:PT X a tA)(hb:PW X (.BoolOp .And (b :: rest) pos) tB'):PW X (.BoolOp .And (a :: b :: rest) pos) (j9b tA tB'):=by
 intro wh pins s O H Q I h
 refine isTrue_and (j1n (ha pins s O H _ I h) fun c s1 H1 I1 q1=>?_)
 cases c with
 | true=>exact hb wh pins s1 O H1 Q I1 q1
 | false=>exact⟨H1,I1,q1⟩
theorem pw_or(ha:PT X a tA)(hb:PW X (.BoolOp .Or (b :: rest) pos) tB'):PW X (.BoolOp .Or (a :: b :: rest) pos) (tOr tA tB'):=by
 intro wh pins s O H Q I h
 refine isTrue_or (j1n (ha pins s O H _ I h) fun c s1 H1 I1 q1=>?_)
 cases c with
 | true=>exact⟨H1,I1,q1⟩
 | false=>exact hb wh pins s1 O H1 Q I1 q1
theorem c9k(ha:PT X a tA):PT X (.UnaryOp .Not a pos) (k3d tA):=by
 intro pins s O H Q I h
 exact isTrue_not (ha pins s O H (fun c H1=>Q (!c) H1) I h)
def j1r(ta tb:TE):TE:=fun O H Q=>ta O H fun x H1=>∃ c,x = .bl c/\if c=true then tb O H1 Q else Q (.bl false) H1
def j1s(ta:TE):TE:=fun O H Q=>ta O H fun x H1=>∃ c,x = .bl c/\Q (.bl (!c)) H1
theorem h4p{op}{t:TE}(h:PE X a t):PE X (.BoolOp op [a] pos) t:=fun pins s O H Q I hw=>BoolOp_one (h pins s O H Q I hw)
theorem j1t(ha:PE X a ta)(hb:PE X (.BoolOp .And (b :: rest) pos) tb):PE X (.BoolOp .And (a :: b :: rest) pos) (j1r ta tb):=by
 intro pins s O H Q I h
 refine BoolOp_and (c9u (ha pins s O H _ I h) fun v s1 x H1 I1 r1 q1=>?_)
 obtain⟨c,rfl,q1⟩:=q1
 cases r1
 refine Gi ?_
 cases c with
 | true=>exact hb pins s1 O H1 Q I1 q1
 | false=>exact⟨.bl false,H1,I1,rfl,q1⟩
theorem j1u(ha:PE X a ta):PE X (.UnaryOp .Not a pos) (j1s ta):=by
 intro pins s O H Q I h
 refine UnaryOp_ (c9u (ha pins s O H _ I h) fun v s1 x H1 I1 r1 q1=>?_)
 obtain⟨c,rfl,q1⟩:=q1
 cases r1
 exact not_of (Gi ⟨.bl (!c),H1,I1,rfl,q1⟩)
def tIf(t:TT)(ta tb:TE):TE:=fun O H Q=>t O H fun c H1=>if c=true then ta O H1 Q else tb O H1 Q
theorem f9n{c:Expr}(hc:PT X c tA)(ha:PE X a ta)(hb:PE X b tb):PE X (.IfExp c a b pos) (tIf tA ta tb):=by
 intro pins s O H Q I h
 refine wpAny_IfExp (j1n (hc pins s O H _ I h) fun d s1 H1 I1 q1=>?_)
 cases d with
 | true=>exact ha pins s1 O H1 Q I1 q1
 | false=>exact hb pins s1 O H1 Q I1 q1
end
def SqL(K:Bw)(H:Hp)(a:Addr)(xs:List V):Prop :=
 Rd H a (.lst xs) \/
  ∃ (o:Obj) (its:Array Br) (n:Nat),K.lookup a=some o/\o.cls = .type "list"/\o.dict=none/\o.data = .seq its n/\its.size<=Cb/\Vals xs its.toList
def SqT(K:Bw)(H:Hp)(a:Addr)(xs:List V):Prop :=
 Rd H a (.tup xs) \/
  ∃ (o:Obj) (its:Array Br) (n:Nat),K.lookup a=some o/\o.cls = .type "tuple"/\o.data = .seq its n/\its.size<=Cb/\Vals xs its.toList
noncomputable def absV:Br->Option V
 | .none=>some .non
 | .bool b=>some (.bl b)
 | .int i _=>some (.int i)
 | .str x _=>some (.str x)
 | .bytes b _=>some (.byt b)
 | .float b _=>some (.flt b)
 | .ref a=>some (.ref a)
 | .type n=>some (.ty n)
 | _=>none
theorem RelV.abs{x:V}(r:RelV x u):absV u=some x:=by
 cases x with
 | non=>cases r; rfl
 | bl _=>cases r; rfl
 | int _=>obtain⟨t,rfl⟩:=r; rfl
 | str _=>obtain⟨t,rfl⟩:=r; rfl
 | byt _=>obtain⟨t,rfl⟩:=r; rfl
 | flt _=>obtain⟨t,rfl⟩:=r; rfl
 | ref _=>cases r; rfl
 | ty _=>cases r; rfl
theorem RelV.inj{x y:V}(r:RelV x u)(q:RelV y u):x=y:=E8 (r.abs.symm.trans q.abs)
theorem Vals.inj{xs ys:List V}(h:Vals xs us):Vals ys us->xs=ys:=by
 induction h generalizing ys with
 | nil =>
  intro h
  cases h
  rfl
 | cons r t ih =>
  intro h
  cases h with
  | cons r' t'=>rw [r.inj r',ih t']
variable {K:Bw}
section
variable {X:Cx}{pins:List (Addr×Obj)}{O:St}{H:Hp}{s:Bx}{a:Addr}{xs ys:List V}
theorem SqL.of(h:H a=some (.lst xs)):SqL K H a xs:=.inl (.inl h)
theorem SqT.of(h:H a=some (.tup xs)):SqT K H a xs:=.inl (.inl h)
theorem Inv.list(I:Inv X pins O H s)(h:SqL X.K H a xs):∃ its:List Br,Vals xs its/\PlainL s.heap a its.toArray/\xs.length<=Cb:=by
 rcases h with h | ⟨o,its,n,hk,hc,hd,hs,hz,r⟩
 .obtain⟨z,its,n,r,e⟩:=h.ok I.hok
  exact⟨its,r,⟨_,n,e,rfl,rfl,rfl⟩,z⟩
 .refine⟨its.toList,r,⟨o,n,I.kIn a o hk,hc,hd,by simpa using hs⟩,?_⟩
  have e:=r.length
  simp only [Fq] at e
  lia
theorem Inv.tuple(I:Inv X pins O H s)(h:SqT X.K H a xs):∃ its:List Br,Vals xs its/\IsTup s.heap a its.toArray/\xs.length<=Cb:=by
 rcases h with h | ⟨o,its,n,hk,hc,hs,hz,r⟩
 .obtain⟨z,its,r,p⟩:=h.ok I.hok
  exact⟨its,r,p,z⟩
 .refine⟨its.toList,r,⟨o,I.kIn a o hk,hc,n,by simpa using hs⟩,?_⟩
  have e:=r.length
  simp only [Fq] at e
  lia
theorem Inv.f9o(I:Inv X pins O H s)(h:SqL X.K H a xs)(h':SqL X.K H a ys):xs=ys:=by
 obtain⟨its,r,⟨o,n,e,_,_,d⟩,_⟩:=I.list h
 obtain⟨its',r',⟨o',n',e',_,_,d'⟩,_⟩:=I.list h'
 rw [e] at e'; cases e'
 rw [d] at d'
 injection d' with d1 _
 have:its=its':=by simpa using congrArg Mx d1
 subst this
 exact r.inj r'
theorem Inv.g2t(I:Inv X pins O H s)(h:SqT X.K H a xs)(h':SqT X.K H a ys):xs=ys:=by
 obtain⟨its,r,⟨o,e,_,n,d⟩,_⟩:=I.tuple h
 obtain⟨its',r',⟨o',e',_,n',d'⟩,_⟩:=I.tuple h'
 rw [e] at e'; cases e'
 rw [d] at d'
 injection d' with d1 _
 have:its=its':=by simpa using congrArg Mx d1
 subst this
 exact r.inj r'
end
noncomputable abbrev Cx.wish(X:Cx)(E:Br->Bx->Prop):Cx:={ X with xe:=E }
noncomputable abbrev Cx.nox(X:Cx):Cx:=X.wish fun _ _=>False
theorem Cx.Ok.wish(ok:X.Ok)(E:Br->Bx->Prop):(X.wish E).Ok :=
 ⟨ok.mod,ok.kind,ok.glob,ok.blt,ok.above,ok.inj,ok.has,ok.cab,ok.hd,ok.frames,ok.stk,ok.exf,ok.bs,ok.bsz,ok.j0u,ok.j8i,ok.h4f,ok.frf⟩
theorem Cx.Ok.c9l(ok:(X.wish E).Ok):X.Ok :=
 ⟨ok.mod,ok.kind,ok.glob,ok.blt,ok.above,ok.inj,ok.has,ok.cab,ok.hd,ok.frames,ok.stk,ok.exf,ok.bs,ok.bsz,ok.j0u,ok.j8i,ok.h4f,ok.frf⟩
section
variable {X:Cx}{pins:List (Addr×Obj)}{O:St}{H:Hp}{s:Bx}{E:Br->Bx->Prop}
theorem Inv.wish(I:Inv X pins O H s)(E:Br->Bx->Prop):Inv (X.wish E) pins O H s:=⟨I.ok.wish E,I.os,I.bare,I.base,I.loc,I.cell,I.free,I.f0u,I.pin,I.hok,I.len⟩
theorem Inv.c9l(I:Inv (X.wish E) pins O H s):Inv X pins O H s:=⟨I.ok.c9l,I.os,I.bare,I.base,I.loc,I.cell,I.free,I.f0u,I.pin,I.hok,I.len⟩
theorem SP.c9l{D:Ends}{f:Flow}(h:SP (X.wish E) pins D f s'):SP X pins D f s':=by
 cases f with
 | next=>obtain⟨Aa,H',I,q⟩:=h; exact⟨Aa,H',I.c9l,q⟩
 | brk=>obtain⟨Aa,H',I,q⟩:=h; exact⟨Aa,H',I.c9l,q⟩
 | cont=>obtain⟨Aa,H',I,q⟩:=h; exact⟨Aa,H',I.c9l,q⟩
 | ret u=>obtain⟨v,Aa,H',I,r,q⟩:=h; exact⟨v,Aa,H',I.c9l,r,q⟩
theorem PSs.nox{st:List Stmt}{t:TS}(h:PSs X.nox st t):PSs X st t:=fun pins s O H D I hw =>
 Dv (h pins s O H D (I.wish _) hw) (fun _ _ q=>q.c9l) fun _ _ z=>Bq z
end
section
variable {X:Cx}{st:Stmt}{rest:List Stmt}{t u:TS}{e:Expr}{te:TE}{pos:Pos}
def i6e:TS:=fun D O H=>D.nx O H
def j9c(t u:TS):TS:=fun D O H=>t { D with nx:=u D } O H
theorem a1u:PSs X [] i6e:=fun _ _ O H _ I h=>Gb ⟨O,H,I,h⟩
theorem a0h(h1:PS X st t)(h2:PSs X rest u):PSs X (st :: rest) (j9c t u):=by
 intro pins s O H D I h
 refine Jq (thn (h1 pins s O H { D with nx:=u D } I h) fun f s1 q=>?_)
 cases f with
 | next =>
  obtain⟨Aa,H',I',q⟩:=q
  exact h2 pins s1 Aa H' D I' q
 | ret v=>exact q
 | brk=>exact q
 | cont=>exact q
theorem a0k(h1:PS X st t):PSs X [st] t:=by
 intro pins s O H D I h
 refine Jq (thn (h1 pins s O H D I h) fun f s1 q=>?_)
 cases f with
 | next=>exact Gb q
 | ret v=>exact q
 | brk=>exact q
 | cont=>exact q
theorem Inv.quiet{s:Bx}(I:Inv X pins O H s):interactive X.env=false:=by simp [interactive,I.ok.kind]
def i6f(te:TE):TS:=fun D O H=>te O H fun _ H1=>D.nx O H1
theorem a4p(he:PE X e te)(hs:J3 e none pos.line X.env=pure false:=by rfl):PS X (.Expr e pos) (i6f te):=by
 intro pins s O H D I h
 exact wpAny_Expr_any (c9u (he pins s O H _ I h) fun v s1 x H1 I1 r1 q1=>⟨O,H1,I1,q1⟩) I.quiet hs
def j8j(te:TE):TS:=fun D O H=>te O H D.rt
theorem a0w(he:PE X e te):PS X (.Return (some e) pos) (j8j te):=by
 intro pins s O H D I h
 exact wpAny_Return_some (c9u (he pins s O H _ I h) fun v s1 x H1 I1 r1 q1=>⟨x,O,H1,I1,r1,q1⟩)
def j1v:TS:=fun D _ H=>D.rt .non H
def j8k(c:TT)(t u:TS):TS:=fun D O H=>c O H fun b H1=>if b=true then t D O H1 else u D O H1
theorem a5j{c:Expr}{a b:List Stmt}{tc:TT}(hc:PT X c tc)(ha:PSs X a t)(hb:PSs X b u):PS X (.If c a b pos) (j8k tc t u):=by
 intro pins s O H D I h
 refine wpAny_If (j1n (hc pins s O H _ I h) fun d s1 H1 I1 q1=>?_)
 cases d with
 | true=>exact ha pins s1 O H1 D I1 q1
 | false=>exact hb pins s1 O H1 D I1 q1
def j1w:TS:=fun _ _ _=>False
theorem a2r:PS X st j1w:=fun _ _ _ _ _ _ h=>h.elim
end
noncomputable abbrev TG:=V->St->Hp->(St->Hp->Prop)->Prop
noncomputable abbrev TGs:=List V->St->Hp->(St->Hp->Prop)->Prop
def PG(X:Cx)(target:Expr)(t:TG):Prop :=
 ∀ (pins:List (Addr×Obj)) (s:Bx) (O:St) (H:Hp) (v:V) (u:Br) (Q:St->Hp->Prop),Inv X pins O H s->RelV v u->t v O H Q ->
  Ch (model X.prog X.w) X.A (assign target X.env u) (fun _ s'=>∃ Aa H',Inv X pins Aa H' s'/\Q Aa H') X.xe s
def PGs(X:Cx)(ts:List Expr)(t:TGs):Prop :=
 ∀ (pins:List (Addr×Obj)) (s:Bx) (O:St) (H:Hp) (vs:List V) (us:List Br) (Q:St->Hp->Prop),Inv X pins O H s->Vals vs us->t vs O H Q ->
  Ch (model X.prog X.w) X.A (assignInOrder ((Hf ts X.env).map (·.2)) us) (fun _ s'=>∃ Aa H',Inv X pins Aa H' s'/\Q Aa H') X.xe s
noncomputable abbrev TSet:=V->V->V->Hp->(Hp->Prop)->Prop
noncomputable abbrev TIp:=V->V->Hp->VK->Prop
def PIp(X:Cx)(op:Nj)(t:TIp):Prop :=
 ∀ (pins:List (Addr×Obj)) (s:Bx) (O:St) (H:Hp) (x y:V) (v u:Br) (Q:VK),Inv X pins O H s->RelV x v->RelV y u->t x y H Q ->
  Ch (model X.prog X.w) X.A (inplaceOp op v u) (EP X pins O Q) X.xe s
section
variable {X:Cx}{pos:Pos}
def g2u(i:Nat):TG:=fun v O H Q=>Q (O.set i (some v)) H
theorem f1u{x:Str}(hN:X.N.Nodup)(hi:X.N[i]? = some x)(hx:Loc X.env.scope x)(hf:X.fn x=true\/X.env.scope.names.lookup x=some .local:=by first | exact .inl rfl | exact .inr rfl | assumption):PG X (.Name x pos) (g2u i):=by
 intro pins s O H v u Q I r h
 exact Lv (f9l I hN hi hx r (fun s' I'=>⟨_,H,I',h⟩) hf)
noncomputable def gNil:TGs:=fun vs O H Q=>vs = []/\Q O H
def j9d(t:TG)(u:TGs):TGs:=fun vs O H Q=>∃ v r,vs=v :: r/\t v O H fun Aa H'=>u r Aa H' Q
theorem h4q:PGs X [] gNil:=by
 intro pins s O H vs us Q I r h
 obtain⟨e,h⟩:=h
 subst e
 cases r
 exact assignInOrder_nil ⟨O,H,I,h⟩
variable {es:List Expr}
theorem f9p{t:TG}{u:TGs}(h1:PG X e t)(h2:PGs X es u)
  (hs:(Hf (e :: es) X.env).map (·.2)=assign e X.env :: (Hf es X.env).map (·.2):=by rfl):PGs X (e :: es) (j9d t u):=by
 intro pins s O H vs us Q I r h
 obtain⟨v,vr,e1,h⟩:=h
 subst e1
 cases r with
 | cons r rr =>
  rw [hs]
  refine assignInOrder_cons (thn (h1 pins s O H _ _ _ I r h) fun _ s1 ⟨Am,H1,I1,q1⟩=>?_)
  exact h2 pins s1 Am H1 _ _ Q I1 rr q1
def gTup(K:Bw)(n:Nat)(t:TGs):TG:=fun v O H Q=>∃ a xs,v = .ref a/\SqT K H a xs/\xs.length=n/\t xs O H Q
theorem i4j{k:Nat}{t:TGs}{n:Nat}(hc:X.calm=true)(h:PGs X es t)
  (hn:(Hf es X.env).length=n:=by rfl) (hst:(Hf es X.env).findIdx? (·.1)=none:=by rfl):PG X (.Tuple es k pos) (gTup X.K n t):=by
 intro pins s O H v u Q I r hw
 obtain⟨a,xs,e1,hq,hl,hw⟩:=hw
 subst e1
 cases r
 obtain⟨its,rv,ht,hz⟩:=I.tuple hq
 refine assign_Tuple_tuple (I.ok.hd hc) ht (by simp [hn,<- hl,rv.length]) hst fun h' hx=>?_
 have I1:Inv X pins O H { s with heap:=h' }:=I.kept (t':=s.toks) fun b o e=>hx b o (D2 (Cc e)) e
 exact h pins _ O H xs _ Q I1 (by simpa using rv) hw
def gSub(to ti:TE)(t:TSet):TG:=fun v O H Q=>to O H fun o H1=>ti O H1 fun i H2=>t o i v H2 fun H3=>Q O H3
def i4k(te:TE)(g:TG):TS:=fun D O H=>te O H fun x H1=>g x O H1 D.nx
theorem d8w{x:Str}{te:TE}{pos':Pos}(hN:X.N.Nodup)(hi:X.N[i]? = some x)(hx:Loc X.env.scope x)(he:PE X e te)(hs:J3 e (some (.Name x pos')) pos.line X.env=pure false:=by rfl)(hf:X.fn x=true\/X.env.scope.names.lookup x=some .local:=by first | exact .inl rfl | exact .inr rfl | assumption) :
  PS X (.Assign [.Name x pos'] e pos) (i4k te (g2u i)):=by
 intro pins s O H D I h
 refine wpAny_Assign_Name (c9u (he pins s O H _ I h) fun v s1 y H1 I1 r1 q1=>?_) hs
 exact f9l I1 hN hi hx r1 (fun s2 I2=>⟨_,H1,I2,q1⟩) hf
def tAug(i:Nat)(te:TE)(ti:TIp):TS:=fun D O H=>∃ x,O[i]? = some (some x)/\te O H fun y H1=>ti x y H1 fun z H2=>D.nx (O.set i (some z)) H2
theorem j1x{x:Str}{te:TE}{op:Nj}{ti:TIp}{pos':Pos}(hN:X.N.Nodup)(hi:X.N[i]? = some x)(hx:Loc X.env.scope x)(he:PE X e te)(ho:PIp X op ti)(hf:X.fn x=true\/X.env.scope.names.lookup x=some .local:=by first | exact .inl rfl | exact .inr rfl | assumption) :
  PS X (.AugAssign (.Name x pos') op e pos) (tAug i te ti):=by
 intro pins s O H D I h
 obtain⟨v,e1,h⟩:=h
 obtain⟨m,hn,hl⟩:=I.loc
 have vis:Vis X.env.scope x:=by rcases hx with k | k; exact .inl k; exact .inr (.inl k)
 obtain⟨u,r,l⟩:=hl i x v hi e1 vis
 refine wpAny_AugAssign_Name ?_
 have go:Ch (model X.prog X.w) X.A (eval e X.env) (fun w Ac=>Ch (model X.prog X.w) X.A (inplaceOp op u w) (fun r Ab=>Ch (model X.prog X.w) X.A (storeName X.env x r) (fun _=>SP X pins D .next) X.xe Ab) X.xe Ac) X.xe s:=by
  refine c9u (he pins s O H _ I h) fun w s1 y H1 I1 r1 q1=>?_
  refine c9u (ho pins s1 O H1 v y u w _ I1 r r1 q1) fun z s2 zv H2 I2 r2 q2=>?_
  exact f9l I2 hN hi hx r2 (fun s3 I3=>⟨_,H2,I3,q2⟩) hf
 rcases l with ⟨hk,hm⟩ | ⟨hk,c,hc,hcell⟩
 .exact Q2 I.ok.kind hk hn hm go
 .rcases hk with hk | hk
  .exact Qj I.ok.kind hk hc hcell go
  .rcases hx with k | k
   .have:X.env.scope.names.lookup x=some .free:=hk
    rw [k] at this; cases this
   .have:X.env.scope.names.lookup x=some .free:=hk
    rw [k] at this; cases this
end
section
variable {X:Cx}{pos:Pos}
end
structure It where
 go:Nat->Hp->Prop
 yld:Nat->Hp->V->Hp->Prop
 stop:Nat->Hp->Prop
def f9q(X:Cx)(pins:List (Addr×Obj))(H:Hp)(b:Addr):Prop :=
 H b=none/\b≠X.env.locals/\b∉X.fs/\(b∈X.ex\/X.s₀.heap.objs.size<=b)/\(∀ x c,X.env.cells.lookup x=some c->c≠b)/\∀ p∈X.pn++pins,p.1≠b
theorem Inv.i0m{H H':Hp}{s:Bx}{b:Addr}(I:Inv X pins O H s)(hb:s.heap.objs.size<=b)(hn:H' b=none):f9q X pins H' b:=by
 refine⟨hn,Gn (Cr I.lt hb),I.nofs hb,.inr (Bz I.sz hb),fun x c e z=>?_,fun p hp z=>?_⟩
 .obtain⟨v,q⟩:=I.cell x c e
  exact absurd (Cr q.lt (by rw [z]; exact hb)) (Fk _)
 .exact absurd (Cr (Cc (I.pin p hp).1) (by rw [z]; exact hb)) (Fk _)
structure Turn(P:Dc)(w:E2)(K:Bw)(tg:Expr)(J:It)(fp:List Addr)(it:Addr)(tn:Nat->Heap->Prop):Prop where
 mem:it∈fp
 obj:∀ i h,tn i h->∀ b∈fp,∃ o,h.get? b=some o/\∀ v,o.data≠.cell v
 keep:∀ i h h',tn i h->(∀ b∈fp,∀ o,h.get? b=some o->h'.get? b=some o)->tn i h'
 item:∀ (X:Cx),X.prog=P->X.w=w->X.K=K->X.calm=true->∀ (i:Nat) (pins:List (Addr×Obj)) (s:Bx) (O:St) (H:Hp) (E:Br->Bx->Prop),Inv X pins O H s->(∀ b∈fp,f9q X pins H b)->tn i s.heap->J.go i H ->
  Ch (model P w) X.A (Kf (.ref it)) (fun r s1=>∃ u,r=some u /\
   Ch (model P w) X.A (Ms tg (.ref it) u) (fun _ s2=>∃ x H',Inv X pins O H' s2/\RelV x u/\J.yld i H x H'/\tn (i+1) s2.heap/\∀ b∈fp,H' b=none) E s1) E s
 done:∀ (X:Cx),X.prog=P->X.w=w->X.K=K->X.calm=true->∀ (i:Nat) (pins:List (Addr×Obj)) (s:Bx) (O:St) (H:Hp) (E:Br->Bx->Prop),Inv X pins O H s->(∀ b∈fp,f9q X pins H b)->tn i s.heap->J.stop i H ->
  Ch (model P w) X.A (Kf (.ref it)) (fun r s1=>r=none/\Inv X pins O H s1) E s
 self:∀ (A:Ds) (i:Nat) (s:Bx) (Q:Br->Bx->Prop) (E:Br->Bx->Prop),tn i s.heap->Q (.ref it) s->Ch (model P w) A (Pg (.ref it)) Q E s
noncomputable abbrev TI:=St->Hp->(It->Hp->Prop)->Prop
def PIE(X:Cx)(pins:List (Addr×Obj))(O:St)(tg:Expr)(R:It->Hp->Prop)(itv:Br)(s2:Bx):Prop :=
 ∃ (it:Addr) (fp:List Addr) (tn:Nat->Heap->Prop) (J:It) (H':Hp),itv = .ref it/\Inv X pins O H' s2/\Turn X.prog X.w X.K tg J fp it tn/\tn 0 s2.heap/\(∀ b∈fp,f9q X pins H' b)/\R J H'
def PI(X:Cx)(tg iter:Expr)(wi:TI):Prop :=
 ∀ (pins:List (Addr×Obj)) (s:Bx) (O:St) (H:Hp) (R:It->Hp->Prop),Inv X pins O H s->wi O H R ->
  Ch (model X.prog X.w) X.A (eval iter X.env) (fun v s1=>Ch (model X.prog X.w) X.A (Pg v) (PIE X pins O tg R) X.xe s1) X.xe s
variable {tg:Expr}{o:Obj}
theorem i0u{s:Bx}{n:String}{vs:Array Br}{Q:Unit->Bx->Prop}(ho:s.heap.get? it=some o)(hc:o.cls = .type n)(hd:o.data = .fields vs)
  (hn : ["enumerate","zip","dict_itemiterator","dict_reverseitemiterator","odict_iterator","itertools.zip_longest","itertools.pairwise"].contains n=false) (hQ:Q () s):Ch M A (Ms tg (.ref it) u) Q E s:=by
 unfold Ms
 cases tg <;> first
  | exact Cf hQ
  | (cases u <;> first
    | exact Cf hQ
    | (refine Bp (wpAny_load ho ?_)
       rw [hc,hd]
       show Ch M A (if (["enumerate","zip","dict_itemiterator","dict_reverseitemiterator","odict_iterator","itertools.zip_longest","itertools.pairwise"].contains n && vs[0]? == some (Ke _))=true then _ else _) Q E s
       rw [if_neg (by intro h; rw [hn,Mb] at h; cases h)]
       exact Cf hQ))
noncomputable def Itl(K:Bw)(a:Addr):It :=
 ⟨fun i H=>∃ xs x,SqL K H a xs/\xs[i]? = some x,fun i H x H'=>H'=H/\∀ xs,SqL K H a xs->xs[i]? = some x,fun i H=>∃ xs,SqL K H a xs/\xs.length<=i⟩
noncomputable def Itt(K:Bw)(a:Addr):It :=
 ⟨fun i H=>∃ xs x,SqT K H a xs/\xs[i]? = some x,fun i H x H'=>H'=H/\∀ xs,SqT K H a xs->xs[i]? = some x,fun i H=>∃ xs,SqT K H a xs/\xs.length<=i⟩
noncomputable def Itr(lo:Int)(n:Nat):It:=⟨fun i _=>i < n,fun i H x H'=>H'=H/\x = .int (lo+i),fun i _=>n<=i⟩
variable {P:Dc}{w:E2}
theorem h4r(a it:Addr):Turn P w K tg (Itl K a) [it] it (fun i h=>h.IsListIter it a i) where
 mem:=by simp
 obj:=fun i h st b hb=>by
  have e:b=it:=by simpa using hb
  subst e
  obtain⟨o,e,c,d⟩:=st
  exact⟨o,e,fun v z=>by rw [d] at z; cases z⟩
 keep:=fun i h h' st k=>st.at fun o e=>k it (by simp) o e
 item:=by
  intro X hP hw hK hc i pins s O H E I hf st hg
  subst hP hw hK
  obtain⟨xs,x,hq,hx⟩:=hg
  obtain⟨its,rv,p,hz⟩:=I.list hq
  obtain⟨u,hu,ru⟩:=rv.get hx
  obtain⟨f0,f1,f2,f3,f4,f5⟩:=hf it (by simp)
  refine wpAny_pyNext_list_item st p.isList (x:=u) (by simpa using hu) fun h' st' sb=>?_
  have I1:Inv X pins O H { s with heap:=h' }:=I.turned (t':=s.toks) (fun b o hb e=>(sb.2 b hb).trans e) f0 f1 f3 f4 f5
  obtain⟨o,e,c,d⟩:=id st'
  exact⟨u,rfl,i0u (s:={ s with heap:=h' }) e c d (by decide) ⟨x,H,I1,ru,⟨rfl,fun ys hy=>by rw [I.f9o hy hq]; exact hx⟩,st',fun b hb=>(hf b hb).1⟩⟩
 done:=by
  intro X hP hw hK hc i pins s O H E I hf st hg
  subst hP hw hK
  obtain⟨xs,hq,hx⟩:=hg
  obtain⟨its,rv,p,hz⟩:=I.list hq
  obtain⟨f0,f1,f2,f3,f4,f5⟩:=hf it (by simp)
  have hl:=rv.length
  exact wpAny_pyNext_list_end (I.ok.hd hc) st p.isList (by simp; lia) fun h' eb=>⟨rfl,I.turned (t':=s.toks) (fun b o hb e=>eb b o hb e) f0 f1 f3 f4 f5⟩
 self:=fun _ _ _ _ _ st h=>wpAny_pyIter_listiter st h
theorem h1l(a it:Addr):Turn P w K tg (Itt K a) [it] it (fun i h=>h.IsTupleIter it a i) where
 mem:=by simp
 obj:=fun i h st b hb=>by
  have e:b=it:=by simpa using hb
  subst e
  obtain⟨o,e,c,d⟩:=st
  exact⟨o,e,fun v z=>by rw [d] at z; cases z⟩
 keep:=fun i h h' st k=>st.at fun o e=>k it (by simp) o e
 item:=by
  intro X hP hw hK hc i pins s O H E I hf st hg
  subst hP hw hK
  obtain⟨xs,x,hq,hx⟩:=hg
  obtain⟨its,rv,p,hz⟩:=I.tuple hq
  obtain⟨u,hu,ru⟩:=rv.get hx
  obtain⟨f0,f1,f2,f3,f4,f5⟩:=hf it (by simp)
  refine wpAny_pyNext_tuple_item st (show s.heap.IsTuple a its.toArray from p) (x:=u) (by simpa using hu) fun h' st' sb=>?_
  have I1:Inv X pins O H { s with heap:=h' }:=I.turned (t':=s.toks) (fun b o hb e=>(sb.2 b hb).trans e) f0 f1 f3 f4 f5
  obtain⟨o,e,c,d⟩:=id st'
  exact⟨u,rfl,i0u (s:={ s with heap:=h' }) e c d (by decide) ⟨x,H,I1,ru,⟨rfl,fun ys hy=>by rw [I.g2t hy hq]; exact hx⟩,st',fun b hb=>(hf b hb).1⟩⟩
 done:=by
  intro X hP hw hK hc i pins s O H E I hf st hg
  subst hP hw hK
  obtain⟨xs,hq,hx⟩:=hg
  obtain⟨its,rv,p,hz⟩:=I.tuple hq
  obtain⟨f0,f1,f2,f3,f4,f5⟩:=hf it (by simp)
  have hl:=rv.length
  exact wpAny_pyNext_tuple_end (I.ok.hd hc) st (show s.heap.IsTuple a its.toArray from p) (by simp; lia) fun h' eb=>⟨rfl,I.turned (t':=s.toks) (fun b o hb e=>eb b o hb e) f0 f1 f3 f4 f5⟩
 self:=fun _ _ _ _ _ st h=>wpAny_pyIter_tupleiter st h
theorem h1n(it:Addr)(lo:Int)(n:Nat):Turn P w K tg (Itr lo n) [it] it (fun i h=>IsRangeIter h it (lo+(i:Nat)*1) ((n:Int) - (i:Nat)) 1) where
 mem:=by simp
 obj:=fun i h st b hb=>by
  have e:b=it:=by simpa using hb
  subst e
  exact⟨_,st,fun v z=>by
   have z':Data.fields _=Data.cell v:=z
   cases z'⟩
 keep:=fun i h h' st k=>k it (by simp) _ st
 item:=by
  intro X hP hw hK hc i pins s O H E I hf st hg
  subst hP hw hK
  obtain⟨f0,f1,f2,f3,f4,f5⟩:=hf it (by simp)
  have W:=Walks.range (prog:=X.prog) (w:=X.w) (I.ok.hd hc) it lo 1 n
  refine W.item i s _ _ hg st fun v h' tk hv st' kk=>?_
  obtain⟨t,rfl⟩:=hv
  have I1:Inv X pins O H { s with heap:=h',toks:=tk }:=I.turned (fun b o hb e=>kk b o (by simpa using hb) e) f0 f1 f3 f4 f5
  refine⟨_,rfl,i0u (s:={ s with heap:=h',toks:=tk }) (n:="range_iterator") st' rfl rfl (by decide) ⟨.int (lo+i),H,I1,⟨t,?_⟩,⟨rfl,rfl⟩,st',fun b hb=>(hf b hb).1⟩⟩
  rw [Int.mul_one]
 done:=by
  intro X hP hw hK hc i pins s O H E I hf st hg
  subst hP hw hK
  obtain⟨f0,f1,f2,f3,f4,f5⟩:=hf it (by simp)
  exact wpAny_pyNext_range_end (I.ok.hd hc) st (by have:n<=i:=hg; lia) fun h' eb=>⟨rfl,I.turned (t':=s.toks) (fun b o hb e=>eb b o hb e) f0 f1 f3 f4 f5⟩
 self:=fun _ _ _ _ _ st h=>wpAny_pyIter_rangeiter st h
variable {fp:List Addr}{body:List Stmt}{g:TG}{tb:TS}
section
variable {X:Cx}{tg:Expr}
def j1y(K:Bw)(tl:TE):TI:=fun O H R=>tl O H fun x H1=>∃ a,x = .ref a/\(∃ xs,SqL K H1 a xs)/\R (Itl K a) H1
theorem i6g{l:Expr}{tl:TE}(hl:PE X l tl):PI X tg l (j1y X.K tl):=by
 intro pins s O H R I h
 refine c9u (hl pins s O H _ I h) fun v s1 x H1 I1 r1 q1=>?_
 obtain⟨a,e,⟨xs,hq⟩,q⟩:=q1
 subst e
 cases r1
 obtain⟨its,rv,p,hz⟩:=I1.list hq
 refine Gj p.isList ?_
 refine⟨s1.heap.objs.size,[s1.heap.objs.size],_,_,H1,rfl,I1.kept (t':=s1.toks) fun b o e=>Bt _ e,h4r a _,⟨_,Cg _ rfl,rfl,rfl⟩,fun b hb=>?_,q⟩
 have e:b=s1.heap.objs.size:=by simpa using hb
 subst e
 exact I1.i0m (C0 _) (I1.hok.fresh (C0 _))
theorem g9k{s:Bx}{R:It->Hp->Prop}{lo hi:Int}{t u v:Tok}{tk:Nat}(I:Inv X pins O H s)(h1 : -(2 ^ 62)<=lo)(h2:lo < 2 ^ 62)(h3 : -(2 ^ 62)<=hi)(h4:hi < 2 ^ 62)
  (q:R (Itr lo (hi - lo).toNat) H):Ch (model X.prog X.w) X.A (Pg (.ref s.heap.objs.size)) (PIE X pins O tg R) E { s with heap:=s.heap.push { cls:=.type "range",data:=.fields #[.int lo t,.int hi u,.int 1 v] },toks:=tk }:=by
 refine wpAny_pyIter_range (IsRange.new ..) (small_one h1 h2 h3 h4) ?_
 have I1:Inv X pins O H { s with heap:=s.heap.push { cls:=.type "range",data:=.fields #[.int lo t,.int hi u,.int 1 v] },toks:=tk }:=I.kept fun b o e=>Bt _ e
 refine⟨(s.heap.push { cls:=.type "range",data:=.fields #[.int lo t,.int hi u,.int 1 v] }).objs.size,[(s.heap.push { cls:=.type "range",data:=.fields #[.int lo t,.int hi u,.int 1 v] }).objs.size],_,_,H,rfl,
  I1.kept (t':=tk) fun b o e=>Bt _ e,h1n _ lo (hi - lo).toNat,?_,fun b hb=>?_,q⟩
 .have e1:lo+((0:Nat):Int)*1=lo:=by simp
  have e2:(((hi - lo).toNat:Nat):Int) - ((0:Nat):Int)=Ko lo hi 1:=by rw [rangeSize_one]; split <;> lia
  show IsRangeIter _ _ (lo+((0:Nat):Int)*1) ((((hi - lo).toNat:Nat):Int) - ((0:Nat):Int)) 1
  rw [e1,e2]
  exact Cg _ rfl
 .have e:b=(s.heap.push { cls:=.type "range",data:=.fields #[.int lo t,.int hi u,.int 1 v] }).objs.size:=by simpa using hb
  subst e
  exact I1.i0m (C0 _) (I1.hok.fresh (C0 _))
def j1z(ta:TA):TI:=fun O H R=>ta O H fun vs H1=>∃ j:Int,vs = [.int j] /\ -(2 ^ 62)<=j/\j < 2 ^ 62/\R (Itr 0 j.toNat) H1
def j2a(ta:TA):TI:=fun O H R=>ta O H fun vs H1=>∃ i j:Int,vs = [.int i,.int j]/\(-(2 ^ 62)<=i/\i < 2 ^ 62 /\ -(2 ^ 62)<=j/\j < 2 ^ 62)/\R (Itr i (j - i).toNat) H1
theorem h4s{a:Expr}{ta:TA}{p:Pos}(hg:Gl X "range")(hm:X.mg "range"=none)(ha:PA X [a] ta)(hs:Cs [a] X.env = [(false,eval a X.env)]:=by rfl):PI X tg (.Call (.Name "range" p) [a] [] pos) (j1z ta):=by
 intro pins s O H R I h
 refine Call_ (f1t I hg hm boot_range (Fx (h1j (ha pos pins s O H _ I h) fun us s1 vs H1 I1 r1 q1=>?_) hs rfl))
 obtain⟨j,e,q1,q2,q⟩:=q1
 subst e
 cases r1 with
 | cons r rr =>
  cases rr
  obtain⟨t,rfl⟩:=r
  exact call_range_1 (g9k I1 (by lia) (by lia) q1 q2 (by simpa using q))
theorem h4t{a b:Expr}{ta:TA}{p:Pos}(hg:Gl X "range")(hm:X.mg "range"=none)(ha:PA X [a,b] ta)(hs:Cs [a,b] X.env = [(false,eval a X.env),(false,eval b X.env)]:=by rfl)(hs2:Cs [b] X.env = [(false,eval b X.env)]:=by rfl) :
  PI X tg (.Call (.Name "range" p) [a,b] [] pos) (j2a ta):=by
 intro pins s O H R I h
 refine Call_ (f1t I hg hm boot_range (Fx (h1j (ha pos pins s O H _ I h) fun us s1 vs H1 I1 r1 q1=>?_) (by rw [hs,hs2]) (by rw [hs2]; rfl)))
 obtain⟨i,j,e,⟨q1,q2,q3,q4⟩,q⟩:=q1
 subst e
 cases r1 with
 | cons r rr =>
  cases rr with
  | cons r' rr =>
   cases rr
   obtain⟨t,rfl⟩:=r
   obtain⟨t',rfl⟩:=r'
   exact call_range_2 (g9k I1 q1 q2 q3 q4 q)
def tFor(wi:TI)(g:TG)(tb:TS):TS:=fun D O H=>wi O H fun J H1=>∃ W:Nat->Nat->St->Hp->Prop,(∃ m,W 0 m O H1)/\∀ i m O H,W i m O H ->
 (J.stop i H/\D.nx O H)\/(J.go i H/\∃ N:St->Hp->Prop,(∀ Aa H',N Aa H'->∃ m',m' < m/\W (i+1) m' Aa H')/\∀ x H',J.yld i H x H'->g x O H' fun Af H2=>tb { D with nx:=N,ct:=N,bk:=D.nx } Af H2)
noncomputable def f1v(fp:List Addr)(h:Heap):List (Addr×Obj):=fp.filterMap fun b=>(h.get? b).map fun o=>(b,o)
theorem b3y{h:Heap}{b:Addr}(hb:b∈fp)(e:h.get? b=some o):(b,o)∈f1v fp h:=Ow.mpr ⟨b,hb,by rw [e]; rfl⟩
theorem h4u{h:Heap}{p:Addr×Obj}(hp:p∈f1v fp h):p.1∈fp/\h.get? p.1=some p.2:=by
 obtain⟨b,hb,e⟩:=Ow.mp hp
 cases q:h.get? b with
 | none=>rw [q] at e; cases e
 | some o =>
  rw [q] at e
  have e':(b,o)=p:=E8 e
  subst e'
  exact⟨hb,q⟩
theorem Inv.pinned{s:Bx}(I:Inv X pins O H s)(hf:∀ b∈fp,f9q X pins H b)(ho:∀ b∈fp,∃ o,s.heap.get? b=some o/\∀ v,o.data≠.cell v):Inv X (pins++f1v fp s.heap) O H s :=
 I.h4n fun p hp=>(De.mp hp).elim (fun z=>I.pin p (Cj _ z)) fun z=>by
  obtain⟨hb,e⟩:=h4u z
  obtain⟨f0,f1,f2,_⟩:=hf p.1 hb
  obtain⟨o,e',d⟩:=ho p.1 hb
  rw [e] at e'; cases e'
  exact⟨e,f0,f1,f2,d⟩
theorem Inv.d2w{pl:List (Addr×Obj)}{s:Bx}(I:Inv X (pins++pl) O H s):Inv X pins O H s:=I.h4n fun p hp=>I.pin p (Cj _ (Dp _ hp))
theorem j2b{iter:Expr}{wi:TI}(hp:Os (model X.prog X.w) X.A X.env X.xe)(hc:X.calm=true)(hi:PI X tg iter wi)(hg:PG X tg g)(hb:PSs X body tb)
  (hs:∀ x,Ez iter X.env x=pure x:=by intro _; rfl):PS X (.For tg iter body [] pos) (tFor wi g tb):=by
 intro pins s O H D I h
 refine wpAny_For (thn (hi pins s O H _ I h) fun v s1 h1=>thn h1 fun itv s2 h2=>?_) hs
 obtain⟨it,fp,tn,J,H2,e,I2,T,st2,f2,W,⟨m0,w0⟩,turn⟩:=h2
 subst e
 -- what stays true of the iterator's objects through the loop
 have stat:∀ {H':Hp},(∀ b∈fp,H' b=none)->∀ b∈fp,f9q X pins H' b:=fun hn b hb=>⟨hn b hb,(f2 b hb).2⟩
 refine Qk (fun n s'=>∃ i Aa H',Inv X pins Aa H' s'/\tn i s'.heap/\(∀ b∈fp,H' b=none)/\W i n Aa H') ?_ m0 ⟨0,O,H2,I2,st2,fun b hb=>(f2 b hb).1,w0⟩
 rintro n s3 ⟨i,Al,H3,I3,st3,fr3,w3⟩
 rcases turn i n Al H3 w3 with ⟨stop,qn⟩ | ⟨go,N,hN,step⟩
 .refine Fn hp (thn (T.done X rfl rfl rfl hc i pins s3 Al H3 X.xe I3 (stat fr3) st3 stop) fun r s4 ⟨hr,I4⟩=>?_)
  subst hr
  exact Gb ⟨Al,H3,I4,qn⟩
 .refine Fn hp (thn (T.item X rfl rfl rfl hc i pins s3 Al H3 X.xe I3 (stat fr3) st3 go) fun r s4 ⟨u,hr,h4⟩=>?_)
  subst hr
  refine Fn hp (thn h4 fun _ s5 ⟨x,H5,I5,r5,y5,st5,fr5⟩=>?_)
  have I5':=I5.pinned (stat fr5) (T.obj _ _ st5)
  refine Fn hp (thn (hg _ s5 Al H5 x u _ I5' r5 (step x H5 y5)) fun _ s6 ⟨Aw,H6,I6,q6⟩=>?_)
  refine Fn hp (thn (hb _ s6 Aw H6 _ I6 q6) fun f s7 q7=>?_)
  have again:∀ {Aj:St} {H7:Hp},Inv X (pins++f1v fp s5.heap) Aj H7 s7->N Aj H7->∃ m,m < n/\∃ i Aa H',Inv X pins Aa H' s7/\tn i s7.heap/\(∀ b∈fp,H' b=none)/\W i m Aa H':=fun {Aj H7} I7 n7=>by
   obtain⟨m',hm,w7⟩:=hN Aj H7 n7
   refine⟨m',hm,i+1,Aj,H7,I7.d2w,T.keep _ _ _ st5 fun b hb o e=>(I7.pin (b,o) (Cj _ (Cj _ (b3y hb e)))).1,fun b hb=>?_,w7⟩
   obtain⟨o,e,d⟩:=T.obj _ _ st5 b hb
   exact (I7.pin (b,o) (Cj _ (Cj _ (b3y hb e)))).2.1
  cases f with
  | next=>obtain⟨Aj,H7,I7,n7⟩:=q7; exact again I7 n7
  | cont=>obtain⟨Aj,H7,I7,n7⟩:=q7; exact again I7 n7
  | brk=>obtain⟨Aj,H7,I7,q7⟩:=q7; exact⟨Aj,H7,I7.d2w,q7⟩
  | ret v=>obtain⟨x7,Aj,H7,I7,r7,q7⟩:=q7; exact⟨x7,Aj,H7,I7.d2w,r7,q7⟩
end
theorem i0v{a:Addr}{xs:List V}{D:Ends}(Pv:Nat->St->Hp->Prop)(h0:Pv 0 O H)(hl:∀ i O H,i<=xs.length->Pv i O H->SqL K H a xs)
  (hs:∀ i x O H,xs[i]? = some x->Pv i O H->g x O H fun Af H2=>tb { D with nx:=Pv (i+1),ct:=Pv (i+1),bk:=D.nx } Af H2) (hd:∀ O H,Pv xs.length O H->D.nx O H) :
  ∃ W:Nat->Nat->St->Hp->Prop,(∃ m,W 0 m O H)/\∀ i m O H,W i m O H ->
   ((Itl K a).stop i H/\D.nx O H)\/((Itl K a).go i H/\∃ N:St->Hp->Prop,(∀ Aa H',N Aa H'->∃ m',m' < m/\W (i+1) m' Aa H')/\∀ x H',(Itl K a).yld i H x H'->g x O H' fun Af H2=>tb { D with nx:=N,ct:=N,bk:=D.nx } Af H2):=by
 refine⟨fun i m O H=>m=xs.length - i/\i<=xs.length/\Pv i O H,⟨xs.length,by simp,Dx _,h0⟩,?_⟩
 rintro i m O H ⟨rfl,hi,p⟩
 have q:=hl i O H hi p
 by_cases hlt:i < xs.length
 .refine .inr ⟨⟨xs,xs[i],q,by simp [hlt]⟩,Pv (i+1),fun Aa H' p'=>⟨xs.length - (i+1),by lia,rfl,hlt,p'⟩,fun x H' y=>?_⟩
  obtain⟨e,y⟩:=y
  subst e
  exact hs i x O _ (y xs q) p
 .have e:i=xs.length:=by lia
  subst e
  exact .inl ⟨⟨xs,q,C0 _⟩,hd O H p⟩
theorem h4v{lo:Int}{n:Nat}{D:Ends}(Pv:Nat->St->Hp->Prop)(h0:Pv 0 O H)
  (hs:∀ i O H,i < n->Pv i O H->g (.int (lo+i)) O H fun Af H2=>tb { D with nx:=Pv (i+1),ct:=Pv (i+1),bk:=D.nx } Af H2) (hd:∀ O H,Pv n O H->D.nx O H) :
  ∃ W:Nat->Nat->St->Hp->Prop,(∃ m,W 0 m O H)/\∀ i m O H,W i m O H ->
   ((Itr lo n).stop i H/\D.nx O H)\/((Itr lo n).go i H/\∃ N:St->Hp->Prop,(∀ Aa H',N Aa H'->∃ m',m' < m/\W (i+1) m' Aa H')/\∀ x H',(Itr lo n).yld i H x H'->g x O H' fun Af H2=>tb { D with nx:=N,ct:=N,bk:=D.nx } Af H2):=by
 refine⟨fun i m O H=>m=n - i/\i<=n/\Pv i O H,⟨n,by simp,Dx _,h0⟩,?_⟩
 rintro i m O H ⟨rfl,hi,p⟩
 by_cases hlt:i < n
 .refine .inr ⟨hlt,Pv (i+1),fun Aa H' p'=>⟨n - (i+1),by omega,rfl,hlt,p'⟩,fun x H' y=>?_⟩
  obtain⟨e,y⟩:=y
  subst e y
  exact hs i O _ hlt p
 .have e:i=n:=by omega
  subst e
  exact .inl ⟨C0 _,hd O H p⟩
noncomputable abbrev R2:=V->V->Hp->VK->Prop
def OpR(X:Cx)(f:Br->Br->Sem Br)(r:R2):Prop :=
 ∀ (pins:List (Addr×Obj)) (s:Bx) (O:St) (H:Hp) (x y:V) (v u:Br) (Q:VK),Inv X pins O H s->RelV x v->RelV y u->r x y H Q ->
  Ch (model X.prog X.w) X.A (f v u) (EP X pins O Q) X.xe s
def UnR(X:Cx)(f:Br->Sem Br)(r:V->Hp->VK->Prop):Prop :=
 ∀ (pins:List (Addr×Obj)) (s:Bx) (O:St) (H:Hp) (x:V) (v:Br) (Q:VK),Inv X pins O H s->RelV x v->r x H Q ->
  Ch (model X.prog X.w) X.A (f v) (EP X pins O Q) X.xe s
def b0z(X:Cx)(f:Br)(r:List V->Hp->VK->Prop):Prop :=
 ∀ (pins:List (Addr×Obj)) (s:Bx) (O:St) (H:Hp) (xs:List V) (us:List Br) (Q:VK),Inv X pins O H s->Vals xs us->r xs H Q ->
  Ch (model X.prog X.w) X.A (call f us) (EP X pins O Q) X.xe s
def tOp(r:R2)(ta tb:TE):TE:=fun O H Q=>ta O H fun x H1=>tb O H1 fun y H2=>r x y H2 Q
def tUn(r:V->Hp->VK->Prop)(ta:TE):TE:=fun O H Q=>ta O H fun x H1=>r x H1 Q
def rI(C:Int->Int->Prop)(g:Int->Int->V):R2:=fun x y H Q=>∃ i j,x = .int i/\y = .int j/\C i j/\Q (g i j) H
def rI0(g:Int->Int->V):R2:=fun x y H Q=>∃ i j,x = .int i/\y = .int j/\Q (g i j) H
noncomputable def rU(g:Int->V):V->Hp->VK->Prop:=fun x H Q=>∃ i,x = .int i/\Q (g i) H
section
variable {X:Cx}{a b c:Expr}{ta tb tc:TE}{pos:Pos}
variable {f:Br->Br->Sem Br}
theorem j9e(ha:PE X a ta)(hb:PE X b tb){s:Bx}{R:V->V->Hp->Prop}(I:Inv X pins O H s)
  (h:ta O H fun x H1=>tb O H1 fun y H2=>R x y H2) {Q:Br->Bx->Prop} 
  (hf:∀ v u s2 x y H2,Inv X pins O H2 s2->RelV x v->RelV y u->R x y H2->Ch (model X.prog X.w) X.A (f v u) Q X.xe s2) :
  Ch (model X.prog X.w) X.A (eval a X.env) (fun v Ae=>Ch (model X.prog X.w) X.A (eval b X.env) (fun u Ac=>Ch (model X.prog X.w) X.A (f v u) Q X.xe Ac) X.xe Ae) X.xe s:=by
 refine c9u (ha pins s O H _ I h) fun v s1 x H1 I1 r1 q1=>?_
 refine c9u (hb pins s1 O H1 _ I1 q1) fun u s2 y H2 I2 r2 q2=>?_
 exact hf v u s2 x y H2 I2 r1 r2 q2
theorem a0t{op:Nj}{r:R2}(ho:OpR X (Ft op) r)(ha:PE X a ta)(hb:PE X b tb):PE X (.BinOp a op b pos) (tOp r ta tb):=by
 intro pins s O H Q I h
 exact wpAny_BinOp (j9e ha hb I h fun v u s2 x y H2 I2 rx ry q=>ho pins s2 O H2 x y v u Q I2 rx ry q)
theorem i6h{op:UnaryOp}{r:V->Hp->VK->Prop}(ho:UnR X (unaryOp op) r)(ha:PE X a ta):PE X (.UnaryOp op a pos) (tUn r ta):=by
 intro pins s O H Q I h
 exact UnaryOp_ (c9u (ha pins s O H _ I h) fun v s1 x H1 I1 r1 q1=>ho pins s1 O H1 x v Q I1 r1 q1)
variable {g:Int->Int->Int}
theorem opI{C:Int->Int->Prop}
  (rule:∀ (i j:Int) (t u:Tok) (s:Bx) (Q:Br->Bx->Prop) (E:Br->Bx->Prop),C i j->Q (.int (g i j) s.toks) { s with toks:=s.toks+1 }->Ch (model X.prog X.w) X.A (f (.int i t) (.int j u)) Q E s) :
  OpR X f (rI C fun i j=>.int (g i j)):=by
 intro pins s O H x y v u Q I rx ry h
 obtain⟨i,j,rfl,rfl,hc,q⟩:=h
 obtain⟨t,rfl⟩:=rx
 obtain⟨t',rfl⟩:=ry
 exact rule i j t t' s _ _ hc ⟨.int (g i j),H,I.tok _,⟨_,rfl⟩,q⟩
theorem k3e
  (rule:∀ (i j:Int) (t u:Tok) (s:Bx) (Q:Br->Bx->Prop) (E:Br->Bx->Prop),Q (.int (g i j) s.toks) { s with toks:=s.toks+1 }->Ch (model X.prog X.w) X.A (f (.int i t) (.int j u)) Q E s) :
  OpR X f (rI0 fun i j=>.int (g i j)):=by
 intro pins s O H x y v u Q I rx ry h
 obtain⟨i,j,rfl,rfl,q⟩:=h
 obtain⟨t,rfl⟩:=rx
 obtain⟨t',rfl⟩:=ry
 exact rule i j t t' s _ _ ⟨.int (g i j),H,I.tok _,⟨_,rfl⟩,q⟩
theorem j8l{g:Int->Int->Bool}
  (rule:∀ (i j:Int) (t u:Tok) (s:Bx) (Q:Br->Bx->Prop) (E:Br->Bx->Prop),Q (.bool (g i j)) s->Ch (model X.prog X.w) X.A (f (.int i t) (.int j u)) Q E s) :
  OpR X f (rI0 fun i j=>.bl (g i j)):=by
 intro pins s O H x y v u Q I rx ry h
 obtain⟨i,j,rfl,rfl,q⟩:=h
 obtain⟨t,rfl⟩:=rx
 obtain⟨t',rfl⟩:=ry
 exact rule i j t t' s _ _ ⟨.bl (g i j),H,I,rfl,q⟩
def k3f(i j:Int):Prop:=0<=j/\j<=1000000/\i.natAbs < 2 ^ 64
theorem j2c:OpR X (Ft .Add) (rI0 fun i j=>.int (i+j)):=k3e fun _ _ _ _ _ _ _ q=>add_int q
theorem j2d:OpR X (Ft .Sub) (rI0 fun i j=>.int (i - j)):=k3e fun _ _ _ _ _ _ _ q=>sub_int q
theorem i6i:OpR X (Ft .Mod) (rI (fun _ j=>j≠0) fun i j=>.int (i.fmod j)):=opI fun _ _ _ _ _ _ _ hc q=>mod_int' hc q
theorem j2e:OpR X (Ft .Pow) (rI k3f fun i j=>.int (i ^ j.toNat)):=opI fun _ _ _ _ _ _ _ hc q=>pow_int_small hc.1 hc.2.1 hc.2.2 q
theorem unI{f:Br->Sem Br}{g:Int->Int}
  (rule:∀ (i:Int) (t:Tok) (s:Bx) (Q:Br->Bx->Prop) (E:Br->Bx->Prop),Q (.int (g i) s.toks) { s with toks:=s.toks+1 }->Ch (model X.prog X.w) X.A (f (.int i t)) Q E s) :
  UnR X f (rU fun i=>.int (g i)):=by
 intro pins s O H x v Q I rx h
 obtain⟨i,rfl,q⟩:=h
 obtain⟨t,rfl⟩:=rx
 exact rule i t s _ _ ⟨.int (g i),H,I.tok _,⟨_,rfl⟩,q⟩
theorem j2f:UnR X (unaryOp .USub) (rU fun i=>.int (-i)):=unI fun _ _ _ _ _ q=>neg_int q
end
noncomputable def h1o:V->V->Bool
 | .non,.non=>true | .non,.int _=>true | .int _,.non=>true | .non,.bl _=>true | .bl _,.non=>true | .non,.str _=>true | .str _,.non=>true
 | .int _,.int _=>true | .bl _,.bl _=>true | .str _,.str _=>true | .byt _,.byt _=>true
 | .int _,.str _=>true | .str _,.int _=>true | .bl _,.str _=>true | .str _,.bl _=>true
 | _,_=>false
def rEq:R2:=fun x y H Q=>h1o x y=true/\Q (.bl (decide (x=y))) H
def rNe:R2:=fun x y H Q=>h1o x y=true/\Q (.bl (!decide (x=y))) H
theorem h4w{i j:Int}:decide (V.int i=V.int j)=(i == j):=by
 rw [Gv]
 simp
theorem i4l{i j:Bool}:decide (V.bl i=V.bl j)=(i == j):=by
 rw [Gv]
 simp
theorem h4x{i j:Str}:decide (V.str i=V.str j)=(i == j):=by
 rw [Gv]
 simp
theorem h4y{i j:Array UInt8}:decide (V.byt i=V.byt j)=(i.toList == j.toList):=by
 rw [Gv]
 cases i
 cases j
 simp
section
variable {X:Cx}{a b c:Expr}{ta tb tc:TE}{pos:Pos}
theorem a4y{s:Bx}{Q:VK}{k k':Bool}(I:Inv X pins O H s)(q:Q (.bl k) H)(e:k=k'):EP X pins O Q (.bool k') s:=by
 subst e
 exact⟨.bl k,H,I,rfl,q⟩
theorem j9f:OpR X (Dl .Eq) rEq:=by
 intro pins s O H x y v u Q I rx ry h
 obtain⟨hs,q⟩:=h
 cases x with
 | non =>
  cases rx
  cases y with
  | non=>cases ry; exact PySem.EqNone.eq_none_none (a4y I q (by simp))
  | bl j=>cases ry; exact PySem.EqNone.eq_none_bool (a4y I q (by simp))
  | int j=>obtain⟨t',rfl⟩:=ry; exact PySem.EqNone.eq_none_int (a4y I q (by simp))
  | str j=>obtain⟨t',rfl⟩:=ry; exact PySem.EqNone.eq_none_str (a4y I q (by simp))
  | _=>exact absurd (show false=true from hs) Cd
 | bl i =>
  cases rx
  cases y with
  | non=>cases ry; exact PySem.EqNone.eq_bool_none (a4y I q (by simp))
  | bl j=>cases ry; exact eq_bool (a4y I q i4l)
  | str j=>obtain⟨t',rfl⟩:=ry; exact PySem.EqMixed.eq_bool_str (a4y I q (by simp))
  | _=>exact absurd (show false=true from hs) Cd
 | int i =>
  obtain⟨t,rfl⟩:=rx
  cases y with
  | non=>cases ry; exact PySem.EqNone.eq_int_none (a4y I q (by simp))
  | int j=>obtain⟨t',rfl⟩:=ry; exact eq_int (a4y I q h4w)
  | str j=>obtain⟨t',rfl⟩:=ry; exact PySem.EqMixed.eq_int_str (a4y I q (by simp))
  | _=>exact absurd (show false=true from hs) Cd
 | str i =>
  obtain⟨t,rfl⟩:=rx
  cases y with
  | non=>cases ry; exact PySem.EqNone.eq_str_none (a4y I q (by simp))
  | bl j=>cases ry; exact PySem.EqMixed.eq_str_bool (a4y I q (by simp))
  | int j=>obtain⟨t',rfl⟩:=ry; exact PySem.EqMixed.eq_str_int (a4y I q (by simp))
  | str j=>obtain⟨t',rfl⟩:=ry; exact eq_str (a4y I q h4x)
  | _=>exact absurd (show false=true from hs) Cd
 | byt i =>
  obtain⟨t,rfl⟩:=rx
  cases y with
  | byt j=>obtain⟨t',rfl⟩:=ry; exact W.eq_bytes (a4y I q h4y)
  | _=>exact absurd (show false=true from hs) Cd
 | _=>cases y <;> exact absurd (show false=true from hs) Cd
theorem j9g:OpR X (Dl .NotEq) rNe:=by
 intro pins s O H x y v u Q I rx ry h
 obtain⟨hs,q⟩:=h
 cases x with
 | non =>
  cases rx
  cases y with
  | non=>cases ry; exact PySem.EqNone.ne_none_none (a4y I q (by simp))
  | bl j=>cases ry; exact PySem.EqNone.ne_none_bool (a4y I q (by simp))
  | int j=>obtain⟨t',rfl⟩:=ry; exact PySem.EqNone.ne_none_int (a4y I q (by simp))
  | str j=>obtain⟨t',rfl⟩:=ry; exact PySem.EqNone.ne_none_str (a4y I q (by simp))
  | _=>exact absurd (show false=true from hs) Cd
 | bl i =>
  cases rx
  cases y with
  | non=>cases ry; exact PySem.EqNone.ne_bool_none (a4y I q (by simp))
  | bl j=>cases ry; exact ne_bool (a4y I q (congrArg not i4l))
  | str j=>obtain⟨t',rfl⟩:=ry; exact PySem.EqMixed.ne_bool_str (a4y I q (by simp))
  | _=>exact absurd (show false=true from hs) Cd
 | int i =>
  obtain⟨t,rfl⟩:=rx
  cases y with
  | non=>cases ry; exact PySem.EqNone.ne_int_none (a4y I q (by simp))
  | int j=>obtain⟨t',rfl⟩:=ry; exact ne_int (a4y I q (congrArg not h4w))
  | str j=>obtain⟨t',rfl⟩:=ry; exact PySem.EqMixed.ne_int_str (a4y I q (by simp))
  | _=>exact absurd (show false=true from hs) Cd
 | str i =>
  obtain⟨t,rfl⟩:=rx
  cases y with
  | non=>cases ry; exact PySem.EqNone.ne_str_none (a4y I q (by simp))
  | bl j=>cases ry; exact PySem.EqMixed.ne_str_bool (a4y I q (by simp))
  | int j=>obtain⟨t',rfl⟩:=ry; exact PySem.EqMixed.ne_str_int (a4y I q (by simp))
  | str j=>obtain⟨t',rfl⟩:=ry; exact ne_str (a4y I q (congrArg not h4x))
  | _=>exact absurd (show false=true from hs) Cd
 | byt i =>
  obtain⟨t,rfl⟩:=rx
  cases y with
  | byt j=>obtain⟨t',rfl⟩:=ry; exact W.ne_bytes (a4y I q (congrArg not h4y))
  | _=>exact absurd (show false=true from hs) Cd
 | _=>cases y <;> exact absurd (show false=true from hs) Cd
theorem j9h:OpR X (Dl .Lt) (rI0 fun i j=>.bl (decide (i < j))):=j8l fun _ _ _ _ _ _ _ q=>lt_int q
theorem j9i:OpR X (Dl .LtE) (rI0 fun i j=>.bl (decide (i<=j))):=j8l fun _ _ _ _ _ _ _ q=>le_int q
theorem j9j:OpR X (Dl .Gt) (rI0 fun i j=>.bl (decide (j < i))):=j8l fun _ _ _ _ _ _ _ q=>gt_int q
theorem j9k:OpR X (Dl .GtE) (rI0 fun i j=>.bl (decide (j<=i))):=j8l fun _ _ _ _ _ _ _ q=>ge_int q
theorem h4z:OpR X (Dl .In) (fun x y H Q=>∃ i j,x = .str i/\y = .str j/\Q (.bl (!(Eb j i 0 j.length 1).isEmpty)) H):=by
 intro pins s O H x y v u Q I rx ry h
 obtain⟨i,j,rfl,rfl,q⟩:=h
 obtain⟨t,rfl⟩:=rx
 obtain⟨t',rfl⟩:=ry
 exact in_str (a4y I q rfl)
theorem j2g:OpR X (Dl .Is) (fun x y H Q=>y = .non/\Q (.bl (decide (x = .non))) H):=by
 intro pins s O H x y v u Q I rx ry h
 obtain⟨rfl,q⟩:=h
 cases ry
 refine is_none_gen (a4y I q ?_)
 cases x <;> first
  | (cases rx; rfl)
  | (obtain⟨t,rfl⟩:=rx; rfl)
theorem h5a(b:Expr)(h:op≠.In:=by decide)(h2:op≠.NotIn:=by decide):Fa op b=false:=by
 have e1:(op == CmpOp.In)=false:=by cases op <;> first | rfl | exact absurd rfl h
 have e2:(op == Rx)=false:=by cases op <;> first | rfl | exact absurd rfl h2
 cases b <;> simp [Fa,e1,e2]
theorem g6o{r:R2}(ho:OpR X (Dl op) r)(ha:PE X a ta)(hb:PE X b tb)(hm:Fa op b=false):PE X (.Compare a [op] [b] pos) (tOp r ta tb):=by
 intro pins s O H Q I h
 exact wpAny_Compare1 (j9e ha hb I h fun v u s2 x y H2 I2 rx ry q=>ho pins s2 O H2 x y v u Q I2 rx ry q) hm
def j2h(t:TE):TT:=fun O H Q=>t O H fun x H'=>∃ k,x = .bl k/\Q k H'
theorem i6j{r:R2}(ho:OpR X (Dl op) r)(ha:PE X a ta)(hb:PE X b tb)(hm:Fa op b=false):PT X (.Compare a [op] [b] pos) (j2h (tOp r ta tb)):=by
 intro pins s O H Q I h
 refine Ps (c9u (ha pins s O H _ I h) fun v s1 x H1 I1 r1 q1=>c9u (hb pins s1 O H1 _ I1 q1) fun u s2 y H2 I2 r2 q2 =>
  thn (ho pins s2 O H2 x y v u _ I2 r1 r2 q2) fun c s3 ⟨z,H3,I3,r3,k,e,q3⟩=>?_) hm
 subst e
 cases r3
 exact Gi ⟨H3,I3,q3⟩
theorem g2v:(Cb:Nat) < 2 ^ 63:=by rw [Dm]; decide
theorem h1p:OpR X (Ft .Add) (fun x y H Q=>∃ i j,x = .str i/\y = .str j/\i.length+j.length<=Cb/\Q (.str (i++j)) H):=by
 intro pins s O H x y v u Q I rx ry h
 obtain⟨i,j,rfl,rfl,hz,q⟩:=h
 obtain⟨t,rfl⟩:=rx
 obtain⟨t',rfl⟩:=ry
 exact add_str (fun t' tk=>⟨.str (i++j),H,I.tok _,⟨_,rfl⟩,q⟩) hz
theorem vals1{x:V}(r:Vals [x] us):∃ u,us = [u]/\RelV x u:=by
 cases r with
 | cons r1 r2=>cases r2; exact⟨_,rfl,r1⟩
theorem vals2{x y:V}(r:Vals [x,y] us):∃ u w',us = [u,w']/\RelV x u/\RelV y w':=by
 cases r with
 | cons r1 r2 =>
  cases r2 with
  | cons r3 r4=>cases r4; exact⟨_,_,rfl,r1,r3⟩
theorem i0w:b0z X (.builtin "abs") (fun xs H Q=>∃ i,xs = [.int i]/\Q (.int (if i < 0 then -i else i)) H):=by
 intro pins s O H xs us Q I r h
 obtain⟨i,rfl,q⟩:=h
 obtain⟨u,rfl,t,rfl⟩:=vals1 r
 exact call_abs_int fun u tk=>⟨.int (if i < 0 then -i else i),H,I.tok _,⟨_,rfl⟩,q⟩
theorem h5b(hc:X.calm=true):b0z X (.builtin "max") (fun xs H Q=>∃ i j,xs = [.int i,.int j]/\Q (.int (if j > i then j else i)) H):=by
 intro pins s O H xs us Q I r h
 obtain⟨i,j,rfl,q⟩:=h
 obtain⟨u,w',rfl,⟨t,rfl⟩,⟨t',rfl⟩⟩:=vals2 r
 refine max_two_ints (I.ok.hd hc) fun h' tk k=>⟨_,H,I.kept k,?_,q⟩
 by_cases hj:j > i
 .rw [if_pos hj,if_pos hj]; exact⟨_,rfl⟩
 .rw [if_neg hj,if_neg hj]; exact⟨_,rfl⟩
theorem h5c(hc:X.calm=true):b0z X (.builtin "min") (fun xs H Q=>∃ i j,xs = [.int i,.int j]/\Q (.int (if j < i then j else i)) H):=by
 intro pins s O H xs us Q I r h
 obtain⟨i,j,rfl,q⟩:=h
 obtain⟨u,w',rfl,⟨t,rfl⟩,⟨t',rfl⟩⟩:=vals2 r
 refine min_two_ints (I.ok.hd hc) fun h' tk k=>⟨_,H,I.kept k,?_,q⟩
 by_cases hj:j < i
 .rw [if_pos hj,if_pos hj]; exact⟨_,rfl⟩
 .rw [if_neg hj,if_neg hj]; exact⟨_,rfl⟩
theorem g2w:b0z X (.type "int") (fun xs H Q=>(∃ i,xs = [.int i]/\Q (.int i) H)\/∃ k,xs = [.bl k]/\Q (.int (if k then 1 else 0)) H):=by
 intro pins s O H xs us Q I r h
 rcases h with ⟨i,rfl,q⟩ | ⟨k,rfl,q⟩
 .obtain⟨u,rfl,t,rfl⟩:=vals1 r
  exact call_int_int ⟨.int i,H,I,⟨_,rfl⟩,q⟩
 .obtain⟨u,rfl,r1⟩:=vals1 r
  cases r1
  exact call_int_bool ⟨.int (if k then 1 else 0),H,I.tok _,⟨_,rfl⟩,q⟩
theorem g2x:b0z X (.type "str") (fun xs H Q=>∃ i,xs = [.int i]/\i.natAbs.log2 < 1920/\Q (.str (toString i)) H):=by
 intro pins s O H xs us Q I r h
 obtain⟨i,rfl,hz,q⟩:=h
 obtain⟨u,rfl,t,rfl⟩:=vals1 r
 exact PySem.P.str_of_int hz ⟨.str _,H,I.tok _,⟨_,rfl⟩,q⟩
end
structure i6k(h:Heap)(x dx C:Addr)(mA:Str->Option Br):Prop where
 obj:h.get? x=some (Ix C dx)
 ns:h.Ns1 dx mA
 ne:dx≠x
variable {mA:Str->Option Br}
theorem h5d{h:Heap}{dx:Addr}(n:h.Ns1 dx mA):∃ od,h.get? dx=some od/\∀ name,Pj name od=some (mA name):=by
 obtain⟨o,es,ep,ho,hd,hk,_,hm⟩:=n
 refine⟨o,ho,fun name=>?_⟩
 have e:=hm name
 unfold nsFind findBy at e
 rw [<- Array.find?_toList] at e
 unfold Pj
 rw [hd]
 dsimp only
 split
 .rename_i y q
  rw [q] at e
  exact congrArg some e
 .rename_i q
  rw [q] at e
  have a:es.toList.any (·.refKey)=false:=by
   rw [List.any_eq_false]
   intro y hy
   obtain⟨z,t,hkey⟩:=hk y (Nt.mp hy)
   simp [DictEntry.refKey,hkey]
  have a':¬ es.toList.any (·.refKey)=true:=by rw [a]; exact Cd
  rw [if_neg a']
  exact congrArg some e
theorem i6k.look{h:Heap}{x dx C:Addr}(I:i6k h x dx C mA):∃ od,W.InstAt h x (Ix C dx) C (some od)/\∀ name,Pj name od=some (mA name) :=
 let ⟨od,ho,hl⟩:=h5d I.ns
 ⟨od,⟨I.obj,rfl,rfl,ho⟩,hl⟩
variable {kw:List (Str×Br)}
section
variable {prog:Dc}{w:E2}{A:Ds}{E:Br->Bx->Prop}{s:Bx}{K:Bw}{x dx C f:Addr}{mA:Str->Option Br}{name:Str}{v:Br}
theorem get_map{expr:Bool}{Q:Br->Bx->Prop}(X:K.In s.heap)(I:i6k s.heap x dx C mA)(hg:Mu K C name=true)(hh:K8 K C=true)
  (ha:Dk K (.ref C) name=some none) (hv:mA name=some v) (hv':W.handedIn v=true) (h:Q v { s with toks:=s.toks+1 }) :
  Ch (model prog w) A (getAttr (.ref x) name expr) Q E s:=by
 obtain⟨od,J,hl⟩:=I.look
 exact W.get_value X J (Nf hg).1 (W.findObj_own hh ha rfl (by rw [hl,hv])) hv' h
theorem i0x{pl:Sem Bool}{Q:Br×List Br->Bx->Prop}(X:K.In s.heap)(I:i6k s.heap x dx C mA)(hg:Mu K C name=true)
  (hf:Dk K (.ref C) name=some (some (.ref f))) (ht:W.isFn K (.ref f)=true) (hv:mA name=none) (h:Q (.ref f,[.ref x]) s) :
  Ch (model prog w) A (On (.ref x) name pl) Q E s:=by
 obtain⟨od,J,hl⟩:=I.look
 exact W.method_fn X J (Nf hg).1 (Nf hg).2 hf (beq_iff_eq.mp ht) (by show (Pj name od).map (·.isSome)=some false; rw [hl,hv]; rfl) h
theorem i6l{ns:List Str}{Q:Unit->Bx->Prop}(X:K.In s.heap)(I:i6k s.heap x dx C mA)
  (hs:Dk K (.ref C) "__setattr__"=some (some (.builtin "object.__setattr__"))) (hp:W.plainOver K C=true) (ht:R0 K C name=some none) (hh:K8 K C=true)
  (hw:Mt mA ns) (hsz:ns.length<=Cb)
  (h:∀ h',i6k h' x dx C (fun y=>if y=name then some v else mA y)->E7 dx s.heap h'->Q () { s with heap:=h',toks:=s.toks+2 }) :
  Ch (model prog w) A (setAttr (.ref x) name v) Q E s:=by
 obtain⟨od,J,hl⟩:=I.look
 refine W.set_plain X J hs (W.osa_open (s:={ s with toks:=s.toks+1 }) (r:=none) X J hp ht fun b=>?_)
 obtain⟨cd,hc,hd'⟩:=W.any_some hh
 have hx:s.heap.get? x=some ⟨.ref C,some dx,.plain,#[]⟩:=I.obj
 refine Bp (Cf (Bp (Bp (wpAny_loadPart hx (Bp (W.Looks.here (s:={ s with toks:=s.toks+1 }) (W.looks_clsIn X hc) ?_))))))
 rw [hd']
 refine Cf (a:=some dx) (Bp (Cf (Bp ?_)))
 refine wpAny_nsSet1 (s:={ s with toks:=s.toks+1 }) I.ns fun h' hn2 hs2=>?_
 obtain⟨oD,esD,epD,hoD,hdD,hcD⟩:=hn2.count (PySem.Within.cons name v hw)
 refine Bp (wpAny_lookBehind hoD (by rw [hdD]; exact pastItsLine_dict (Bz hcD (by rw [Cq]; lia))) ?_)
 exact Cf (h _ ⟨(hs2.2 _ (Hk I.ne)).trans I.obj,hn2,I.ne⟩ hs2)
theorem i0y{R:Result->Bx->Prop}{vs:List Br}(X:K.In s.heap)(hm:W.makesIn K C=true)
  (hi:Dk K (.ref C) "__init__"=some (some (.ref f))) (hf:W.typeIn K (.ref f)=some (.type "function"))
  (h:J1 (model prog w) (A.under (.builtin "type.__call__" ⟨.ref C :: vs,kw⟩)) (.call (.ref f) ⟨.ref (s.heap.objs.size+1) :: vs,kw⟩) (W.InitBack (s.heap.objs.size+1) R)
   { s with heap:=(s.heap.push Gk).push (Ix C s.heap.objs.size) }) :
  J1 (model prog w) A (.call (.ref C) ⟨vs,kw⟩) R s:=by
 obtain⟨hh,g,d,t,os⟩:=s
 exact W.make_core (W.makes_of X hm) (W.looks_findIn X hi) (fun self=>W.bind_fn X self hf) (.inl rfl) h
end
noncomputable def f1l(f:Str)(v:V):List (Str×V)->List (Str×V)
 | []=>[(f,v)]
 | (g,x) :: r=>if g=f then (g,v) :: r else (g,x) :: f1l f v r
theorem f1w(f g:Str)(v:V):∀ fs:List (Str×V),(f1l f v fs).lookup g=if g=f then some v else fs.lookup g
 | []=>by
  show Gg g [(f,v)]=_
  by_cases h:g=f
  .have hb:(g == f)=true:=beq_iff_eq.mpr h
   simp only [Gg,hb,if_pos h]
  .have hb:(g == f)=false:=beq_eq_false_iff_ne.mpr h
   simp only [Gg,hb,if_neg h]
 | (k,x) :: r=>by
  have ih:=f1w f g v r
  rw [show f1l f v ((k,x) :: r)=(if k=f then (k,v) :: r else (k,x) :: f1l f v r) from rfl]
  by_cases hk:k=f
  .rw [if_pos hk]
   by_cases h:g=k
   .have hb:(g == k)=true:=beq_iff_eq.mpr h
    simp only [Gg,hb,if_pos (h.trans hk)]
   .have hb:(g == k)=false:=beq_eq_false_iff_ne.mpr h
    simp only [Gg,hb,if_neg (fun e:g=f=>h (e.trans hk.symm))]
  .rw [if_neg hk]
   by_cases h:g=k
   .have hb:(g == k)=true:=beq_iff_eq.mpr h
    simp only [Gg,hb,if_neg (fun e:g=f=>hk (h.symm.trans e))]
   .have hb:(g == k)=false:=beq_eq_false_iff_ne.mpr h
    simp only [Gg,hb]
    exact ih
theorem f1y(f:Str)(v:V):∀ fs:List (Str×V),f∈(f1l f v fs).map (·.1)/\∀ g,g∈fs.map (·.1)->g∈(f1l f v fs).map (·.1)
 | []=>⟨by simp [f1l],fun g h=>by simp at h⟩
 | (k,x) :: r=>by
  obtain⟨i1,i2⟩:=f1y f v r
  rw [show f1l f v ((k,x) :: r)=(if k=f then (k,v) :: r else (k,x) :: f1l f v r) from rfl]
  by_cases hk:k=f
  .rw [if_pos hk]
   subst hk
   exact⟨by simp,fun g h=>by simpa using h⟩
  .rw [if_neg hk]
   refine⟨?_,fun g h=>?_⟩
   .rw [Es]
    exact Ci _ i1
   .rw [Es] at h ⊢
    rcases Db.mp h with e | e
    .exact Db.mpr (.inl e)
    .exact Ci _ (i2 g e)
theorem f1z(f:Str)(v:V):∀ fs:List (Str×V),(f1l f v fs).length<=fs.length+1
 | []=>by simp [f1l]
 | (k,x) :: r=>by
  have ih:=f1z f v r
  rw [show f1l f v ((k,x) :: r)=(if k=f then (k,v) :: r else (k,x) :: f1l f v r) from rfl]
  by_cases hk:k=f
  .rw [if_pos hk,Cq,Cq]; lia
  .rw [if_neg hk,Cq,Cq]; lia
variable {o:Option Br}
theorem g6g.some_of(r:g6g (some v) o):∃ u,o=some u/\RelV v u:=by
 cases o with
 | none=>exact (show False from r).elim
 | some u=>exact⟨u,rfl,r⟩
theorem g6g.none_of(r:g6g none o):o=none:=by
 cases o with
 | none=>rfl
 | some u=>exact (show False from r).elim
theorem h5e(r:RelV v u):W.handedIn u=true:=by
 cases v with
 | non=>cases (show u=Ge from r); rfl
 | bl b=>cases (show u=K9 b from r); rfl
 | int i=>obtain⟨t,e⟩:=(show ∃ t,u=Ja i t from r); cases e; rfl
 | str x=>obtain⟨t,e⟩:=(show ∃ t,u=J9 x t from r); cases e; rfl
 | byt b=>obtain⟨t,e⟩:=(show ∃ t,u=Rr b t from r); cases e; rfl
 | flt b=>obtain⟨t,e⟩:=(show ∃ t,u=Ng b t from r); cases e; rfl
 | ref a=>cases (show u=Do a from r); rfl
 | ty n=>cases (show u=Ly n from r); rfl
section
variable {P:Dc}{w:E2}{H H':Hp}{h h':Heap}{a C dx:Addr}{fs fs':List (Str×V)}
theorem f9r(hok:HOk P w H h)(e:H a=some (.ins C dx fs)):∃ mA,i6k h a dx C mA/\(∀ f,g6g (fs.lookup f) (mA f))/\Mt mA (fs.map (·.1))/\fs.length<=1000/\H dx=some (.own a):=by
 obtain⟨d,z,ne,ob,mA,n,r,q⟩:=(show b3k P w H h a (.ins C dx fs) from hok a _ e)
 exact⟨mA,⟨ob,n,ne⟩,r,q,z,d⟩
end
structure Cls(K:Bw)(C:Addr):Prop where
 pg:Mu K C F6=true
 hd:K8 K C=true
 po:W.plainOver K C=true
 sa:Dk K (.ref C) "__setattr__"=some (some (.builtin "object.__setattr__"))
theorem Cls.get{C:Addr}(c:Cls K C)(f:Str):Mu K C f=true:=c.pg
def a2i(K:Bw)(C:Addr)(f:Str):Prop:=Dk K (.ref C) f=some none
theorem a2i.taker{C:Addr}{f:Str}(n:a2i K C f):R0 K C f=some none:=by
 unfold R0
 rw [show Dk K (.ref C) f=some none from n]
 rfl
structure Con(K:Bw)(C:Addr)(f:Str)(v:V)(u:Br):Prop where
 at_:Dk K (.ref C) f=some (some u)
 rel:RelV v u
 get:Ip K u "__get__"=some none
 cp:W.copiedNames.contains f=false
structure Meth(K:Bw)(C:Addr)(m:Str)(f:Addr):Prop where
 at_:Dk K (.ref C) m=some (some (.ref f))
 fn:W.isFn K (.ref f)=true
 kp:Jj K (.ref f)=true
section
variable {X:Cx}{pins:List (Addr×Obj)}{O:St}{H:Hp}{s:Bx}{a C dx:Addr}{fs:List (Str×V)}{f:Str}{v:V}{A:Ds}{E:Br->Bx->Prop}
theorem h1q{b:Bool}{Q:Br->Bx->Prop}(I:Inv X pins O H s)(e:H a=some (.ins C dx fs))(c:Cls X.K C)(n:a2i X.K C f)(l:fs.lookup f=some v)
  (h:∀ u s',Inv X pins O H s'->RelV v u->Q u s'):Ch (model X.prog X.w) A (getAttr (.ref a) f b) Q E s:=by
 obtain⟨mA,Bo,r,_,_,_⟩:=f9r I.hok e
 obtain⟨u,hu,ru⟩:=g6g.some_of (v:=v) (o:=mA f) (by rw [<- l]; exact r f)
 exact get_map I.kIn Bo (c.get f) c.hd n hu (h5e ru) (h u _ (I.tok _) ru)
theorem f7u{m:Str}{g:Addr}{pl:Sem Bool}{Q:Br×List Br->Bx->Prop}(I:Inv X pins O H s)(e:H a=some (.ins C dx fs))(c:Cls X.K C)(k:Meth X.K C m g)(l:fs.lookup m=none)
  (h:Q (.ref g,[.ref a]) s):Ch (model X.prog X.w) A (On (.ref a) m pl) Q E s:=by
 obtain⟨mA,Bo,r,_,_,_⟩:=f9r I.hok e
 have hn:mA m=none:=g6g.none_of (by rw [<- l]; exact r m)
 exact i0x I.kIn Bo (c.get m) k.at_ k.fn hn h
theorem h1r{y:V}{Q:Unit->Bx->Prop}(I:Inv X pins O H s)(e:H a=some (.ins C dx fs))(c:Cls X.K C)(n:a2i X.K C f)(hl:fs.length < 1000)(ry:RelV y u)
  (h:∀ s',Inv X pins O (upd H a (.ins C dx (f1l f y fs))) s'->Q () s'):Ch (model X.prog X.w) A (setAttr (.ref a) f u) Q E s:=by
 obtain⟨mA,Bo,r,wi,_,ho⟩:=f9r I.hok e
 have hz:(fs.map (·.1)).length<=Cb:=by rw [Bv,Dm]; lia
 refine i6l I.kIn Bo c.sa c.po n.taker c.hd wi hz fun h' O' sb=>h _ ?_
 have hd:∃ o,h'.get? dx=some o:=let ⟨o,_,_,e',_⟩:=O'.ns; ⟨o,e'⟩
 refine I.write (x:=a) (e:=dx) (by rw [e]; exact F8) (.inr ho) (fun b q hb z=>(sb.2 b hb).trans z) hd ?_
 refine⟨by rw [a3w Bo.ne]; exact ho,?_,Bo.ne,O'.obj,_,O'.ns,fun g=>?_,fun g hg=>?_⟩
 .have:=f1z f y fs; lia
 .show g6g ((f1l f y fs).lookup g) (if g=f then some u else mA g)
  rw [f1w]
  by_cases q:g=f
  .rw [if_pos q,if_pos q]; exact ry
  .rw [if_neg q,if_neg q]; exact r g
 .by_cases q:g=f
  .rw [q]; exact (f1y f y fs).1
  .refine (f1y f y fs).2 g (wi g fun z=>hg ?_)
   show (if g=f then some u else mA g)=none
   rw [if_neg q]; exact z
theorem Inv.made(I:Inv X pins O H s):Inv X pins O (upd (upd H s.heap.objs.size (.own (s.heap.objs.size+1))) (s.heap.objs.size+1) (.ins C s.heap.objs.size []))
  { s with heap:=(s.heap.push Gk).push (Ix C s.heap.objs.size) }:=by
 have e1:(s.heap.push Gk).get? s.heap.objs.size=some Gk:=Cg s.heap rfl
 have e2:((s.heap.push Gk).push (Ix C s.heap.objs.size)).get? (s.heap.objs.size+1)=some (Ix C s.heap.objs.size):=by
  have:=Cg (s.heap.push Gk) (o:=Ix C s.heap.objs.size) rfl
  rwa [Gf] at this
 have e3:(s.heap.push Gk).Ns s.heap.objs.size (fun _=>none):=⟨Gk,#[],_,e1,rfl,(fun e he=>absurd he (by simp)),fun _=>rfl⟩
 have I1:=I.laid (a:=s.heap.objs.size) (o:=.own (s.heap.objs.size+1)) (h':=s.heap.push Gk) (t':=s.toks) (fun b u q=>Bt _ q) (C0 _) ⟨_,e1⟩
 refine I1.laid (a:=s.heap.objs.size+1) (o:=.ins C s.heap.objs.size []) (t':=s.toks) (fun b u q=>Bt _ q) (Nat.le_of_eq (Gf _ _)) ?_
 have ne:s.heap.objs.size≠s.heap.objs.size+1:=D2 (Qb _)
 refine⟨by rw [a3w ne,a2v],Dx _,ne,e2,fun _=>none,(Heap.Ns1.of_empty e3).at fun o q=>Bt _ q,fun _=>F8,fun y hy=>absurd rfl hy⟩
theorem i6m{prog:Dc}{env:Env}{s:Bx}{Q:Br->Bx->Prop}(hb:Fb e f env (eval e env)=eval e env)
  (h:Ch (model prog w) A (eval e env) (fun o Ae=>Ch (model prog w) A (getAttr o f true) Q E Ae) E s):Ch (model prog w) A (eval (.Attribute e f pos) env) Q E s :=
 Attribute_any_ h (by rw [arm_eval_Attribute,hb])
end
def k3g(K:Bw)(ta:TE)(f:Str):TE:=fun O H Q=>ta O H fun x H1=>∃ a C dx fs v,x = .ref a/\H1 a=some (.ins C dx fs)/\Cls K C/\a2i K C f/\fs.lookup f=some v/\Q v H1
def k3h(X:Cx)(op:Nj)(rd:V->V->Hp->VK->Prop):Prop :=
 ∀ (pins:List (Addr×Obj)) (s:Bx) (O:St) (H:Hp) (x y:V) (u v:Br) (Q:VK),Inv X pins O H s->RelV x u->RelV y v->rd x y H Q->Ch (model X.prog X.w) X.A (inplaceOp op u v) (EP X pins O Q) X.xe s
section
variable {X:Cx}{o e value:Expr}{f:Str}{pos pos' tpos:Pos}{ta tv:TE}
theorem j2i(he:PE X e ta)(hb:Fb e f X.env (eval e X.env)=eval e X.env):PE X (.Attribute e f pos) (k3g X.K ta f):=by
 intro pins s O H Q I h
 refine i6m hb (thn (he pins s O H _ I h) fun u s1 ⟨x,H1,I1,rx,a,C,dx,fs,v,ex,ea,c,n,l,q⟩=>?_)
 subst ex
 obtain rfl:u=Do a:=rx
 exact h1q I1 ea c n l fun u' s2 I2 ru=>⟨v,H1,I2,ru,q⟩
noncomputable def rAdd:V->V->Hp->VK->Prop:=fun x y H Q=>∃ i j,x = .int i/\y = .int j/\Q (.int (i+j)) H
theorem j2j:k3h X .Add rAdd:=by
 rintro pins s O H x y u v Q I rx ry ⟨i,j,rfl,rfl,q⟩
 obtain⟨t,rfl⟩:=(show ∃ t,u=Ja i t from rx)
 obtain⟨t',rfl⟩:=(show ∃ t',v=Ja j t' from ry)
 exact PyProof.Rows.iadd_int ⟨.int (i+j),H,I.tok _,⟨_,rfl⟩,q⟩
end
section
variable {X:Cx}{pins:List (Addr×Obj)}{O:St}{H:Hp}{s:Bx}{A:Ds}{E:Br->Bx->Prop}{Q:Br->Bx->Prop}{c:Br}{b:Bool}
inductive h1s(K:Bw)(H:Hp):V->Br->Prop where
 | non:h1s K H .non (.type "NoneType")
 | bl (x:Bool):h1s K H (.bl x) (.type "bool")
 | int (i:Int):h1s K H (.int i) (.type "int")
 | str (x:Str):h1s K H (.str x) (.type "str")
 | flt (x:UInt64):h1s K H (.flt x) (.type "float")
 | lst {a:Addr} {xs:List V} (e:H a=some (.lst xs)):h1s K H (.ref a) (.type "list")
 | frz {a:Addr} {o:Obj} {xs:List V} (e:H a=some (.frz o (.lst xs))):h1s K H (.ref a) (.type "list")
 | tup {a:Addr} {xs:List V} (e:H a=some (.tup xs)):h1s K H (.ref a) (.type "tuple")
 | dK {a:Addr} {kvs:List (Key×V)} (e:H a=some (.dK kvs)):h1s K H (.ref a) (.type "dict")
 | dT {a:Addr} {kvs:List (List Key×V)} (e:H a=some (.dT kvs)):h1s K H (.ref a) (.type "dict")
 | ins {a C dx:Addr} {fs:List (Str×V)} (e:H a=some (.ins C dx fs)) (cl:Cls K C) (ha:Dk K (.ref C) "__class__"=some (some (.builtin "object.__class__")))
   (hn:Ip K (.builtin "object.__class__") "__get__"=some (some (.builtin "getset_descriptor.__get__"))) (htk:Oq K (.builtin "object.__class__")=some true)
   (hm:Pu K C (.type "object")=some true):h1s K H (.ref a) (.ref C)
theorem h5f{x:V}{u t:Br}(I:Inv X pins O H s)(rx:RelV x u)(ty:h1s X.K H x t)(e:W.kitOne X.K t c=some b)(h:∀ tk,Q (.bool b) { s with toks:=tk }) :
  Ch (model X.prog X.w) A (call (.builtin "isinstance") [u,c]) Q E s:=by
 cases ty with
 | non=>cases (show u=Ge from rx); exact Gp W.kitx_none I.kIn F8 e (fun z=>nomatch z) h
 | bl y=>cases (show u=K9 y from rx); exact Gp W.kitx_bool I.kIn F8 e (fun z=>nomatch z) h
 | int i=>obtain⟨t,q⟩:=(show ∃ t,u=Ja i t from rx); cases q; exact Gp W.kitx_int I.kIn F8 e (fun z=>nomatch z) h
 | str y=>obtain⟨t,q⟩:=(show ∃ t,u=J9 y t from rx); cases q; exact Gp W.kitx_str I.kIn F8 e (fun z=>nomatch z) h
 | flt y=>obtain⟨t,q⟩:=(show ∃ t,u=Ng y t from rx); cases q; exact Gp W.kitx_float I.kIn F8 e (fun z=>nomatch z) h
 | @lst a xs ea =>
  cases (show u=Do a from rx)
  obtain⟨_,_,n,_,h1⟩:=(show b3k X.prog X.w H s.heap a (.lst xs) from I.hok a _ ea)
  exact Gp W.kitx_list I.kIn ⟨_,h1,rfl⟩ e (fun z=>nomatch z) h
 | @frz a ob xs ea =>
  cases (show u=Do a from rx)
  obtain⟨_,_,_,n,_,h1⟩:=(show b3k X.prog X.w H s.heap a (.frz ob (.lst xs)) from I.hok a _ ea)
  exact Gp W.kitx_list I.kIn ⟨_,h1,rfl⟩ e (fun z=>nomatch z) h
 | @tup a xs ea =>
  cases (show u=Do a from rx)
  obtain⟨_,_,_,p⟩:=(show b3k X.prog X.w H s.heap a (.tup xs) from I.hok a _ ea)
  obtain⟨o,h1,h2,_⟩:=p
  exact Gp W.kitx_tuple I.kIn ⟨o,h1,h2⟩ e (fun z=>nomatch z) h
 | @dK a kvs ea =>
  cases (show u=Do a from rx)
  obtain⟨_,_,vs,_,p⟩:=(show b3k X.prog X.w H s.heap a (.dK kvs) from I.hok a _ ea)
  obtain⟨o,es,ep,h1,h2,_⟩:=p
  exact Gp W.kitx_dict I.kIn ⟨o,h1,h2.1⟩ e (fun z=>nomatch z) h
 | @dT a kvs ea =>
  cases (show u=Do a from rx)
  obtain⟨_,_,xs,_,o,es,ep,h1,h2,_⟩:=(show b3k X.prog X.w H s.heap a (.dT kvs) from I.hok a _ ea)
  exact Gp W.kitx_dict I.kIn ⟨o,h1,h2.1⟩ e (fun z=>nomatch z) h
 | @ins a C dx fs ea cl ha hn htk hm =>
  cases (show u=Do a from rx)
  obtain⟨mA,Bo,_⟩:=f9r I.hok ea
  obtain⟨od,J,_⟩:=Bo.look
  exact Gp (W.kitx_own (cl.get _) cl.hd ha hn htk hm) I.kIn J e (fun z=>nomatch z) h
end
structure b2u(k:Nat)(A:Ds):Prop where
 hd:A.handled=none
 dp:A.depth+3*k+5 < Na
 un:A.units+16*k+200 < Im
theorem b2u.mono{j k:Nat}(r:b2u k A)(h:j<=k):b2u j A:=⟨r.hd,by have:=r.dp; lia,by have:=r.un; lia⟩
theorem b2u.deeper{k:Nat}(r:b2u (k+1) A)(env:Env):b2u k (A.deeper env) :=
 ⟨r.hd,by have:=r.dp; show A.depth+1+3*k+5 < _; lia,by have:=r.un; show A.units+3+16*k+200 < _; lia⟩
theorem h1u{C:Addr}:(A.under (.builtin "type.__call__" ⟨.ref C :: us,kw⟩)).depth=A.depth+1:=by
 first | rfl | simp [Mp,Code.weight,Code.isCreation,Code.isGuard,Code.isCaller,Code.frames,N4,guardIds]
theorem h1v{C:Addr}:(A.under (.builtin "type.__call__" ⟨.ref C :: us,kw⟩)).units=A.units+1:=by
 first | rfl | simp [Mp,Code.cUnits,Code.frames,N4]
theorem b2u.make{k:Nat}(r:b2u (k+1) A)(C:Addr)(us:List Br)(kw:List (Str×Br)):b2u k (A.under (.builtin "type.__call__" ⟨.ref C :: us,kw⟩)) :=
 ⟨r.hd,by have:=r.dp; rw [h1u]; omega,by have:=r.un; rw [h1v]; omega⟩
theorem b2u.depth{k:Nat}(r:b2u k A):A.depth < Na:=by have:=r.dp; lia
theorem b2u.units{k:Nat}(r:b2u k A):A.units+64 < Im:=by have:=r.un; lia
def f7v:TA:=fun _ H Q=>Q [] H
def i6n(ta:TE)(tr:TA):TA:=fun O H Q=>ta O H fun x H1=>tr O H1 fun xs H2=>Q (x :: xs) H2
section
variable {X:Cx}{e:Expr}{es:List Expr}{te:TE}{t:TA}{pos:Pos}
theorem a0i:PA X [] f7v:=fun _ _ _ _ H Q I h=>Calls.spliced_nil ⟨[],H,I,.nil,h⟩
theorem a0g(ha:PE X e te)(hr:PA X es t)(hs:Cs (e :: es) X.env=(false,eval e X.env) :: Cs es X.env:=by rfl):PA X (e :: es) (i6n te t):=by
 intro pos pins s O H Q I h
 rw [hs]
 show Ch _ _ (spliced ((false,eval e X.env) :: Ew pos (Cs es X.env))) _ _ s
 refine Calls.spliced_cons (c9u (ha pins s O H _ I h) fun u s1 x H1 I1 r1 q1=>?_)
 exact h1j (hr pos pins s1 O H1 _ I1 q1) fun us s2 xs H2 I2 r2 q2=>⟨x :: xs,H2,I2,.cons r1 r2,q2⟩
end
noncomputable abbrev Sp:=List V->Hp->VK->XK->Prop
noncomputable abbrev CXT:=List Env->Hp->Bx->XK->Br->Bx->Prop
structure i4m(P:Dc)(w:E2)(K:Bw)(mg:Str->Option Br)(base:Heap)(A:Ds)(outer:List Env)(s:Bx)(H:Hp):Prop where
 frames:A.frames=some outer
 mod:Mod K mg base
 bs:∀ b o,base.get? b=some o->s.heap.get? b=some o/\H b=none
 bsz:base.objs.size<=s.heap.objs.size
 h4f:s.heap.FunFrames base outer
 frf:∀ b∈frs outer,H b=none
 hok:HOk P w H s.heap
 bare:Ji s.gens
def CE(outer:List Env)(P:Dc)(w:E2)(H:Hp)(s:Bx)(Q:VK)(u:Br)(s':Bx):Prop :=
 ∃ v H',s'.os=s.os/\Ji s'.gens/\Un (frs outer) [] H H' s.heap s'.heap/\HOk P w H' s'.heap/\RelV v u/\Q v H'
def CR(CX:CXT)(outer:List Env)(P:Dc)(w:E2)(H:Hp)(s:Bx)(Q:VK)(E:XK)(r:Result)(s':Bx):Prop :=
 match r with
 | .ok (.ret u)=>CE outer P w H s Q u s'
 | .ok _=>False
 | .error e=>CX outer H s E e s'
structure a1j(P:Dc)(w:E2)(K:Bw)(mg:Str->Option Br)(base:Heap)(CX:CXT)(k:Nat)(f:Addr)(fd:C8)(ps:List Str)(sp:Sp):Prop where
 len:∀ vs H Q E,sp vs H Q E->vs.length=ps.length
 run:∀ (A:Ds) (outer:List Env) (s:Bx) (H:Hp) (args:Args) (us:List Br) (vs:List V) (Q:VK) (E:XK),b2u k A->i4m P w K mg base A outer s H->M3 s fd args (ps.zip us)->Vals vs us->sp vs H Q E ->
  J1 (model P w) A (.call (.ref f) args) (CR CX outer P w H s Q E) s
variable {mg:Str->Option Br}{base:Heap}{outer:List Env}
theorem i4m.make{s:Bx}(e:i4m P w K mg base A outer s H)(C:Addr)(us:List Br)(kw:List (Str×Br)) :
  i4m P w K mg base (A.under (.builtin "type.__call__" ⟨.ref C :: us,kw⟩)) outer s H:=⟨by first | exact e.frames | (simpa [Mp,Code.envs,N4,pushEnvs] using e.frames),e.mod,e.bs,e.bsz,e.h4f,e.frf,e.hok,e.bare⟩
section
variable {X:Cx}{pins:List (Addr×Obj)}{O:St}{H:Hp}{s s':Bx}
theorem Inv.env0(I:Inv X pins O H s):i4m X.prog X.w X.K X.mg X.base X.A X.stack s H :=
 ⟨I.ok.frames,I.ok.mod,I.bs,Bz I.ok.bsz I.sz,I.stack,I.g6n,I.hok,I.bare⟩
theorem Inv.after{Q:VK}(I:Inv X pins O H s)(h:CE X.stack X.prog X.w H s Q u s'):EP X pins O Q u s':=by
 obtain⟨v,H',os,bare,un,hok,r,q⟩:=h
 obtain⟨hh,g,d,t,os'⟩:=s'
 obtain rfl:os'=s.os:=os
 exact⟨v,H',I.call (h':=hh) (g':=g) (d':=d) (t':=t) (ch:=[]) un hok bare (fun b z=>absurd z (by simp)),r,q⟩
end
def i0z(sp:Sp)(dvs:List V)(E:XK)(t:TA):TE:=fun O H Q=>t O H fun vs H1=>sp (vs++dvs) H1 Q E
def Binds(K:Bw)(fd:C8)(ps:List Str)(ds:List Br):Prop :=
 ∀ (s:Bx) (us:List Br),K.In s.heap->(us++ds).length=ps.length->M3 s fd ⟨us,[]⟩ (ps.zip (us++ds))
theorem Binds.all{fd:C8}{ps:List Str}(h:∀ us:List Br,us.length=ps.length->bindArgs fd ⟨us,[]⟩=pure (ps.zip us)):Binds K fd ps []:=fun s us _ hl=>by
 rw [Jc] at hl ⊢
 exact .of_eq (h us hl)
def Passes(CX:CXT)(X:Cx)(E:XK):Prop:=∀ (pins:List (Addr×Obj)) (O:St) (H:Hp) (s:Bx) (e:Br) (s':Bx),Inv X pins O H s->CX X.stack H s E e s'->X.xe e s'
variable {vs:List V}
section
variable {X:Cx}{CX:CXT}{k:Nat}{f C:Addr}{fd:C8}{ps:List Str}{sp:Sp}{dvs:List V}{ds:List Br}{E:XK}{x m:Str}{p pos apos:Pos}{e o:Expr}{es:List Expr}{ta:TE}{t:TA}
theorem g9l{s:Bx}{Q:VK}(F:a1j X.prog X.w X.K X.mg X.base CX k f fd ps sp)(hr:b2u k X.A)(hb:Binds X.K fd ps ds)(hd:Vals dvs ds)(hx:Passes CX X E)
  (I:Inv X pins O H s) (r:Vals vs us) (h:sp (vs++dvs) H Q E):Ch (model X.prog X.w) X.A (call (.ref f) us) (EP X pins O Q) X.xe s:=by
 have r2:Vals (vs++dvs) (us++ds):=r.append hd
 have hl:(us++ds).length=ps.length:=by rw [<- r2.length]; exact F.len _ _ _ _ h
 refine Qu (Iz (F.run X.A X.stack s H ⟨us,[]⟩ (us++ds) (vs++dvs) Q E hr I.env0 (hb s us I.kIn hl) r2 h) fun r s' hq=>?_)
 cases r with
 | error e=>exact hx pins O H s e s' I hq
 | ok fl =>
  cases fl with
  | ret u=>exact I.after hq
  | next=>exact Bq hq
  | brk=>exact Bq hq
  | cont=>exact Bq hq
theorem i6o(F:a1j X.prog X.w X.K X.mg X.base CX k f fd ps sp)(hr:b2u k X.A)(hg:Gl X x)(hm:X.mg x=some (.ref f))(hk:Jj X.K (.ref f)=true)(hb:Binds X.K fd ps ds)(hd:Vals dvs ds)(hx:Passes CX X E)
  (ha:PA X (e :: es) t) (hdb:(x == ("__debug__":Str))=false:=by decide) (he:Cs (e :: es) X.env=(false,eval e X.env) :: Cs es X.env:=by rfl) (hpl:(Ew pos (Cs es X.env)).any (·.1)=false:=by rfl) :
  PE X (.Call (.Name x p) (e :: es) [] pos) (i0z sp dvs E t):=by
 intro pins s O H Q I h
 refine G7 (f9m I hg hm ?_ hdb)
 refine Lh (h₀:=X.base) I.ok.mod.kin hk (h1j (ha pos pins s O H _ I h) fun us s1 vs H1 I1 r q=>⟨I1.kIn,?_⟩) he hpl
 exact g9l F hr hb hd hx I1 r q
structure Mk(K:Bw)(C f:Addr):Prop where
 makes:W.makesIn K C=true
 init:Dk K (.ref C) "__init__"=some (some (.ref f))
 fn:W.isFn K (.ref f)=true
 kp:Jj K (.ref C)=true
theorem g9m{s:Bx}{Q:VK}(M:Mk X.K C f)(F:a1j X.prog X.w X.K X.mg X.base CX k f fd ps sp)(hr:b2u (k+1) X.A)(hb:Binds X.K fd ps ds)(hd:Vals dvs ds)
  (hx:Passes CX X E) (I:Inv X pins O H s) (r:Vals vs us)
  (h:∀ x dx,H x=none->H dx=none->dx≠x->sp (.ref x :: (vs++dvs)) (upd (upd H dx (.own x)) x (.ins C dx [])) (fun v H2=>v = .non/\Q (.ref x) H2) E) :
  Ch (model X.prog X.w) X.A (call (.ref C) us) (EP X pins O Q) X.xe s:=by
 have hq:=h (s.heap.objs.size+1) s.heap.objs.size (I.hok.fresh (Jx _)) (I.hok.fresh (C0 _)) (D2 (Qb _))
 have I2:=Inv.made (C:=C) I
 have r2:Vals (V.ref (s.heap.objs.size+1) :: (vs++dvs)) (Do (s.heap.objs.size+1) :: (us++ds)):=.cons rfl (r.append hd)
 have hl:(Do (s.heap.objs.size+1) :: us++ds).length=ps.length:=by
  have e:=r2.length
  rw [F.len _ _ _ _ hq] at e
  exact e.symm
 refine Qu (i0y (f:=f) I.kIn M.makes M.init (beq_iff_eq.mp M.fn) (Iz (F.run _ X.stack _ _ ⟨Do (s.heap.objs.size+1) :: us,[]⟩ (Do (s.heap.objs.size+1) :: (us++ds)) _ _ E (hr.make C us [])
  (I2.env0.make C us []) (hb _ (Do (s.heap.objs.size+1) :: us) I2.kIn hl) r2 hq) fun r s' hq'=>?_))
 cases r with
 | error e=>exact hx pins O _ _ e s' I2 hq'
 | ok fl =>
  cases fl with
  | ret u =>
   obtain⟨v,H',I3,rv,ev,q3⟩:=I2.after hq'
   subst ev
   exact⟨rv,⟨V.ref (s.heap.objs.size+1),H',I3,rfl,q3⟩⟩
  | next=>exact Bq hq'
  | brk=>exact Bq hq'
  | cont=>exact Bq hq'
end
def PK(X:Cx)(kws:List Jw)(t:TA):Prop :=
 ∀ (pos:Pos) (pins:List (Addr×Obj)) (s:Bx) (O:St) (H:Hp) (Q:List V->Hp->Prop),Inv X pins O H s->t O H Q->Ch (model X.prog X.w) X.A (evalAll ((Gc pos (Et kws X.env)).map (·.2))) (AP X pins O Q) X.xe s
section
variable {X:Cx}{CX:CXT}{k:Nat}{f C:Addr}{fd:C8}{ps ks:List Str}{sp:Sp}{E:XK}{x m:Str}{p pos apos kpos:Pos}{e o:Expr}{es:List Expr}{kws:List Jw}{te ta:TE}{t tk:TA}{nm:Option Str}
theorem j2k:PK X [] f7v:=fun _ _ _ _ H Q I h=>wpAny_evalAll_nil ⟨[],H,I,.nil,h⟩
theorem i6p(ha:PE X e te)(hr:PK X kws t):PK X (⟨nm,e,kpos⟩ :: kws) (i6n te t):=by
 intro pos pins s O H Q I h
 show Ch _ _ (evalAll ((do let v <- eval e X.env; Pf pos; pure v) :: (Gc pos (Et kws X.env)).map (·.2))) _ _ s
 refine wpAny_evalAll_cons (Bp (c9u (ha pins s O H _ I h) fun u s1 x H1 I1 r1 q1=>Bp (Ik (Cf ?_))))
 exact h1j (hr pos pins s1 O H1 _ I1 q1) fun us s2 xs H2 I2 r2 q2=>⟨x :: xs,H2,I2,.cons r1 r2,q2⟩
structure k3i(K:Bw)(fd:C8)(ps ks:List Str)(g:List Br->List Br->List Br)(gV:List V->List V->List V):Prop where
 to:∀ (s:Bx) (us ws:List Br),K.In s.heap->(g us ws).length=ps.length->M3 s fd ⟨us,ks.zip ws⟩ (ps.zip (g us ws))
 rel:∀ {vs:List V} {us:List Br} {zs:List V} {ws:List Br},Vals vs us->Vals zs ws->Vals (gV vs zs) (g us ws)
variable {g:List Br->List Br->List Br}{gV:List V->List V->List V}
end
structure a0r(N P:List Str)(sc:Fg):Prop where
 kind:sc.kind = .function
 co:sc.isCoroutine=false
 gen:sc.isGenerator=false
 nd:N.Nodup
 pre:N.take P.length=P
 par:∀ x∈P,sc.names.lookup x=some .local\/sc.names.lookup x=some .cell
 j2l:∀ y∈sc.names,y.2≠.free
theorem g2y{Iq:Str->Option Js}{x:Str}:∀ {binds:List (Str×Br)} {m:Str->Option Br},(∀ v,(x,v)∉binds)->Oo Iq binds m x=m x
 | [],_,_=>rfl
 | (n,v) :: r,m,h=>by
  unfold Oo
  rw [g2y fun w hw=>h w (Ci _ hw)]
  split
  .have:x≠n:=by rintro rfl; exact h v Ce
   simp [this]
  .rfl
theorem g2z{Iq:Str->Option Js}{x:Str}:∀ {binds:List (Str×Br)} {m:Str->Option Br},(∀ v,(x,v)∉binds)->Op Iq binds m x=m x
 | [],_,_=>rfl
 | (n,v) :: r,m,h=>by
  unfold Op
  rw [g2z fun w hw=>h w (Ci _ hw)]
  split
  .rfl
  .have:x≠n:=by rintro rfl; exact h v Ce
   simp [this]
theorem g3a{Iq:Str->Option Js}{x:Str}{v:Br}:∀ {P:List Str} {vs:List Br} {i:Nat} {m:Str->Option Br},P.Nodup->P[i]? = some x->vs[i]? = some v->Iq x=some .local ->
  Oo Iq (P.zip vs) m x=some v
 | [],_,_,_,_,h,_,_=>by simp at h
 | _ :: _,[],_,_,_,_,h,_=>by simp at h
 | p :: P,w :: vs,0,m,nd,h1,h2,hk=>by
  simp at h1 h2; subst h1; subst h2
  show Oo Iq ((p,w) :: P.zip vs) m p=_
  unfold Oo
  rw [g2y fun v hv=>(Ih.mp nd).1 (Rj hv).1,if_pos hk]
  simp
 | p :: P,w :: vs,i+1,m,nd,h1,h2,hk=>by
  show Oo Iq ((p,w) :: P.zip vs) m x=_
  unfold Oo
  exact g3a (i:=i) (Ih.mp nd).2 (by simpa using h1) (by simpa using h2) hk
theorem g3b{Iq:Str->Option Js}{x:Str}{v:Br}:∀ {P:List Str} {vs:List Br} {i:Nat} {m:Str->Option Br},P.Nodup->P[i]? = some x->vs[i]? = some v->Iq x≠some .local ->
  Op Iq (P.zip vs) m x=some v
 | [],_,_,_,_,h,_,_=>by simp at h
 | _ :: _,[],_,_,_,_,h,_=>by simp at h
 | p :: P,w :: vs,0,m,nd,h1,h2,hk=>by
  simp at h1 h2; subst h1; subst h2
  show Op Iq ((p,w) :: P.zip vs) m p=_
  unfold Op
  rw [g2z fun v hv=>(Ih.mp nd).1 (Rj hv).1,if_neg hk]
  simp
 | p :: P,w :: vs,i+1,m,nd,h1,h2,hk=>by
  show Op Iq ((p,w) :: P.zip vs) m x=_
  unfold Op
  exact g3b (i:=i) (Ih.mp nd).2 (by simpa using h1) (by simpa using h2) hk
noncomputable def start(N:List Str)(vs:List V):St:=vs.map some++D0 (N.length - vs.length) none
def i6q(CX:CXT)(P:Dc)(w:E2)(K:Bw)(mg:Str->Option Br)(base:Heap)(N:List Str)(qual:Str)(scope:Fg)(f:Addr)(cd:Br)(A:Ds)(outer:List Env)(s:Bx)(H:Hp)(E:XK):Cx where
 prog:=P
 w:=w
 K:=K
 mg:=mg
 base:=base
 A:=A.deeper (Ln qual scope s.heap.objs.size f cd)
 N:=N
 s₀:=s
 H₀:=H
 env:=Ln qual scope s.heap.objs.size f cd
 outer:=outer
 stack:=Ln qual scope s.heap.objs.size f cd :: outer
 ex:=[]
 calm:=true
 fn:=fun _=>true
 pn:=[]
 xe:=fun e s'=>Ch (model P w) (A.deeper (Ln qual scope s.heap.objs.size f cd)) (leaving (Ln qual scope s.heap.objs.size f cd) e) (fun _ s''=>CX outer H s E e s'') (fun e' s''=>CX outer H s E e' s'') s'
theorem g9n{sc:Fg}{n:Nat}{x:Str}(h:sc.names.lookup x=some .cell):∃ c,(cellsFrom n sc.names []).lookup x=some c:=by
 have q:=Ra sc.names n [] (.inl h)
 exact M9.mp q
theorem h5g{CX:CXT}{N ps:List Str}{qual:Str}{scope:Fg}{f:Addr}{cd:Br}{s s1:Bx}{E:XK}
  (S:a0r N ps scope) (hd:A.handled=none) (e0:i4m P w K mg base A outer s H) (hl:vs.length=ps.length) (r:Vals vs us)
  (x:InCallC s s.heap.objs.size (Oo (Ln qual scope s.heap.objs.size f cd).kindOf (ps.zip us) fun _=>none) (cellsFrom (s.heap.objs.size+1) scope.names []) (Op (Ln qual scope s.heap.objs.size f cd).kindOf (ps.zip us) fun _=>none) s1) :
  Inv (i6q CX P w K mg base N qual scope f cd A outer s H E) [] (start N vs) H s1:=by
 have hpl:ps.length<=N.length:=by have:=congrArg Lp S.pre; rw [D9] at this; lia
 obtain⟨h1,tk,rfl,hk⟩:=x.done
 have noA:∀ b:Addr,b∉(i6q CX P w K mg base N qual scope f cd A outer s H E).ex:=fun b z=>absurd (show b∈([] : List Addr) from z) (by simp)
 refine⟨⟨e0.mod,S.kind,rfl,rfl,C0 _,fun y z c h1 h2=>?_,fun y hy=>?_,fun y c _ h=>?_,fun _=>hd,Around.frames_deeper e0.frames,.inr ⟨rfl,rfl⟩,fun b z=>absurd z (noA b),e0.bs,e0.bsz,fun b _ _=>noA b,fun b z=>absurd z (noA b),e0.h4f,e0.frf⟩,
  rfl,e0.bare,Un.kept hk,⟨_,x.toInCall.ns,fun i y v h1 h2 h3=>?_⟩,fun y c h=>⟨_,x.cell y c h⟩,e0.hok.fresh (C0 _),fun y c h=>?_,fun p hp=>absurd (show p∈([] : List (Addr×Obj)) from hp) (by simp),e0.hok.kept hk,?_⟩
 .exact name_of_addr x.apart (Ep h1) (Ep h2)
 .have hy:scope.names.lookup y=some .cell\/scope.names.lookup y=some .free:=hy
  rcases hy with hy | hy
  .exact g9n hy
  .exact absurd rfl (S.j2l _ (Ep hy))
 .exact Jl (x.above y c (Ep h))
 .have hi:i < vs.length:=by
   unfold start at h2
   by_cases hi:i < vs.length
   .exact hi
   .rw [Df (by simpa using hi)] at h2
    rw [Mw] at h2
    split at h2 <;> cases h2
  have ha:vs[i]? = some v:=by
   unfold start at h2
   rw [Cm (by simpa using hi),C9] at h2
   cases e:vs[i]? with
   | none=>rw [e] at h2; cases h2
   | some a=>rw [e] at h2; cases h2; rfl
  obtain⟨u,hu,rv⟩:=r.get ha
  have hp:ps[i]? = some y:=by
   rw [<- S.pre,List.getElem?_take_of_lt (by lia)]; exact h1
  have ndP:ps.Nodup:=by rw [<- S.pre]; exact S.nd.sublist (Ht _ _)
  refine⟨u,rv,?_⟩
  rcases S.par y (Ca hp) with k | k
  .exact .inl ⟨k,g3a ndP hp hu k⟩
  .obtain⟨c,e⟩:=g9n (n:=s.heap.objs.size+1) k
   refine .inr ⟨.inl k,c,e,?_⟩
   have q:=x.cell y c e
   rw [g3b ndP hp hu (by show scope.names.lookup y≠_; rw [k]; decide)] at q
   exact q
 .exact e0.hok.fresh (Jl (x.above y c (Ep h)))
 .unfold start
  show _=N.length
  rw [C1,Bv,Gu]
  lia
theorem j9l{CX:CXT}{k:Nat}{f:Addr}{name qual:Str}{params:Arguments}{scope:Fg}{dV kV doc pm cdv ct oc:Br}{an od:Option Addr}
  {osl:Array (Option Br)} {N ps:List Str} {sp:Sp} (lk:K.lookup f=some ⟨oc,od,.func (Oa name qual params body scope dV kV doc pm an cdv ct),osl⟩) (hcd:W.codeIn K cdv qual=true) (S:a0r N ps scope)
  (len:∀ vs H Q E,sp vs H Q E->vs.length=ps.length)
  (hbody:∀ (A:Ds) (outer:List Env) (s:Bx) (H:Hp) (vs:List V) (Q:VK) (E:XK),b2u k (A.deeper (Ln qual scope s.heap.objs.size f cdv))->sp vs H Q E ->
   ∃ t,PSs (i6q CX P w K mg base N qual scope f cdv A outer s H E) body t/\t { nx:=fun _ H'=>Q .non H',rt:=Q } (start N vs) H) :
  a1j P w K mg base CX (k+1) f (Oa name qual params body scope dV kV doc pm an cdv ct) ps sp:=by
 refine⟨len,fun A outer s H args us vs Q E hr e0 hb r hsp=>?_⟩
 have hl:=len _ _ _ _ hsp
 have KX:K.In s.heap:=e0.mod.kin.keeps fun b o e=>(e0.bs b o e).1
 have lim:s.heap.NoLimit:=e0.mod.nolimit.keeps fun b o e=>(e0.bs b o e).1
 have hkind:∀ y∈ps.zip us,scope.names.lookup y.1=some .local\/(scope.names.lookup y.1=some .cell/\((cellsFrom (s.heap.objs.size+1) scope.names []).lookup y.1).isSome=true):=fun⟨n,v⟩ hy=>by
  rcases S.par n (Rj hy).1 with q | q
  .exact .inl q
  .exact .inr ⟨q,Ra _ _ _ (.inl q)⟩
 refine codeAny_call_function hr.depth (KX _ _ lk) rfl S.co S.gen rfl (W.codeRec_of KX hcd) (hb _ _ _ _ ?_)
 refine wpAny_newFunctionEnv_cells S.kind hkind fun env he s1 x=>?_
 subst he
 refine⟨lim.keeps x.toInCall.keep,codeAny_func ?_⟩
 obtain⟨t,ht,hq⟩:=hbody A outer s H vs Q E (hr.deeper _) hsp
 have I:Inv (i6q CX P w K mg base N qual scope f cdv A outer s H E) [] (start N vs) H s1:=h5g S hr.hd e0 hl r x
 refine Dv (ht [] s1 (start N vs) H _ I hq) (fun fl s' hs=>?_) fun e s' hs=>hs
 have fin:∀ {Aa:St} {H':Hp} {v:V} {u:Br},Inv (i6q CX P w K mg base N qual scope f cdv A outer s H E) [] Aa H' s'->RelV v u->Q v H'->CE outer P w H s Q u s' :=
  fun {Aa H' v u} J rv q=>⟨v,H',J.os,J.bare,J.base,J.hok,rv,q⟩
 cases fl with
 | ret u =>
  obtain⟨v,Aa,H',J,rv,q⟩:=hs
  exact fin J rv q
 | next =>
  obtain⟨Aa,H',J,q⟩:=hs
  exact fin (v:=V.non) (u:=Ge) J rfl q
 | brk =>
  obtain⟨_,_,_,q⟩:=hs
  exact Bq q
 | cont =>
  obtain⟨_,_,_,q⟩:=hs
  exact Bq q
section
variable {X:Cx}{x:Str}{p pos:Pos}{e:Expr}{es:List Expr}{t:TA}{id T:String}{r:List V->Hp->VK->Prop}
def tCB(r:List V->Hp->VK->Prop)(t:TA):TE:=fun O H Q=>t O H fun vs H1=>r vs H1 Q
theorem i1a(hc:b0z X (.builtin id) r)(hg:Gl X x)(hm:X.mg x=none)(hv:Ho x=some (.builtin id))(ha:PA X (e :: es) t)(hn:x≠"__name__":=by decide)(hdb:(x == ("__debug__":Str))=false:=by decide)
  (he:Cs (e :: es) X.env=(false,eval e X.env) :: Cs es X.env:=by rfl) (hpl:(Ew pos (Cs es X.env)).any (·.1)=false:=by rfl):PE X (.Call (.Name x p) (e :: es) [] pos) (tCB r t):=by
 intro pins s O H Q I h
 refine G7 (f1t I hg hm hv ?_ hn hdb)
 exact PyProof.Rows.callWith_builtin1 (h1j (ha pos pins s O H _ I h) fun us s1 vs H1 I1 r1 q1=>hc pins s1 O H1 vs us Q I1 r1 q1) he hpl
theorem a2o(hc:b0z X (.type T) r)(hg:Gl X x)(hm:X.mg x=none)(hv:Ho x=some (.type T))(ha:PA X (e :: es) t)(hn:x≠"__name__":=by decide)(hdb:(x == ("__debug__":Str))=false:=by decide)
  (he:Cs (e :: es) X.env=(false,eval e X.env) :: Cs es X.env:=by rfl) (hpl:(Ew pos (Cs es X.env)).any (·.1)=false:=by rfl):PE X (.Call (.Name x p) (e :: es) [] pos) (tCB r t):=by
 intro pins s O H Q I h
 refine G7 (f1t I hg hm hv ?_ hn hdb)
 exact Fx (h1j (ha pos pins s O H _ I h) fun us s1 vs H1 I1 r1 q1=>hc pins s1 O H1 vs us Q I1 r1 q1) he hpl
end
end L2
namespace HT
open PySem PyProof.Rows
section
open PySem.SeqAt
open PySem.AutoSeq1 (wpAny_loadPart')
open PySem.MeetsSeq PySem.MeetsSeq2 PySem.MeetsSeq3
end
variable {hi:Option Int}
section
variable {prog:Dc}{w:E2}{A:Ds}{E:Br->Bx->Prop}{s:Bx}
noncomputable def sIx(n d:Nat):Option Int->Nat
 | none=>d
 | some v=>if v < 0 then (v+(n:Int)).toNat else min v.toNat n
theorem g9o(n d:Nat):sIx n d none=d:=rfl
theorem f2g(n d k:Nat):sIx n d (some (k:Int))=min k n:=by
 show (if (k:Int) < 0 then ((k:Int)+(n:Int)).toNat else min (k:Int).toNat n)=min k n
 rw [if_neg (by lia),Dy]
theorem j2m(n d:Nat)(hd:d<=n)(o:Option Int):sIx n d o<=n:=by
 cases o with
 | none=>exact hd
 | some v =>
  show (if v < 0 then (v+(n:Int)).toNat else min v.toNat n)<=n
  by_cases hv:v < 0
  .rw [if_pos hv]; lia
  .rw [if_neg hv]; exact Nat.min_le_right _ _
theorem h5h(v:Int)(n d:Nat):(if v < 0 then max (v+(n:Int)) 0 else min v (n:Int))=((sIx n d (some v):Nat):Int):=by
 show (if v < 0 then max (v+(n:Int)) 0 else min v (n:Int))=(((if v < 0 then (v+(n:Int)).toNat else min v.toNat n):Nat):Int)
 by_cases hv:v < 0
 .simp only [if_pos hv]; lia
 .simp only [if_neg hv]; lia
theorem h1w(lo hi:Option Int)(n:Nat):Hq lo hi 1 (n:Int)=(((sIx n 0 lo:Nat):Int),((sIx n n hi:Nat):Int)):=by
 have h1:¬ ((1:Int) < 0):=by lia
 unfold Hq
 simp only [h1,if_false]
 refine Prod.ext ?_ ?_
 .cases lo with
  | none=>rfl
  | some v=>exact h5h v n 0
 .cases hi with
  | none=>rfl
  | some v=>exact h5h v n n
theorem h1x(i j:Nat):G0 (i:Int) (j:Int) 1=j - i:=by
 unfold G0
 have h1:(1:Int) > 0:=by lia
 simp only [h1,if_true,Int.ediv_one]
 split <;> lia
theorem f7w{v:Br}{o:Option Int}{Q:Option Int->Bx->Prop}(p:Mf v o)(h:Q o s):Ch (model prog w) A (Builtin.Slice.slicePartIndex v) Q E s:=by
 cases p with
 | none=>exact slicePart_none h
 | int i t=>exact slicePart_int h
variable {lo:Option Int}
theorem f0w{sl:Addr}{vl vu:Br}{n:Nat}{Q:Int×Int×Nat->Bx->Prop}(hs:s.heap.IsSliceOf sl vl vu .none)(pl:Mf vl lo)(pu:Mf vu hi)
  (h:Q (((sIx n 0 lo:Nat):Int),1,sIx n n hi - sIx n 0 lo) s):Ch (model prog w) A (Ka (.ref sl) (pure (n:Int))) Q E s:=by
 obtain⟨os,hos,hcs,hds⟩:=id hs
 unfold Ka Builtin.Slice.sliceFields
 refine Bp (Bp (E1 hos hds (x:=vl) rfl (Bp (E1 hos hds (x:=vu) rfl (Bp (E1 hos hds (x:=.none) rfl (Cf ?_)))))))
 refine Bp (slicePart_none ?_)
 show Ch _ _ (if ((1:Int) == 0)=true then _ else _) _ _ s
 rw [if_neg (by decide)]
 refine Bp (f7w pl (Bp (f7w pu (Bp (Cf ?_)))))
 show Ch _ _ (match Hq lo hi 1 (n:Int) with | (lo,hi)=>pure (lo,(1:Int),G0 lo hi 1)) _ _ s
 rw [h1w lo hi n]
 show Ch _ _ (pure (((sIx n 0 lo:Nat):Int),(1:Int),G0 ((sIx n 0 lo:Nat):Int) ((sIx n n hi:Nat):Int) 1)) _ _ s
 rw [h1x]
 exact Cf h
theorem i1b(xs:Array Br)(i k:Nat):((Cz k).filterMap fun (m:Nat)=>xs[((i:Int)+(m:Int)*1).toNat]?).toArray=((xs.toList.drop i).take k).toArray:=by
 have e:(fun (m:Nat)=>xs[((i:Int)+(m:Int)*1).toNat]?)=fun m=>xs[i+m]?:=by
  funext m
  have:((i:Int)+(m:Int)*1).toNat=i+m:=by lia
  rw [this]
 rw [e]
 have:=pick_run xs i k
 rw [List.filterMap_map] at this
 have e2:((fun x=>xs[x]?)∘fun x=>i+x)=fun m=>xs[i+m]?:=rfl
 rw [e2] at this
 rw [this]
theorem d6w{t sl:Addr}{items:Array Br}{vl vu:Br}{Q:Br->Bx->Prop}(ht:IsTup s.heap t items)(hs:s.heap.IsSliceOf sl vl vu .none)(pl:Mf vl lo)(pu:Mf vu hi)
  (hw:¬ (sIx items.size 0 lo=0/\sIx items.size items.size hi=items.size))
  (h:Q (.ref s.heap.objs.size) { s with heap:=s.heap.push { cls:=.type "tuple",data:=.seq ((items.toList.drop (sIx items.size 0 lo)).take (sIx items.size items.size hi - sIx items.size 0 lo)).toArray } })
  (hsz:items.size<=Cb):Ch (model prog w) A (Kn (.ref t) (.ref sl)) Q E s:=by
 have i1c:sizeOk (.seq ((items.toList.drop (sIx items.size 0 lo)).take (sIx items.size items.size hi - sIx items.size 0 lo)).toArray):=by
  show ((items.toList.drop (sIx items.size 0 lo)).take (sIx items.size items.size hi - sIx items.size 0 lo)).toArray.size<=Cb
  rw [Di,D9,Ev,Fq]
  omega
 have hj:sIx items.size items.size hi<=items.size:=j2m _ _ (C0 _) hi
 obtain⟨os,hos,hcs,hds⟩:=id hs
 have hTs:s.TypeIs (.ref sl) "slice":=⟨os,hos,hcs⟩
 unfold Kn
 try with_reducible refine Lc ?_
 first | refine Bp (Cf ?_) | skip
 refine Bp (wpAny_sequenceKey ht.typeIs (by decide) ?_)
 refine Bp (En (name:=B0 "__getitem__") ht.typeIs Jt
  (Fe Jt ht.typeIs entry_tuple_getitem ?_ (args_tuple_getitem _ _)))
 show Ch _ _ (Builtin.Tuple.tupleItemsOf (.ref t) >>= _) _ _ s
 refine Bp (tupleItemsOf_ ht ?_)
 refine Bp (wpAny_typeOf hTs ?_)
 rw [if_pos (by decide)]
 refine Bp (f0w hs pl pu ?_)
 have hno:¬ ((((sIx items.size 0 lo:Nat):Int) == 0 && (1:Int) == 1 && (sIx items.size items.size hi - sIx items.size 0 lo) == items.size)=true):=by
  intro q
  rw [Ec,Ec] at q
  have q1:((sIx items.size 0 lo:Nat):Int)=0:=eq_of_beq q.1.1
  have q2:sIx items.size items.size hi - sIx items.size 0 lo=items.size:=eq_of_beq q.2
  exact hw ⟨by omega,by omega⟩
 show Ch _ _ (if (((sIx items.size 0 lo:Nat):Int) == 0 && (1:Int) == 1 && (sIx items.size items.size hi - sIx items.size 0 lo) == items.size)=true then _ else _) _ _ s
 rw [if_neg hno,i1b]
 first
  | exact Bp (m:=G9 _) (Ey (Cf ⟨_,rfl,Cf h⟩) i1c)
  | exact Bp (m:=G9 _) (Ey (Bp (Cf (Cf ⟨_,rfl,Cf h⟩))) i1c)
  | exact Bp (Bp (m:=G9 _) (Ey (Cf (Cf ⟨_,rfl,Cf h⟩)) i1c))
  | exact Bp (Bp (m:=G9 _) (Ey (Cf ⟨_,rfl,Cf h⟩) i1c))
end
end HT
namespace L2
open PySem PySem.Spec PyProof.Rows
noncomputable abbrev TO:=St->Hp->(Option Int->Hp->Prop)->Prop
def PO(X:Cx)(e:Option Expr)(t:TO):Prop :=
 ∀ (pins:List (Addr×Obj)) (s:Bx) (O:St) (H:Hp) (Q:Option Int->Hp->Prop),Inv X pins O H s->t O H Q ->
  Ch (model X.prog X.w) X.A (evalPart e X.env) (fun u s'=>∃ o H',Inv X pins O H' s'/\Mf u o/\Q o H') X.xe s
noncomputable def h5i:TO:=fun _ H Q=>Q none H
def j2n(t:TE):TO:=fun O H Q=>t O H fun x H1=>∃ i,x = .int i/\Q (some i) H1
section
variable {X:Cx}{e:Expr}{te:TE}{lo hi:Option Expr}{tl th:TO}{pos p2:Pos}
theorem b0j:PO X none h5i:=by
 intro pins s O H Q I h
 rw [evalPart_none]
 exact Cf ⟨none,H,I,.none,h⟩
theorem i6r(h:PE X e te):PO X (some e) (j2n te):=by
 intro pins s O H Q I hw
 rw [evalPart_some]
 refine c9u (h pins s O H _ I hw) fun u s1 x H1 I1 r1 q1=>?_
 obtain⟨i,rfl,q⟩:=q1
 obtain⟨t,rfl⟩:=r1
 exact⟨some i,H1,I1,.int i t,q⟩
def SlR(X:Cx)(r:V->Option Int->Option Int->Hp->VK->Prop):Prop :=
 ∀ (pins:List (Addr×Obj)) (s:Bx) (O:St) (H:Hp) (x:V) (v vl vu:Br) (lo hi:Option Int) (sl:Addr) (Q:VK),Inv X pins O H s->RelV x v->s.heap.IsSliceOf sl vl vu .none->Mf vl lo->Mf vu hi->r x lo hi H Q ->
  ∃ T id,Qw (.type T) "__getitem__"=pure (some (.builtin id))/\s.TypeIs v T/\Ch (model X.prog X.w) X.A (Kn v (.ref sl)) (EP X pins O Q) X.xe s
def tSl(r:V->Option Int->Option Int->Hp->VK->Prop)(te:TE)(tl th:TO):TE:=fun O H Q=>te O H fun x H1=>tl O H1 fun l H2=>th O H2 fun u H3=>r x l u H3 Q
theorem a3z{r:V->Option Int->Option Int->Hp->VK->Prop}(hr:SlR X r)(he:PE X e te)(hl:PO X lo tl)(hu:PO X hi th):PE X (.Subscript e (.Slice lo hi none p2) pos) (tSl r te tl th):=by
 intro pins s O H Q I h
 refine Rg (c9u (he pins s O H _ I h) fun v s1 x H1 I1 r1 q1=>?_)
 refine wpAny_Slice (thn (hl pins s1 O H1 _ I1 q1) fun vl s2 ⟨l,H2,I2,pl,q2⟩=>thn (hu pins s2 O H2 _ I2 q2) fun vu s3 ⟨u,H3,I3,pu,q3⟩=>?_)
 rw [evalPart_none]
 refine Cf ?_
 have I4:Inv X pins O H3 { s3 with heap:=s3.heap.push { cls:=.type "slice",data:=.fields #[vl,vu,.none] } }:=I3.kept (t':=s3.toks) fun b ob q=>Bt _ q
 obtain⟨T,id,hT,ht,hg⟩:=hr pins { s3 with heap:=s3.heap.push { cls:=.type "slice",data:=.fields #[vl,vu,.none] } } O H3 x v vl vu l u s3.heap.objs.size Q I4 r1 (Ru ..) pl pu q3
 show Ch (model X.prog X.w) X.A (Of e (.Slice lo hi none p2) v (.ref s3.heap.objs.size)) (EP X pins O Q) X.xe { s3 with heap:=s3.heap.push { cls:=.type "slice",data:=.fields #[vl,vu,.none] } }
 exact tail_any (ops:=[.ref s3.heap.objs.size,v]) ht hT hg (by with_unfolding_all rfl)
noncomputable def f0y(xs:List V)(lo hi:Option Int):List V:=(xs.drop (HT.sIx xs.length 0 lo)).take (HT.sIx xs.length xs.length hi - HT.sIx xs.length 0 lo)
theorem f2h(xs:List V)(lo hi:Option Int):(f0y xs lo hi).length<=xs.length:=by
 unfold f0y
 rw [D9,Ev]
 omega
noncomputable def rSlT(K:Bw):V->Option Int->Option Int->Hp->VK->Prop:=fun x lo hi H Q=>∃ a xs,x = .ref a/\SqT K H a xs /\
 ¬ (HT.sIx xs.length 0 lo=0/\HT.sIx xs.length xs.length hi=xs.length)/\∀ p,H p=none->Q (.ref p) (upd H p (.tup (f0y xs lo hi)))
theorem j2o:SlR X (rSlT X.K):=by
 intro pins s O H x v vl vu lo hi sl Q I rx hs pl pu h
 obtain⟨a,xs,rfl,hx,hw,q⟩:=h
 cases rx
 obtain⟨its,r,ht,hz⟩:=I.tuple hx
 have hlen:its.toArray.size=xs.length:=by rw [Di]; exact r.length.symm
 refine⟨"tuple",_,PyProof.Rows.slot_tuple_getitem.lookup,ht.typeIs,?_⟩
 refine HT.d6w ht hs pl pu (by rw [hlen]; exact hw) ?_ (by rw [hlen]; exact hz)
 rw [hlen]
 refine⟨.ref s.heap.objs.size,_,I.laid (t':=s.toks) (o:=.tup (f0y xs lo hi)) (fun b ob q=>Bt _ q) (C0 _) ?_,rfl,q _ (I.hok.fresh (C0 _))⟩
 exact⟨Bz (f2h xs lo hi) hz,_,(r.drop (HT.sIx xs.length 0 lo)).take (HT.sIx xs.length xs.length hi - HT.sIx xs.length 0 lo),IsTup.new _ _⟩
end
noncomputable def ixN(n:Nat)(i:Int):Option Nat:=if 0<=i then (if i < n then some i.toNat else none) else if -(n:Int)<=i then some (i+n).toNat else none
noncomputable def atI{α:Type}(xs:List α)(i:Int):Option α:=(ixN xs.length i).bind fun j=>xs[j]?
theorem i6s{n:Nat}{i:Int}{j:Nat}(h:ixN n i=some j):Om i n=some j/\j < n /\ -(n:Int)<=i/\i < n:=by
 unfold ixN at h
 by_cases h0:0<=i
 .rw [if_pos h0] at h
  by_cases h1:i < n
  .rw [if_pos h1] at h
   have e:i.toNat=j:=E8 h
   exact⟨by rw [seqIndex_of h0 h1,e],by lia,by lia,h1⟩
  .rw [if_neg h1] at h; cases h
 .rw [if_neg h0] at h
  by_cases h1 : -(n:Int)<=i
  .rw [if_pos h1] at h
   have e:(i+n).toNat=j:=E8 h
   exact⟨by rw [seqIndex_neg (by lia) h1,e],by lia,h1,by lia⟩
  .rw [if_neg h1] at h; cases h
theorem g6p{α:Type}{xs:List α}{i:Int}{v:α}(h:atI xs i=some v):∃ j,Om i xs.length=some j/\xs[j]? = some v/\j < xs.length /\ -(xs.length:Int)<=i/\i < xs.length:=by
 unfold atI at h
 cases e:ixN xs.length i with
 | none=>rw [e] at h; cases h
 | some j =>
  rw [e] at h
  obtain⟨h1,h2,h3,h4⟩:=i6s e
  exact⟨j,h1,h,h2,h3,h4⟩
theorem c0j{α:Type}{xs:List α}{j:Nat}{v:α}(h:xs[j]? = some v):atI xs (j:Int)=some v:=by
 have hj:j < xs.length:=(Bu.mp h).1
 have e:ixN xs.length (j:Int)=some j:=by
  unfold ixN
  rw [if_pos (by lia),if_pos (by lia)]; simp
 unfold atI; rw [e]; exact h
def h5j(b:Expr):Prop:=∀ o i,subscripted b false o i=operate [o,i] (Kn o i)
def IxR(X:Cx)(r:R2):Prop :=
 ∀ (value slice:Expr) (pins:List (Addr×Obj)) (s:Bx) (O:St) (H:Hp) (x y:V) (v u:Br) (Q:VK),Inv X pins O H s->RelV x v->RelV y u->r x y H Q ->
  subscripted slice false v u=operate [v,u] (Kn v u)->Ch (model X.prog X.w) X.A (Of value slice v u) (EP X pins O Q) X.xe s
def MtR(X:Cx)(id:String)(r:V->List V->Hp->VK->Prop):Prop :=
 ∀ (pins:List (Addr×Obj)) (s:Bx) (O:St) (H:Hp) (x:V) (xs:List V) (v:Br) (us:List Br) (Q:VK),Inv X pins O H s->RelV x v->Vals xs us->r x xs H Q ->
  Ch (model X.prog X.w) X.A (call (.builtin id) (v :: us)) (EP X pins O Q) X.xe s
section
variable {X:Cx}{a b:Expr}{ta tb:TE}{pos:Pos}
theorem j9m{r:R2}(hr:IxR X r)(ha:PE X a ta)(hb:PE X b tb)(hs:h5j b):PE X (.Subscript a b pos) (tOp r ta tb):=by
 intro pins s O H Q I h
 exact Rg (j9e ha hb I h fun v u s2 x y H2 I2 rx ry q=>hr a b pins s2 O H2 x y v u Q I2 rx ry q (hs _ _))
def rIxL(K:Bw):R2:=fun x y H Q=>∃ p xs i v,x = .ref p/\y = .int i/\SqL K H p xs/\atI xs i=some v/\Q v H
def rIxT(K:Bw):R2:=fun x y H Q=>∃ p xs i v,x = .ref p/\y = .int i/\SqT K H p xs/\atI xs i=some v/\Q v H
def rIxS:R2:=fun x y H Q=>∃ z i c,x = .str z/\y = .int i/\z.length<=Cb/\atI z.cps.toList i=some c/\Q (.str ⟨#[c]⟩) H
theorem h5k:IxR X (rIxL X.K):=by
 intro value slice pins s O H x y v u Q I rx ry h hs
 obtain⟨p,xs,i,z,rfl,rfl,hq,he,q⟩:=h
 cases rx
 obtain⟨t,rfl⟩:=ry
 obtain⟨its,r,pl,hz⟩:=I.list hq
 obtain⟨j,h1,h2,h3,h4,h5⟩:=g6p he
 obtain⟨w,ew,rw'⟩:=r.get h2
 have hl:=r.length
 have hn:=g2v
 have fin:EP X pins O Q w s:=⟨z,H,I,rw',q⟩
 by_cases h0:0<=i
 .have hj:i.toNat=j:=by
   rw [seqIndex_of h0 h5] at h1
   exact E8 h1
  exact item_listR pl.isList h0 (by lia) (by rw [hj]; simpa using ew) fin hs
 .have hj:(i+(its.toArray.size:Int)).toNat=j:=by
   rw [seqIndex_neg (by lia) h4] at h1
   rw [Di,<- hl]
   exact E8 h1
  exact Pm (x:=w) pl.isList.typeIs slot_list_getitem.lookup
   (wpAny_getItem_list_neg (Q:=fun r s'=>r=w/\EP X pins O Q r s') pl.isList (by lia) (by rw [Di] <;> lia) (by lia) (by rw [hj]; simpa using ew) ⟨rfl,fin⟩) hs
theorem j2p:IxR X (rIxT X.K):=by
 intro value slice pins s O H x y v u Q I rx ry h hs
 obtain⟨p,xs,i,z,rfl,rfl,hq,he,q⟩:=h
 cases rx
 obtain⟨t,rfl⟩:=ry
 obtain⟨its,r,pl,hz⟩:=I.tuple hq
 obtain⟨j,h1,h2,h3,h4,h5⟩:=g6p he
 obtain⟨w,ew,rw'⟩:=r.get h2
 have hl:=r.length
 have hn:=g2v
 have fin:EP X pins O Q w s:=⟨z,H,I,rw',q⟩
 exact Pm (x:=w) pl.typeIs slot_tuple_getitem.lookup
  (getItem_tuple (j:=j) (Q:=fun r s'=>r=w/\EP X pins O Q r s') pl (by lia) (by lia) (by rw [Di,<- hl]; exact h1) (by simpa using ew) ⟨rfl,fin⟩) hs
theorem j2q:IxR X rIxS:=by
 intro value slice pins s O H x y v u Q I rx ry h hs
 obtain⟨z,i,c,rfl,rfl,hz,he,q⟩:=h
 obtain⟨t,rfl⟩:=rx
 obtain⟨t',rfl⟩:=ry
 obtain⟨j,h1,h2,h3,h4,h5⟩:=g6p he
 have hl:z.cps.toList.length=z.length:=by simp [Str.length]
 rw [hl] at h1 h4 h5
 have hn:=g2v
 exact tail_any (J8 s z t) slot_str_getitem.lookup (getItem_str (c:=c) (by
  have e1:decide (i < -(2 ^ 63:Int))=false:=decide_eq_false (by lia)
  have e2:decide (i ≥ 2 ^ 63)=false:=decide_eq_false (by lia)
  rw [e1,e2,Rk]) (by rw [h1]; simpa using h2) ⟨.str ⟨#[c]⟩,H,I.tok _,⟨_,rfl⟩,q⟩) hs
theorem Inv.lst{pins:List (Addr×Obj)}{O:St}{H:Hp}{s:Bx}{p:Addr}{xs:List V}(I:Inv X pins O H s)(h:H p=some (.lst xs)) :
  ∃ (its:List Br) (n:Nat),Vals xs its/\s.heap.get? p=some { cls:=.type "list",data:=.seq its.toArray n }/\xs.length<=Cb:=by
 obtain⟨z,its,n,r,e⟩:=I.hok p _ h
 exact⟨its,n,r,e,z⟩
theorem g3c(lo hi:Option Int)(n:Nat):(Il lo hi none n).1=((HT.sIx n 0 lo:Nat):Int)/\(Il lo hi none n).2.1=((HT.sIx n n hi:Nat):Int)/\(Il lo hi none n).2.2=1:=by
 refine⟨?_,?_,rfl⟩
 .cases lo with
  | none=>simp [Il,HT.sIx]
  | some i =>
   simp only [Il,HT.sIx,Ot,show (1:Int) > 0 by decide,if_true]
   by_cases h:i < 0
   .simp only [h,if_true] <;> lia
   .simp only [h,if_false] <;> lia
 .cases hi with
  | none=>simp [Il,HT.sIx]
  | some i =>
   simp only [Il,HT.sIx,Ot,show (1:Int) > 0 by decide,if_true]
   by_cases h:i < 0
   .simp only [h,if_true] <;> lia
   .simp only [h,if_false] <;> lia
theorem f9s(its:List Br)(lo hi:Option Int):slicePick its.toArray lo hi none=((its.drop (HT.sIx its.length 0 lo)).take (HT.sIx its.length its.length hi - HT.sIx its.length 0 lo)).toArray:=by
 obtain⟨h1,h2,h3⟩:=g3c lo hi its.toArray.size
 unfold slicePick
 rw [h1,h2,h3]
 simp only [sliceRange_one,pick_run,Di] <;> rfl
noncomputable def rSlL(K:Bw):V->Option Int->Option Int->Hp->VK->Prop:=fun x lo hi H Q=>∃ a xs,x = .ref a/\SqL K H a xs/\∀ p,H p=none->Q (.ref p) (upd H p (.lst (f0y xs lo hi)))
theorem g6q:SlR X (rSlL X.K):=by
 intro pins s O H x v vl vu lo hi sl Q I rx hs pl pu h
 obtain⟨a,xs,rfl,hx,q⟩:=h
 cases rx
 obtain⟨its,r,ht,hz⟩:=I.list hx
 have hlen:=r.length
 refine⟨"list",_,slot_list_getitem.lookup,ht.isList.typeIs,?_⟩
 refine wpAny_getItem_list_slice ht.isList hs pl pu .none (by simp) ?_ (by rw [Di] <;> lia)
 rw [f9s,<- hlen]
 refine⟨.ref s.heap.objs.size,_,I.laid (t':=s.toks) (o:=.lst (f0y xs lo hi)) (fun b ob q=>Bt _ q) (C0 _) ?_,rfl,q _ (I.hok.fresh (C0 _))⟩
 exact⟨Bz (f2h xs lo hi) hz,_,0,(r.drop (HT.sIx xs.length 0 lo)).take (HT.sIx xs.length xs.length hi - HT.sIx xs.length 0 lo),Cg _ rfl⟩
noncomputable def c0s:V->Bool
 | .non=>true
 | .bl _=>true
 | .int _=>true
 | .str _=>true
 | _=>false
noncomputable def eqV:V->V->Bool
 | .non,.non=>true
 | .bl a,.bl b=>a == b
 | .bl a,.int b=>(if a then 1 else 0) == b
 | .int a,.bl b=>a == (if b then 1 else 0)
 | .int a,.int b=>a == b
 | .str a,.str b=>a == b
 | _,_=>false
theorem j2r{A:Ds}{s:Bx}{y x:V}{u v:Br}(ry:RelV y u)(rx:RelV x v)(fy:c0s y=true)(fx:c0s x=true):SeqAt.EqAt A s u v (eqV y x):=by
 cases y with
 | non =>
  cases ry
  cases x with
  | non=>cases rx; exact SeqAt.EqAt.same _
  | bl b=>cases rx; exact SeqAt.EqAt.none_bool b
  | int b=>obtain⟨t,rfl⟩:=rx; exact SeqAt.EqAt.none_int b t
  | str b=>obtain⟨t,rfl⟩:=rx; exact SeqAt.EqAt.none_str b t
  | _=>exact absurd (show false=true from fx) Cd
 | bl a =>
  cases ry
  cases x with
  | non=>cases rx; exact SeqAt.EqAt.bool_none a
  | bl b=>cases rx; exact SeqAt.EqAt.bool_bool a b
  | int b=>obtain⟨t,rfl⟩:=rx; exact SeqAt.EqAt.bool_int a b t
  | str b=>obtain⟨t,rfl⟩:=rx; exact SeqAt.EqAt.bool_str a b t
  | _=>exact absurd (show false=true from fx) Cd
 | int a =>
  obtain⟨t',rfl⟩:=ry
  cases x with
  | non=>cases rx; exact SeqAt.EqAt.int_none a t'
  | bl b=>cases rx; exact SeqAt.EqAt.int_bool a t' b
  | int b=>obtain⟨t,rfl⟩:=rx; exact SeqAt.EqAt.int_int a t' b t
  | str b=>obtain⟨t,rfl⟩:=rx; exact Mn a t' b t
  | _=>exact absurd (show false=true from fx) Cd
 | str a =>
  obtain⟨t',rfl⟩:=ry
  cases x with
  | non=>cases rx; exact SeqAt.EqAt.str_none a t'
  | bl b=>cases rx; exact SeqAt.EqAt.str_bool a t' b
  | int b=>obtain⟨t,rfl⟩:=rx; exact Mm a t' b t
  | str b=>obtain⟨t,rfl⟩:=rx; exact SeqAt.EqAt.str_str a t' b t
  | _=>exact absurd (show false=true from fx) Cd
 | _=>exact absurd (show false=true from fy) Cd
noncomputable def eqU(x:V)(u:Br):Bool:=match u with
 | .none=>eqV .non x
 | .bool b=>eqV (.bl b) x
 | .int i _=>eqV (.int i) x
 | .str z _=>eqV (.str z) x
 | _=>false
theorem i4n{x y:V}{u:Br}(r:RelV y u)(f:c0s y=true):eqU x u=eqV y x:=by
 cases y with
 | non=>cases r; rfl
 | bl b=>cases r; rfl
 | int i=>obtain⟨t,rfl⟩:=r; rfl
 | str z=>obtain⟨t,rfl⟩:=r; rfl
 | _=>exact absurd (show false=true from f) Cd
theorem f2i{x:V}:∀ {xs:List V} {us:List Br},Vals xs us->xs.all c0s=true->us.any (eqU x)=xs.any fun y=>eqV y x
 | _,_,.nil,_=>rfl
 | y :: xs,u :: us,.cons r t,f=>by
  rw [all_cons,Ec] at f
  rw [M6,M6,i4n r f.1,f2i t f.2]
theorem d5h{A:Ds}{s:Bx}{x:V}{v:Br}(rx:RelV x v)(fx:c0s x=true):∀ {xs:List V} {us:List Br},Vals xs us->xs.all c0s=true->∀ u∈us,SeqAt.EqAt A s u v (eqU x u)
 | _,_,.nil,_=>fun u hu=>by cases hu
 | y :: xs,u :: us,.cons r t,f=>fun u' hu=>by
  rw [all_cons,Ec] at f
  rcases Db.mp hu with rfl | hu
  .rw [i4n r f.1]; exact j2r r rx f.1 fx
  .exact d5h rx fx t f.2 u' hu
noncomputable def inV(x:V)(xs:List V):Bool:=xs.any fun y=>eqV y x
def rIn(K:Bw)(neg:Bool):R2:=fun x y H Q=>∃ p xs,y = .ref p/\(SqL K H p xs\/SqT K H p xs)/\c0s x=true/\xs.all c0s=true/\Q (.bl (if neg then !inV x xs else inV x xs)) H
theorem g3d:OpR X (Dl .In) (rIn X.K false):=by
 intro pins s O H x y v u Q I rx ry h
 obtain⟨p,xs,rfl,hq,fx,fs,q⟩:=h
 cases ry
 rcases hq with hq | hq
 .obtain⟨its,r,pl,hz⟩:=I.list hq
  refine SeqAt.in_listAt (eqU x) pl.isList (fun w hw=>d5h rx fx r fs w (by simpa using hw)) ⟨.bl _,H,I,rfl,?_⟩
  rw [show its.toArray.any (eqU x)=its.any (eqU x) by simp,f2i r fs]
  exact q
 .obtain⟨its,r,pl,hz⟩:=I.tuple hq
  refine SeqAt.in_tupleAt (eqU x) pl (fun w hw=>d5h rx fx r fs w (by simpa using hw)) ⟨.bl _,H,I,rfl,?_⟩
  rw [show its.toArray.any (eqU x)=its.any (eqU x) by simp,f2i r fs]
  exact q
theorem d8y:OpR X (Dl .NotIn) (rIn X.K true):=by
 intro pins s O H x y v u Q I rx ry h
 obtain⟨p,xs,rfl,hq,fx,fs,q⟩:=h
 cases ry
 rcases hq with hq | hq
 .obtain⟨its,r,pl,hz⟩:=I.list hq
  refine SeqAt.notIn_listAt (eqU x) pl.isList (fun w hw=>d5h rx fx r fs w (by simpa using hw)) ⟨.bl _,H,I,rfl,?_⟩
  rw [show its.toArray.any (eqU x)=its.any (eqU x) by simp,f2i r fs]
  exact q
 .obtain⟨its,r,pl,hz⟩:=I.tuple hq
  refine SeqAt.notIn_tupleAt (eqU x) pl (fun w hw=>d5h rx fx r fs w (by simpa using hw)) ⟨.bl _,H,I,rfl,?_⟩
  rw [show its.toArray.any (eqU x)=its.any (eqU x) by simp,f2i r fs]
  exact q
theorem g3e:OpR X (Dl .NotIn) (fun x y H Q=>∃ i j,x = .str i/\y = .str j/\Q (.bl (!(!(Eb j i 0 j.length 1).isEmpty))) H):=by
 intro pins s O H x y v u Q I rx ry h
 obtain⟨i,j,rfl,rfl,q⟩:=h
 obtain⟨t,rfl⟩:=rx
 obtain⟨t',rfl⟩:=ry
 exact notIn_str ⟨.bl _,H,I,rfl,q⟩
theorem c9y:b0z X (.builtin "len") (fun xs H Q=>∃ p ys,xs = [.ref p]/\(SqL X.K H p ys\/SqT X.K H p ys)/\Q (.int ys.length) H):=by
 intro pins s O H xs us Q I r h
 obtain⟨p,ys,rfl,hq,q⟩:=h
 obtain⟨u,rfl,rx⟩:=vals1 r
 cases rx
 have hn:=g2v
 rcases hq with hq | hq
 .obtain⟨its,r',pl,hz⟩:=I.list hq
  have hlen:=r'.length
  exact Calls.call_len_list pl.isList (by simp only [Di] <;> lia) ⟨.int ys.length,H,I.tok _,⟨s.toks+1,by rw [Di,hlen]⟩,q⟩
 .obtain⟨its,r',pl,hz⟩:=I.tuple hq
  have hlen:=r'.length
  exact len_tuple pl (by simp only [Di] <;> lia) ⟨.int ys.length,H,I.tok _,⟨s.toks+1,by rw [Di,hlen]⟩,q⟩
theorem g3f:b0z X (.builtin "len") (fun xs H Q=>∃ z,xs = [.str z]/\z.length<=Cb/\Q (.int z.length) H):=by
 intro pins s O H xs us Q I r h
 obtain⟨z,rfl,hz,q⟩:=h
 obtain⟨u,rfl,t,rfl⟩:=vals1 r
 have hn:=g2v
 exact len_str (by lia) ⟨.int z.length,H,I.tok _,⟨_,rfl⟩,q⟩
theorem g3g:b0z X (.type "list") (fun xs H Q=>∃ p ys,xs = [.ref p]/\(SqL X.K H p ys\/SqT X.K H p ys)/\∀ l,H l=none->Q (.ref l) (upd H l (.lst ys))):=by
 intro pins s O H xs us Q I r h
 obtain⟨p,ys,rfl,hq,q⟩:=h
 obtain⟨u,rfl,rx⟩:=vals1 r
 cases rx
 have fin:∀ (its:List Br),Vals ys its->ys.length<=Cb->∀ (h':Heap) (c':Nat),(∀ b o',s.heap.get? b=some o'->h'.get? b=some o') ->
   h'.get? s.heap.objs.size=some { cls:=.type "list",dict:=none,data:=.seq its.toArray c',slots := #[] }->EP X pins O Q (.ref s.heap.objs.size) { s with heap:=h' }:=fun its r' hz h' c' kp e =>
  ⟨.ref s.heap.objs.size,_,I.laid (t':=s.toks) kp (C0 _) (show b3k X.prog X.w _ h' _ (.lst ys) from ⟨hz,its,c',r',e⟩),rfl,q _ (I.hok.fresh (C0 _))⟩
 rcases hq with hq | hq
 .obtain⟨its,r',pl,hz⟩:=I.list hq
  have hlen:=r'.length
  obtain⟨o,ho,hc,n,hd⟩:=pl.isList
  exact call_list_seq p (.inl rfl) ho hc hd (fun h' c' kp e=>fin its r' hz h' c' kp e) (by simp only [Di] <;> lia)
 .obtain⟨its,r',pl,hz⟩:=I.tuple hq
  have hlen:=r'.length
  obtain⟨o,ho,hc,n,hd⟩:=pl
  exact call_list_seq p (.inr rfl) ho hc hd (fun h' c' kp e=>fin its r' hz h' c' kp e) (by simp only [Di] <;> lia)
theorem f9t:b0z X (.type "tuple") (fun xs H Q=>∃ p ys,xs = [.ref p]/\((SqL X.K H p ys/\∀ l,H l=none->Q (.ref l) (upd H l (.tup ys)))\/(SqT X.K H p ys/\Q (.ref p) H))):=by
 intro pins s O H xs us Q I r h
 obtain⟨p,ys,rfl,h⟩:=h
 obtain⟨u,rfl,rx⟩:=vals1 r
 cases rx
 rcases h with ⟨hq,q⟩ | ⟨hq,q⟩
 .obtain⟨its,r',pl,hz⟩:=I.list hq
  have hlen:=r'.length
  refine call_tuple_list pl.isList (fun h' kp=>?_) (by simp only [Di] <;> lia)
  have I1:Inv X pins O H { s with heap:=h' }:=I.kept (t':=s.toks) kp
  have I2:Inv X pins O (upd H h'.objs.size (.tup ys)) { s with heap:=h'.push { cls:=.type "tuple",data:=.seq its.toArray } } :=
   I1.laid (t':=s.toks) (fun b o e=>Bt _ e) (C0 _) (show b3k X.prog X.w _ _ _ (.tup ys) from ⟨hz,its,r',IsTup.new _ _⟩)
  exact⟨.ref h'.objs.size,_,I2,rfl,q _ (I1.hok.fresh (C0 _))⟩
 .obtain⟨its,r',pl,hz⟩:=I.tuple hq
  exact call_tuple_same pl ⟨.ref p,H,I,rfl,q⟩
def tyV(K:Bw)(T:String)(x:V)(H:Hp):Prop:=match x with
 | .str _=>T="str"
 | .int _=>T="int"
 | .ref p=>(T="list"/\∃ xs,SqL K H p xs)\/(T="tuple"/\∃ o,K.lookup p=some o/\o.cls = .type "tuple"/\o.dict=none) \/
   (T="dict"/\((∃ kvs,H p=some (.dK kvs))\/∃ kvs,H p=some (.dT kvs)))\/(T="set"/\∃ S n,H p=some (.set S n))
 | _=>False
theorem h5l{pins:List (Addr×Obj)}{O:St}{H:Hp}{s:Bx}{T:String}{x:V}{v:Br}(I:Inv X pins O H s)(r:RelV x v)(ty:tyV X.K T x H) :
  s.TypeIs v T/\∀ a,v = .ref a->∃ ob,s.heap.get? a=some ob/\ob.dict=none:=by
 cases x with
 | str z =>
  obtain⟨t,rfl⟩:=r
  cases (show T="str" from ty)
  exact⟨J8 s z t,fun _ e=>nomatch e⟩
 | int i =>
  obtain⟨t,rfl⟩:=r
  cases (show T="int" from ty)
  exact⟨Qx s i t,fun _ e=>nomatch e⟩
 | ref p =>
  cases r
  rcases ty with ⟨rfl,xs,hq⟩ | ⟨rfl,o,hk,hc,hd⟩ | ⟨rfl,hk⟩ | ⟨rfl,S,n,hk⟩
  .obtain⟨its,_,pl,_⟩:=I.list hq
   refine⟨pl.isList.typeIs,fun a e=>?_⟩
   cases e
   obtain⟨o,n,e,c,hd,_⟩:=pl
   exact⟨o,e,hd⟩
  .refine⟨⟨o,I.kIn p o hk,hc⟩,fun a e=>?_⟩
   cases e
   exact⟨o,I.kIn _ o hk,hd⟩
  .have z:∃ o,s.heap.get? p=some o/\o.ExactDict:=by
    rcases hk with ⟨kvs,hk⟩ | ⟨kvs,hk⟩
    .obtain⟨_,_,_,_,o,_,_,e,ex,_⟩:=I.hok p _ hk
     exact⟨o,e,ex⟩
    .obtain⟨_,_,_,_,o,_,_,e,ex,_⟩:=I.hok p _ hk
     exact⟨o,e,ex⟩
   obtain⟨o,e,ex⟩:=z
   refine⟨⟨o,e,ex.1⟩,fun a e2=>?_⟩
   cases e2
   exact⟨o,e,ex.2.1⟩
  .obtain⟨o,_,_,_,e,ex,_⟩:=I.hok p _ hk
   refine⟨⟨o,e,ex.1⟩,fun a e2=>?_⟩
   cases e2
   exact⟨o,e,ex.2.1⟩
 | _=>exact Bq ty
variable {o e:Expr}{es:List Expr}{to:TE}{t:TA}{name:Str}{apos cpos:Pos}{T id:String}{r:V->List V->Hp->VK->Prop}
/- xs.append(e),list.index on a module's tuple .. are MtR facts of 06m -/
end
def MtM(X:Cx)(id:String)(r:V->List V->Hp->VK->Prop):Prop :=
 ∀ (pins:List (Addr×Obj)) (s:Bx) (O:St) (H:Hp) (x:V) (xs:List V) (v:Br) (us:List Br) (Q:VK),Inv X pins O H s->RelV x v->Vals xs us->r x xs H Q ->
  Ch (model X.prog X.w) X.A (call (.builtin id) (v :: us)) (EP X pins O Q) X.xe s
variable {us:List Br}
theorem Vals.one{x:V}(h:Vals [x] us):∃ u,us = [u]/\RelV x u:=by
 cases h with
 | cons r t =>
  cases t
  exact⟨_,rfl,r⟩
theorem Vals.two{x y:V}(h:Vals [x,y] us):∃ u v,us = [u,v]/\RelV x u/\RelV y v:=by
 cases h with
 | cons r t =>
  cases t with
  | cons q z =>
   cases z
   exact⟨_,_,rfl,r,q⟩
theorem Vals.zero:∀ {us:List Br},Vals [] us->us = []
 | _,.nil=>rfl
variable {xs:List V}
theorem Vals.dropLast(h:Vals xs us):Vals xs.dropLast us.dropLast:=by
 induction h with
 | nil=>exact .nil
 | cons r t ih =>
  cases t with
  | nil=>exact .nil
  | cons q t'=>exact .cons r ih
theorem Vals.eraseIdx:∀ {xs:List V} {us:List Br} (i:Nat),Vals xs us->Vals (xs.eraseIdx i) (us.eraseIdx i)
 | _,_,_,.nil=>.nil
 | _,_,0,.cons _ t=>t
 | _,_,i+1,.cons r t=>.cons r (Vals.eraseIdx i t)
theorem Vals.reverse(h:Vals xs us):Vals xs.reverse us.reverse:=by
 induction h with
 | nil=>exact .nil
 | cons r t ih=>rw [Po,Po]; exact Vals.append ih (.cons r .nil)
theorem Vals.rep(h:Vals xs us):∀ k:Nat,Vals (D0 k xs).flatten (D0 k us).flatten
 | 0=>.nil
 | k+1=>by
  rw [Gr,Gr,Jz,Jz]
  exact Vals.append h (Vals.rep h k)
theorem h1y{α:Type}(l:List α):l.eraseIdx (l.length - 1)=l.dropLast:=by
 induction l with
 | nil=>rfl
 | cons a r ih =>
  cases r with
  | nil=>rfl
  | cons b r =>
   have e:(a :: b :: r).length - 1=((b :: r).length - 1)+1:=by
    have h1:(a :: b :: r).length=r.length+2:=rfl
    have h2:(b :: r).length=r.length+1:=rfl
    lia
   rw [e,List.eraseIdx_cons_succ,ih]
   all_goals rfl
theorem g3h{α:Type}:∀ (l:List α) (i:Nat),(l.eraseIdx i).length<=l.length
 | [],_=>C0 _
 | _ :: _,0=>Jx _
 | _ :: r,i+1=>Nat.succ_le_succ (g3h r i)
theorem foldl_rep(its:List Br):∀ (k:Nat) (acc:List Br),
  Ox (fun x1 x2=>x1++x2) acc.toArray (D0 k its.toArray)=(acc++(D0 k its).flatten).toArray
 | 0,acc=>by simp
 | k+1,acc=>by
  have e:acc.toArray++its.toArray=(acc++its).toArray:=by simp
  have e2:(acc++its)++(D0 k its).flatten=acc++(D0 (k+1) its).flatten:=by
   rw [Gr,Jz,Eg]
  rw [<- e2,<- foldl_rep its k (acc++its),<- e,Gr,Qf]
variable {its:List Br}{n:Nat}
section
variable {X:Cx}{pins:List (Addr×Obj)}{O:St}{H:Hp}{s:Bx}{l b:Addr}{xs ys zs:List V}
theorem Inv.j9n{its':List Br}{f:Array Br->Array Br}{t':Nat}(I:Inv X pins O H s)(hH:H l=some (.lst xs))
  (e:s.heap.get? l=some { cls:=.type "list",data:=.seq its.toArray n }) (hf:f its.toArray=its'.toArray) (hv:Vals ys its') (hz:ys.length<=Cb) :
  Inv X pins O (upd H l (.lst ys)) { s with heap:=s.heap.update l (Obj.mapSeq f),toks:=t' }:=by
 have q:=PySem.IsL.update e f
 rw [hf] at q
 refine I.write (x:=l) (e:=l) (by rw [hH]; exact trivial) (.inl rfl) (fun b' u hb hu=>(N2 s.heap (Obj.mapSeq f) (Hk hb)).trans hu) ⟨_,q⟩ ?_
 exact⟨hz,its',_,hv,q⟩
theorem Inv.k3j{t':Nat}(I:Inv X pins O H s)(hv:Vals ys its)(hz:ys.length<=Cb) :
  Inv X pins O (upd H s.heap.objs.size (.lst ys)) { s with heap:=s.heap.push { cls:=.type "list",data:=.seq its.toArray },toks:=t' } :=
 I.laid (fun _ _ q=>Bt _ q) (C0 _) ⟨hz,its,0,hv,Cg _ rfl⟩
theorem Inv.fresh(I:Inv X pins O H s):H s.heap.objs.size=none:=I.hok.fresh (C0 _)
theorem Inv.i6t(I:Inv X pins O H s)(hH:H l=some (.lst xs)):xs.length<=Cb/\∃ (its:List Br) (n:Nat),Vals xs its/\xs.length=its.length/\s.heap.get? l=some { cls:=.type "list",data:=.seq its.toArray n }:=by
 obtain⟨z,its,n,r,e⟩:=I.hok l _ hH
 exact⟨z,its,n,r,r.length,e⟩
theorem i1d(h:n<=Cb):I0 n=false:=by
 unfold I0
 exact decide_eq_false (by lia)
end
section
variable {X:Cx}
noncomputable def h5m:V->List V->Hp->VK->Prop:=fun x vs H Q=>∃ l xs y,x = .ref l/\vs = [y]/\H l=some (.lst xs)/\xs.length < Cb/\Q .non (upd H l (.lst (xs++[y])))
theorem f2j:MtM X "list.append" h5m:=by
 intro pins s O H x vs v us Q I rx rv h
 obtain⟨l,xs,y,rfl,rfl,hH,hz,q⟩:=h
 cases rx
 obtain⟨u,rfl,ru⟩:=rv.one
 obtain⟨z,its,n,r,hl,e⟩:=I.i6t hH
 refine Ia D3 ⟨_,e,rfl⟩ F.entry_list_append (F.args_list_append_2 _ _) (PySem.list_append l its.toArray n u (by rw [Di]; lia)) ⟨e,?_⟩
 refine⟨.non,_,I.j9n (its':=its++[u]) hH e (by simp) (r.append (.cons ru .nil)) ?_,rfl,q⟩
 rw [C1,Cw]
 lia
noncomputable def rPop:V->List V->Hp->VK->Prop:=fun x vs H Q=>∃ l xs y,x = .ref l/\vs = []/\H l=some (.lst xs)/\xs[xs.length - 1]? = some y/\Q y (upd H l (.lst xs.dropLast))
theorem j2s:MtM X "list.pop" rPop:=by
 intro pins s O H x vs v us Q I rx rv h
 obtain⟨l,xs,y,rfl,rfl,hH,hy,q⟩:=h
 cases rx
 have hus:=rv.zero
 subst hus
 obtain⟨z,its,n,r,hl,e⟩:=I.i6t hH
 obtain⟨u,hu,ru⟩:=r.get hy
 have hy':its.toArray[its.toArray.size - 1]? = some u:=by
  show its.toArray[its.length - 1]? = some u
  rw [<- G5,<- hl]
  exact hu
 refine Ia Jd ⟨_,e,rfl⟩ Rf (F.args_list_pop_1 _) (MeetsSeq.list_pop_last l its.toArray n u hy' (by rw [Di]; omega)) ⟨e,?_⟩
 refine⟨y,_,I.j9n (its':=its.dropLast) hH e ?_ r.dropLast ?_,ru,q⟩
 .show its.toArray.eraseIdxIfInBounds (its.toArray.size - 1)=its.dropLast.toArray
  rw [Di,L9,h1y]
 .rw [O2]
  omega
noncomputable def j2t:V->List V->Hp->VK->Prop:=fun x vs H Q=>∃ l xs i k y,x = .ref l/\vs = [.int i]/\H l=some (.lst xs) /\ -(2 ^ 63)<=i/\i < 2 ^ 63/\Om i xs.length=some k/\xs[k]? = some y/\Q y (upd H l (.lst (xs.eraseIdx k)))
theorem i1e:MtM X "list.pop" j2t:=by
 intro pins s O H x vs v us Q I rx rv h
 obtain⟨l,xs,i,k,y,rfl,rfl,hH,h1,h2,hk,hy,q⟩:=h
 cases rx
 obtain⟨u,rfl,ru⟩:=rv.one
 obtain⟨t,rfl⟩:=ru
 obtain⟨z,its,n,r,hl,e⟩:=I.i6t hH
 obtain⟨w,hw,rw'⟩:=r.get hy
 refine Ia Jd ⟨_,e,rfl⟩ Rf (F.args_list_pop_2 _ _)
  (MeetsSeq.list_pop_at l its.toArray n i t k w (fitsIndex_both h1 h2) (by rw [Di,<- hl]; exact hk) (by rw [<- G5]; exact hw) (by rw [Di]; lia)) ⟨e,?_⟩
 refine⟨y,_,I.j9n (its':=its.eraseIdx k) hH e ?_ (r.eraseIdx k) ?_,rw',q⟩
 .show its.toArray.eraseIdxIfInBounds k=(its.eraseIdx k).toArray
  rw [L9]
 .have:=g3h xs k
  lia
def rCat:R2:=fun x y H Q=>∃ l b xs zs,x = .ref l/\y = .ref b/\H l=some (.lst xs)/\H b=some (.lst zs)/\xs.length+zs.length<=Cb/\∀ p,H p=none->Q (.ref p) (upd H p (.lst (xs++zs)))
theorem j2u:OpR X (Ft .Add) rCat:=by
 intro pins s O H x y v u Q I rx ry h
 obtain⟨l,b,xs,zs,rfl,rfl,hH,hB,hz,q⟩:=h
 cases rx
 cases ry
 obtain⟨z,its,n,r,hl,e⟩:=I.i6t hH
 obtain⟨z2,its2,n2,r2,hl2,e2⟩:=I.i6t hB
 refine PySem.P.add_list e e2 ?_ (by rw [Di,Di]; omega)
 have ea:its.toArray++its2.toArray=(its++its2).toArray:=by simp
 rw [ea]
 exact⟨.ref _,_,I.k3j (t':=s.toks) (r.append r2) (by rw [C1]; omega),rfl,q _ I.fresh⟩
def rRep:R2:=fun x y H Q=>∃ l k xs,x = .ref l/\y = .int k/\H l=some (.lst xs) /\ -(2 ^ 63)<=k/\k < 2 ^ 63/\xs.length*k.toNat<=Cb /\
 ∀ p,H p=none->Q (.ref p) (upd H p (.lst (D0 k.toNat xs).flatten))
theorem len_rep{α:Type}(xs:List α)(k:Nat):(D0 k xs).flatten.length=k*xs.length:=by
 induction k with
 | zero=>simp
 | succ k ih=>rw [Gr,Jz,C1,ih,Jk,Nn]
theorem j2v:OpR X (Ft .Mult) rRep:=by
 intro pins s O H x y v u Q I rx ry h
 obtain⟨l,k,xs,rfl,rfl,hH,h1,h2,hz,q⟩:=h
 cases rx
 obtain⟨t,rfl⟩:=ry
 obtain⟨z,its,n,r,hl,e⟩:=I.i6t hH
 have hlen:its.toArray.size*k.toNat<=Cb:=by rw [Di,<- hl]; exact hz
 have hcap:¬ its.toArray.size*k.toNat > (2 ^ 63 - 1) / 8:=by
  have:(Cb:Nat)<=(2 ^ 63 - 1) / 8:=by decide
  omega
 have hfit:¬ (!Builtin.List.listFitsIndex k)=true:=by
  rw [fitsIndex_both h1 h2]
  exact Cd
 have j9o:¬ I0 (its.toArray.size*k.toNat)=true:=by
  rw [i1d hlen]
  exact Cd
 have hnew:Ox (fun x1 x2=>x1++x2) #[] (D0 (if its.toArray.isEmpty=true then 0 else k.toNat) its.toArray)=(D0 k.toNat its).flatten.toArray:=by
  have f0:∀ m:Nat,Ox (fun x1 x2=>x1++x2) #[] (D0 m its.toArray)=(D0 m its).flatten.toArray:=fun m=>by
   have:=foldl_rep its m []
   rw [Ex] at this
   exact this
  rw [f0]
  cases its with
  | nil=>simp
  | cons a r'=>rw [if_neg (by simp)]
 refine wpAny_binaryOp_repeat_ref (T:="list") (U:="int") (by decide) ⟨_,e,rfl⟩ (fun s'=>Qx s' k t) noFill_list_mul F.fills_int_mul Rv repeat_list F.slot_int_index.lookup
  (Ia Rv (Qx s k t) F.entry_int_rmul (F.args_int_rmul_2 _ _) (int___rmul___int_list k t l its.toArray n)
   ⟨e,rfl,⟨_,e,rfl⟩,Ia F.slot_list_mul ⟨_,e,rfl⟩ F.entry_list_mul (F.args_list_mul_2 _ _) (AutoListH.list___mul___list_int_3 l its.toArray n k t hfit hcap j9o) ⟨e,?_⟩⟩)
 rw [hnew]
 exact⟨.ref _,_,I.k3j (t':=s.toks) (r.rep k.toNat) (by rw [len_rep,L7]; exact hz),rfl,q _ I.fresh⟩
end
section
variable {prog:Dc}{w:E2}{A:Ds}{E:Br->Bx->Prop}{s:Bx}
end
section
variable {X:Cx}
end
end L2
namespace Att
open PySem PySem.W PySem.Calls PyProof.Rows
theorem f2k{P:Params}{h:Heap}:∀ (ns:List Int) (vs:List Br),WellAll P h vs (ns.map WData.int)->Pn vs ns:=by
 intro ns
 induction ns with
 | nil =>
  intro vs w
  rw [N6] at w
  cases w
  exact .nil
 | cons n ns ih =>
  intro vs w
  rw [Es] at w
  cases w with
  | cons a b =>
   cases a
   exact .cons _ _ (ih _ b)
theorem h5n{l:OpenLaw}{n:Nat}(hn:l.most=some n){P:Params}{h:Heap}{args:List WData}{vals:List Br}
  (hpre:l.row.toRowW.claim.pre args=true) (hwl:WellAll P h vals args) :
  ∃ a vs ns,vals = [Do a]/\args = [WData.list (ns.map WData.int)]/\h.get? a=some { cls:=.type "list",data:=.seq vs.toArray }/\Pn vs ns/\ns.length<=n:=by
 have hsh:WShape.hasAll [] args [.list .int]=true:=(pre_splitW hpre).1
 have hc:l.pre.holds [] { args:=args }=true:=(pre_splitW hpre).2
 obtain⟨d,r,rfl,h1,h2⟩:=hasAllW_cons hsh
 obtain rfl:=hasAllW_nil h2
 obtain⟨xs,rfl,h3⟩:=hasW_list h1
 obtain⟨ns,rfl⟩:=items_int h3
 have hlen:ns.length<=n:=by
  unfold OpenLaw.pre at hc
  have h4:(WTm.not (.lt (.lit (.int (n:Int))) (.len (.arg 0)))).holds [] { args:=[.list (ns.map .int)] }=true:=by
   have h4:=(holds_andW hc).1
   rw [hn] at h4
   exact h4
  have h5:=condW_of h4 (w_not (w_lt w_lit (w_len_list (w_arg rfl))))
  rw [Bv] at h5
  refine Nat.le_of_not_lt fun q=>?_
  have q':(n:Int) < ((ns.length:Nat):Int):=by omega
  first
   | (rw [decide_eq_true q'] at h5; exact absurd h5 (by decide))
   | (simp at h5; omega)
 cases hwl with
 | cons w1 w2 =>
  cases w2
  cases w1 with
  | list ho hall=>exact⟨_,_,ns,rfl,rfl,ho,f2k ns _ hall,hlen⟩
theorem h5o(l:OpenLaw)(args:List WData):l.row.toRowW.claim.post args (.bool true) args=true :=
 postW_of (r:=l.row.toRowW) (X:=(true == true))
  (show WShape.has [] (.bool true) .bool=true by first | rfl | decide | simp [WShape.has,WShape.arms,WShape.armsAll])
  (show (WTm.eq .res (.lit (.bool true))).value [] { args:=args,res:=some (.bool true),after:=args }=some (.bool (true == true)) from w_eq_bool (w_res rfl) w_lit) rfl
section
variable {prog:Dc}{w:E2}{A:Ds}{E:Br->Bx->Prop}{s:Bx}{K:Frag}
end
end Att
namespace L2
open PySem PySem.Spec PyProof.Rows
theorem g3i:∀ {vs:List Br} {ns:List Int},Pn vs ns->Vals (ns.map V.int) vs
 | _,_,.nil=>.nil
 | _,_,.cons n t h=>.cons ⟨t,rfl⟩ (g3i h)
def Only(H:Hp):Prop:=∀ b,H b=none\/∃ o xs,H b=some (.frz o (.lst xs))
theorem i1f{P:Dc}{w:E2}{K:Bw}{mg mb:Str->Option Br}{CX:CXT}{k:Nat}{fa a:Addr}{fd:C8}{x:Str}{sp:Sp}{Ae:Bx}{vs:List Br}{ns:List Int}
  (KX:K.In Ae.heap) (hns:Ae.heap.Ns C2 mg) (hb:Ae.heap.Ns Qz mb) (hbb:∀ x:Str,x≠"__name__"->mb x=Ho x) (hlim:Ae.heap.NoLimit) (hg:Ae.gens = #[])
  (ha:Ae.heap.get? a=some { cls:=.type "list",data:=.seq vs.toArray }) (hi:Pn vs ns) (hl:ns.length<=Cb) (hr:b2u k Lx)
  (F:∀ base:Heap,K.In base->base.Ns C2 mg->a1j P w K mg base CX k fa fd [x] sp) (hbind:∀ (s:Bx) (u:Br),M3 s fd ⟨[u],[]⟩ [(x,u)])
  (hsp:∀ H:Hp,Only H->SqL K H a (ns.map V.int)->sp [.ref a] H (fun v _=>v = .bl true) fun _ _ _=>False)
  (hCX:∀ H e s',CX [] H Ae (fun _ _ _=>False) e s'->False) :
  J1 (model P w) Lx (.call (.ref fa) ⟨[.ref a],[]⟩) (fun r s'=>r = .ok (.ret (.bool true))/\OldK Ae.heap s'.heap/\s'.os=Ae.os/\Ji s'.gens) Ae:=by
 have rv:=g3i hi
 have lenV:=hi.length
 -- from an abstract heap in which nothing but the script may be tracked
 have core:∀ H:Hp,Only H->SqL K H a (ns.map V.int)->HOk P w H Ae.heap->(∀ b,H b≠none->b=a)->(H a≠none->K.lookup a=none) ->
   J1 (model P w) Lx (.call (.ref fa) ⟨[.ref a],[]⟩) (fun r s'=>r = .ok (.ret (.bool true))/\OldK Ae.heap s'.heap/\s'.os=Ae.os/\Ji s'.gens) Ae:=by
  intro H hO hS hok hA hK
  have h5p:∀ {b:Addr} {o:Obj},Ae.heap.get? b=some o->H b=none->(i0r Ae.heap H).get? b=some o:=fun e n=>i0s e n
  have noA:∀ {b:Addr} {o:Obj} {es:Array DictEntry} {ep:Nat},Ae.heap.get? b=some o->o.data = .dict es ep->H b=none:=fun {b o es ep} e d=>by
   cases q:H b with
   | none=>rfl
   | some u =>
    have e':b=a:=hA b (by rw [q]; simp)
    subst e'
    rw [ha] at e; cases e
    have d':Data.seq vs.toArray _=Data.dict es ep:=d
    cases d'
  have nsK:∀ {b:Addr} {m:Str->Option Br},Ae.heap.Ns b m->(i0r Ae.heap H).Ns b m:=fun {b m} ⟨o,es,ep,e,d,r⟩=>⟨o,es,ep,h5p e (noA e d),d,r⟩
  have hKb:K.In (i0r Ae.heap H):=fun b o e=>h5p (KX b o e) (by
   cases q:H b with
   | none=>rfl
   | some u =>
    have e':b=a:=hA b (by rw [q]; simp)
    subst e'
    rw [hK (by rw [q]; simp)] at e; cases e)
  have hM:Mod K mg (i0r Ae.heap H):=⟨hKb,nsK hns,⟨mb,nsK hb,hbb⟩,let ⟨mc,h1,h2⟩:=hlim; ⟨mc,nsK h1,h2⟩⟩
  have e0:i4m P w K mg (i0r Ae.heap H) Lx [] Ae H:=⟨rfl,hM,fun b o e=>i6c e,Nat.le_of_eq (h4m _ _),trivial,fun b hb=>absurd (show b∈([] : List Addr) from hb) (by simp),hok,.of_eq hg⟩
  refine Iz ((F _ hKb (nsK hns)).run Lx [] Ae H ⟨[.ref a],[]⟩ [.ref a] [.ref a] _ _ hr e0 (hbind Ae (.ref a)) (.cons rfl .nil) (hsp H hO hS)) fun r s' h=>?_
  cases r with
  | error e=>exact (hCX H e s' h).elim
  | ok fl =>
   cases fl with
   | next=>exact Bq h
   | brk=>exact Bq h
   | cont=>exact Bq h
   | ret u =>
    obtain⟨v,H',os,bare,un,hok',r',q⟩:=h
    have q':v = .bl true:=q
    subst q'
    obtain rfl:u=K9 true:=r'
    refine⟨rfl,OldK.of_keep fun b o e=>?_,os,bare⟩
    cases q:H b with
    | none=>exact un.keep b o e q (by intro z; exact absurd (show b∈([] : List Addr) from z) (by simp)) (by simp)
    | some u =>
     rcases hO b with z | ⟨ob,xs,z⟩
     .rw [q] at z; cases z
     .have z2:=un.g6m b ob _ z
      obtain⟨e1,_⟩:=hok b _ z
      obtain⟨e2,_⟩:=hok' b _ z2
      rw [e] at e1; cases e1
      exact e2
 cases hk:K.lookup a with
 | some o =>
  -- the script is one of the module's own objects
  have e:=KX a o hk
  rw [ha] at e
  cases e
  refine core (fun _=>none) (fun _=>.inl rfl) (.inr ⟨_,vs.toArray,_,hk,rfl,rfl,rfl,by rw [Di,lenV]; exact hl,by simpa using rv⟩) (fun b u z=>by have z':(none:Option HO)=some u:=z; cases z') (fun b z=>absurd rfl z) fun z=>absurd rfl z
 | none =>
  refine core (fun b=>if b=a then some (.frz { cls:=.type "list",data:=.seq vs.toArray } (.lst (ns.map V.int))) else none) (fun b=>?_) (.inl (.inr ⟨{ cls:=.type "list",data:=.seq vs.toArray },if_pos rfl⟩)) (fun b u z=>?_) (fun b z=>?_) fun _=>hk
  .by_cases hb:b=a
   .exact .inr ⟨_,_,if_pos hb⟩
   .exact .inl (if_neg hb)
  .by_cases hb:b=a
   .have z':=(if_pos hb).symm.trans z
    cases z'
    subst hb
    exact⟨ha,by rw [Bv]; exact hl,vs,_,rv,ha⟩
   .have z':=(if_neg hb).symm.trans z
    cases z'
  .by_cases hb:b=a
   .exact hb
   .exact absurd (if_neg hb) z
end L2
/- THE LAST THEOREM (shape; LID,My.* are yours):
  My.Adr: a structure of the addresses that your layer names (classes,functions); My.Txt K t: a structure (Prop) of the equations over K;
  My.txt_mk:{K} {implicit addresses ..} (e1:nsIn K C2 "law"=some (some (.ref f))) (e2:K.lookup f=some ⟨oc,od,.func (fnOf "law" "law" params body scope dV kV doc pm an cdv ct),sl⟩) (e3:codeIn K cdv "law"=true) .. : ∃ t,My.Txt K t
(the tactic k_is has no namespace: write k_is) -/
namespace L2
open PySem PySem.Spec PyProof.Rows
noncomputable def inClass(s:Stmt)(j:Nat):Stmt:=match s with
 | .ClassDef _ _ _ body _ _ _ _ _ _ _=>body.getD j (.Pass ⟨0,0,0,0⟩)
 | _=>.Pass ⟨0,0,0,0⟩
noncomputable def f9u(s:Stmt):Arguments:=match s with
 | .FunctionDef _ a _ _ _ _ _ _ _ _=>a
 | _=>{ posonlyargs:=[],args:=[],vararg:=none,kwonlyargs:=[],kw_defaults:=[],kwarg:=none,defaults:=[] }
noncomputable def f2l(s:Stmt):List Stmt:=match s with
 | .FunctionDef _ _ b _ _ _ _ _ _ _=>b
 | _=>[]
noncomputable def a0l(s:Stmt):Fg:=match s with
 | .FunctionDef _ _ _ _ _ _ sc _ _ _=>sc
 | _=>{ kind:=.function,names:=[],isGenerator:=false,isCoroutine:=false }
noncomputable abbrev CX0:CXT:=fun _ _ _ _ _ _=>False
abbrev E0:XK:=fun _ _ _=>False
theorem a3i{X:Cx}:Passes CX0 X E0:=fun _ _ _ _ _ _ _ h=>h.elim
structure Fun(K:Bw)(x qual:Str)(st:Stmt)(f:Addr)(fd:C8):Prop where
 ex:∃ (oc:Br) (od:Option Addr) (kV doc pm:Br) (an:Option Addr) (cdv ct:Br) (osl:Array (Option Br)),
  fd=Oa x qual (f9u st) (f2l st) (a0l st) .none kV doc pm an cdv ct/\K.lookup f=some ⟨oc,od,.func fd,osl⟩/\W.codeIn K cdv qual=true
 kp:Jj K (.ref f)=true
section
variable {P:Dc}{w:E2}{K:Bw}{mg:Str->Option Br}{base:Heap}
theorem Fun.ok{x qual:Str}{st:Stmt}{f:Addr}{fd:C8}{N ps:List Str}{k:Nat}{sp:Sp}(F:Fun K x qual st f fd)(S:a0r N ps (a0l st))(len:∀ vs H Q E,sp vs H Q E->vs.length=ps.length)
  (hbody:∀ (cdv:Br) (A:Ds) (outer:List Env) (s:Bx) (H:Hp) (vs:List V) (Q:VK) (E:XK),b2u k (A.deeper (Ln qual (a0l st) s.heap.objs.size f cdv))->sp vs H Q E ->
   ∃ t,PSs (i6q CX0 P w K mg base N qual (a0l st) f cdv A outer s H E).nox (f2l st) t/\t { nx:=fun _ H'=>Q .non H',rt:=Q } (start N vs) H):a1j P w K mg base CX0 (k+1) f fd ps sp:=by
 obtain⟨oc,od,kV,doc,pm,an,cdv,ct,osl,rfl,lk,hcd⟩:=F.ex
 refine j9l lk hcd S len fun A outer s H vs Q E hr hsp=>?_
 obtain⟨t,h,q⟩:=hbody cdv A outer s H vs Q E hr hsp
 exact⟨t,h.nox,q⟩
theorem Fun.binds{x qual:Str}{st:Stmt}{f:Addr}{fd:C8}{ps:List Str}(F:Fun K x qual st f fd)
  (h:∀ (kV doc pm:Br) (an:Option Addr) (cdv ct:Br) (us:List Br),us.length=ps.length->bindArgs (Oa x qual (f9u st) (f2l st) (a0l st) .none kV doc pm an cdv ct) ⟨us,[]⟩=pure (ps.zip us)):Binds K fd ps []:=by
 obtain⟨oc,od,kV,doc,pm,an,cdv,ct,osl,rfl,lk,hcd⟩:=F.ex
 exact .all (h kV doc pm an cdv ct)
theorem a1h{x qual:Str}{st:Stmt}{f:Addr}{oc:Br}{od an:Option Addr}{osl:Array (Option Br)}{kV doc pm cdv ct:Br}(l:K.lookup f=some ⟨oc,od,.func (Oa x qual (f9u st) (f2l st) (a0l st) .none kV doc pm an cdv ct),osl⟩)
  (c:W.codeIn K cdv qual=true) (k:Jj K (.ref f)=true):Fun K x qual st f (Oa x qual (f9u st) (f2l st) (a0l st) .none kV doc pm an cdv ct):=⟨⟨oc,od,kV,doc,pm,an,cdv,ct,osl,rfl,l,c⟩,k⟩
end
section
variable {X:Cx}
end
def Same(H H':Hp):Prop:=∀ b o,H b=some o->H' b=some o
theorem Same.refl(H:Hp):Same H H:=fun _ _ h=>h
theorem Same.trans{H H1 H2:Hp}(a:Same H H1)(b:Same H1 H2):Same H H2:=fun c o h=>b c o (a c o h)
theorem Same.free{H H':Hp}(e:Same H H'){l:Addr}(h:H' l=Rh):H l=Rh:=by
 cases q:H l with
 | none=>rfl
 | some o =>
  rw [e l o q] at h
  cases h
variable {K:Bw}
theorem Same.seq{H H':Hp}{a:Addr}{xs:List V}(e:Same H H')(h:SqL K H a xs):SqL K H' a xs:=by
 rcases h with (h | ⟨o,h⟩) | h
 .exact .inl (.inl (e _ _ h))
 .exact .inl (.inr ⟨o,e _ _ h⟩)
 .exact .inr h
variable {u:Br}{y:V}
section
variable {κ:Type}[DecidableEq κ]
noncomputable def b9m(kvs:List (κ×V))(k:κ):Option V:=(kvs.find? fun kv=>decide (kv.1=k)).map (·.2)
noncomputable def putK(kvs:List (κ×V))(k:κ)(v:V):List (κ×V) :=
 if (kvs.any fun kv=>decide (kv.1=k))=true then kvs.map (fun kv=>if kv.1=k then (kv.1,v) else kv) else kvs++[(k,v)]
noncomputable def dropK(kvs:List (κ×V))(k:κ):List (κ×V):=kvs.filter fun kv=>decide (kv.1≠k)
theorem b2v{p:κ×V}{r:List (κ×V)}{k:κ}(e:p.1=k):b9m (p :: r) k=some p.2:=by simp [b9m,K0,e]
theorem b1g{p:κ×V}{r:List (κ×V)}{k:κ}(e:¬ p.1=k):b9m (p :: r) k=b9m r k:=by simp [b9m,K0,e]
theorem d5i(k:κ):∀ kvs:List (κ×V),(kvs.any fun kv=>decide (kv.1=k))=(b9m kvs k).isSome
 | []=>rfl
 | p :: r=>by
  rw [M6]
  by_cases e:p.1=k
  .simp only [b2v e,decide_eq_true e,Bool.true_or,Option.isSome_some]
  .rw [b1g e,decide_eq_false e,Bool.false_or]; exact d5i k r
theorem g9p(k j:κ)(y:V):∀ kvs:List (κ×V),b9m (kvs.map fun kv=>if kv.1=k then (kv.1,y) else kv) j=(b9m kvs j).map fun x=>if j=k then y else x
 | []=>rfl
 | p :: r=>by
  have ih:=g9p k j y r
  rw [Es]
  by_cases h:p.1=k
  .rw [if_pos h]
   by_cases e:p.1=j
   .rw [b2v (p:=(p.1,y)) e,b2v e,Jf,if_pos (e.symm.trans h)]
   .rw [b1g (p:=(p.1,y)) e,b1g e,ih]
  .rw [if_neg h]
   by_cases e:p.1=j
   .rw [b2v (p:=p) e,b2v e,Jf,if_neg (fun z=>h (e.trans z))]
   .rw [b1g (p:=p) e,b1g e,ih]
theorem g3j(k j:κ)(y:V):∀ kvs:List (κ×V),b9m kvs k=none->b9m (kvs++[(k,y)]) j=if j=k then some y else b9m kvs j
 | [],_=>by
  by_cases e:k=j
  .rw [if_pos e.symm]; exact b2v (p:=(k,y)) e
  .rw [if_neg (fun z=>e z.symm)]; exact b1g (p:=(k,y)) e
 | p :: r,hn=>by
  rw [Fd]
  have hk:¬ p.1=k:=fun z=>by rw [b2v z] at hn; cases hn
  rw [b1g hk] at hn
  have ih:=g3j k j y r hn
  by_cases e:p.1=j
  .rw [b2v e,b2v e,if_neg (fun z=>hk (e.trans z))]
  .rw [b1g e,b1g e,ih]
theorem c3u(kvs:List (κ×V))(k j:κ)(y:V):b9m (putK kvs k y) j=if j=k then some y else b9m kvs j:=by
 unfold putK
 by_cases a:(kvs.any fun kv=>decide (kv.1=k))=true
 .rw [if_pos a,g9p]
  rw [d5i] at a
  by_cases e:j=k
  .obtain⟨x,hx⟩:=M9.mp a
   rw [if_pos e,e,hx,Jf,if_pos rfl]
  .rw [if_neg e]
   cases b9m kvs j with
   | none=>rfl
   | some x=>rw [Jf,if_neg e]
 .rw [if_neg a]
  refine g3j k j y kvs ?_
  rw [d5i] at a
  cases q:b9m kvs k with
  | none=>rfl
  | some x=>rw [q] at a; exact (a rfl).elim
theorem b6s(kvs:List (κ×V))(k:κ)(v:V):(putK kvs k v).length<=kvs.length+1:=by
 unfold putK
 split
 .rw [Bv]; lia
 .rw [C1,Cq,Jb]; lia
theorem g9q{kvs:List (κ×V)}{k:κ}(v:V)(h:b9m kvs k=none):putK kvs k v=kvs++[(k,v)]:=by
 unfold putK
 rw [d5i,h]
 exact if_neg (by decide)
theorem g6g.f2m{o:Option V}{u:Option Br}(r:g6g o u):o.isSome=u.isSome:=by
 cases o with
 | none=>cases u with
  | none=>rfl
  | some _=>exact (show False from r).elim
 | some _=>cases u with
  | none=>exact (show False from r).elim
  | some _=>rfl
theorem KV.val{kvs:List (κ×V)}{vs:List (κ×Br)}(r:KV kvs vs)(k:κ):g6g (b9m kvs k) (Lw vs k):=by
 unfold KV at r
 induction r with
 | nil=>exact F8
 | @cons p q ps qs h t ih =>
  obtain⟨h1,h2⟩:=h
  by_cases e:p.1=k
  .have e':q.1=k:=h1.symm.trans e
   have b:Lw (q :: qs) k=some q.2:=by simp [Lw,K0,e']
   rw [b2v e,b]; exact h2
  .have e':¬ q.1=k:=fun z=>e (h1.trans z)
   have b:Lw (q :: qs) k=Lw qs k:=by simp [Lw,K0,e']
   rw [b1g e,b]; exact ih
theorem KV.any{kvs:List (κ×V)}{vs:List (κ×Br)}(r:KV kvs vs)(k:κ):(kvs.any fun kv=>decide (kv.1=k))=vs.any fun kv=>decide (kv.1=k):=by
 unfold KV at r
 induction r with
 | nil=>rfl
 | cons h t ih=>rw [M6,M6,ih,h.1]
theorem KV.repl{kvs:List (κ×V)}{vs:List (κ×Br)}(r:KV kvs vs)(k:κ){y:V}(ry:RelV y u) :
  KV (kvs.map fun kv=>if kv.1=k then (kv.1,y) else kv) (vs.map fun kv=>if kv.1=k then (kv.1,u) else kv):=by
 unfold KV at r ⊢
 induction r with
 | nil=>exact .nil
 | @cons p q ps qs h t ih =>
  rw [Es,Es]
  refine .cons ?_ ih
  obtain⟨h1,h2⟩:=h
  by_cases e:p.1=k
  .rw [if_pos e,if_pos (h1.symm.trans e)]; exact⟨h1,ry⟩
  .rw [if_neg e,if_neg (fun z=>e (h1.trans z))]; exact⟨h1,h2⟩
theorem KV.put{kvs:List (κ×V)}{vs:List (κ×Br)}(r:KV kvs vs)(k:κ)(ry:RelV y u):KV (putK kvs k y) (stored vs k u):=by
 unfold putK stored
 rw [r.any k]
 by_cases e:(vs.any fun kv=>decide (kv.1=k))=true
 .rw [if_pos e,if_pos e]; exact r.repl k ry
 .rw [if_neg e,if_neg e]; exact Rb r ⟨rfl,ry⟩
theorem KV.length{kvs:List (κ×V)}{vs:List (κ×Br)}(r:KV kvs vs):kvs.length=vs.length:=M7 r
end
theorem h5q{P:Dc}{w:E2}{k:Key}(r:RelV (kV k) u):(a7s P w).is k u=true:=by
 cases k with
 | inl i=>obtain⟨t,e⟩:=(show ∃ t,u=Ja i t from r); subst e; exact g6k P w i t
 | inr x=>obtain⟨t,e⟩:=(show ∃ t,u=J9 x t from r); subst e; exact g6l P w x t
theorem g3k{P:Dc}{w:E2}:∀ {ks:List Key} {us:List Br},Vals (ks.map kV) us->ItemsAre (a7s P w) ks us
 | [],_,r=>by rw [N6] at r; cases r; exact .nil
 | k :: ks,_,r=>by
  rw [Es] at r
  cases r with
  | cons h t=>exact .cons (h5q h) (g3k t)
noncomputable abbrev KT(H:Hp):List (List Key×V)->List (List Key×Addr×Br)->Prop:=Paired fun p q=>p.1=q.1/\H q.2.1=some (.tup (p.1.map kV))/\RelV p.2 q.2.2
variable {kvs:List (List Key×V)}{xs:List (List Key×Addr×Br)}
theorem KT.val{H:Hp}(r:KT H kvs xs)(k:List Key):g6g (b9m kvs k) ((Nd xs k).map (·.2)):=by
 induction r with
 | nil=>exact F8
 | @cons p q ps qs h t ih =>
  obtain⟨h1,_,h2⟩:=h
  by_cases e:p.1=k
  .have e':q.1=k:=h1.symm.trans e
   have b:Nd (q :: qs) k=some q.2:=by simp [Nd,K0,e']
   rw [b2v e,b]; exact h2
  .have e':¬ q.1=k:=fun z=>e (h1.trans z)
   have b:Nd (q :: qs) k=Nd qs k:=by simp [Nd,K0,e']
   rw [b1g e,b]; exact ih
theorem KT.repl{H:Hp}(r:KT H kvs xs)(k:List Key)(ry:RelV y u) :
  KT H (kvs.map fun kv=>if kv.1=k then (kv.1,y) else kv) (xs.map (putAt k u)):=by
 induction r with
 | nil=>exact .nil
 | @cons p q ps qs h t ih =>
  rw [Es,Es]
  refine .cons ?_ ih
  obtain⟨h1,h2,h3⟩:=h
  unfold putAt
  by_cases e:p.1=k
  .rw [if_pos e,if_pos (h1.symm.trans e)]; exact⟨h1,h2,ry⟩
  .rw [if_neg e,if_neg (fun z=>e (h1.trans z))]; exact⟨h1,h2,h3⟩
theorem KT.put{H:Hp}(r:KT H kvs xs)(k:List Key){b:Addr}(hb:H b=some (.tup (k.map kV)))(ry:RelV y u) :
  KT H (putK kvs k y) (storedH xs k b u):=by
 have e:(kvs.any fun kv=>decide (kv.1=k))=(Nd xs k).isSome:=by
  rw [d5i,(r.val k).f2m,Og]
 unfold putK storedH
 rw [e]
 by_cases q:(Nd xs k).isSome=true
 .rw [if_pos q,if_pos q]; exact r.repl k ry
 .rw [if_neg q,if_neg q]; exact Rb r ⟨rfl,hb,ry⟩
theorem KT.keeps{H H':Hp}(r:KT H kvs xs)(ht:∀ b ys,H b=some (.tup ys)->H' b=some (.tup ys)):KT H' kvs xs :=
 Paired.j9a r fun _ _ z=>⟨z.1,ht _ _ z.2.1,z.2.2⟩
section
variable {P:Dc}{w:E2}{H:Hp}{h:Heap}{a:Addr}
theorem j2w{u:HO}(ok:HOk P w H h)(e:Rd H a u):b3k P w H h a u:=e.ok ok
variable {kvs:List (Key×V)}
theorem h5r(ok:HOk P w H h)(e:Rd H a (.dK kvs)):kvs.length<=Cb/\(a == G8)=false/\∃ vs,KV kvs vs/\h.DictOf (a7s P w) a vs :=
 show b3k P w H h a (.dK kvs) from j2w ok e
theorem j2x(ok:HOk P w H h)(e:H a=some (.dK kvs)):kvs.length<=Cb/\(a == G8)=false/\∃ vs,KV kvs vs/\h.DictOf (a7s P w) a vs:=h5r ok (.inl e)
theorem g9r{ks:List Key}(ok:HOk P w H h)(e:H a=some (.tup (ks.map kV))):(Md (a7s P w)).is h ks a:=by
 obtain⟨_,its,r,o,h1,h2,n,h3⟩:=(show b3k P w H h a (.tup (ks.map kV)) from ok a _ e)
 exact⟨o,its.toArray,n,h1,h2,h3,by simpa using g3k r⟩
variable {kvs:List (List Key×V)}
theorem i1g(ok:HOk P w H h)(e:Rd H a (.dT kvs)):kvs.length<=Cb/\(a == G8)=false /\
  ∃ xs,KT H kvs xs/\h.DictOfH (Md (a7s P w)) a xs:=by
 obtain⟨z,y,xs,r,o,es,ep,h1,h2,h3,h4,h5⟩:=(show b3k P w H h a (.dT kvs) from j2w ok e)
 refine⟨z,y,xs,r,o,es,ep,h1,h2,h3,h4,fun x hx=>?_,h5⟩
 have all:∀ {l:List (List Key×V)} {m:List (List Key×Addr×Br)},KT H l m->∀ x∈m,(Md (a7s P w)).is h x.1 x.2.1:=by
  intro l m q
  induction q with
  | nil=>intro x hx; exact nomatch hx
  | @cons p q ps qs hq t ih =>
   intro x hx
   rcases Db.mp hx with e | hx
   .subst e
    exact g9r ok (by rw [<- hq.1]; exact hq.2.1)
   .exact ih x hx
 exact all r x hx
theorem j9p(ok:HOk P w H h)(e:H a=some (.dT kvs)):kvs.length<=Cb/\(a == G8)=false /\
  ∃ xs,KT H kvs xs/\h.DictOfH (Md (a7s P w)) a xs:=i1g ok (.inl e)
end
def h5s(H:Hp)(a:Addr)(y:V)(r:Option V):Prop :=
 (∃ kvs k,Rd H a (.dK kvs)/\y=kV k/\r=b9m kvs k)\/∃ kvs k b,Rd H a (.dT kvs)/\y = .ref b/\H b=some (.tup (k.map kV))/\r=b9m kvs k
def j0v(H:Hp)(a:Addr)(y v:V)(H':Hp):Prop :=
 (∃ kvs k,H a=some (.dK kvs)/\y=kV k/\kvs.length < Cb/\H'=upd H a (.dK (putK kvs k v))) \/
 ∃ kvs k b,H a=some (.dT kvs)/\y = .ref b/\H b=some (.tup (k.map kV))/\kvs.length < Cb/\H'=upd H a (.dT (putK kvs k v))
theorem h5s.k{H:Hp}{a:Addr}{kvs:List (Key×V)}{k:Key}(e:H a=some (.dK kvs)):h5s H a (kV k) (b9m kvs k):=.inl ⟨kvs,k,.inl e,rfl,rfl⟩
theorem h5s.t{H:Hp}{a b:Addr}{k:List Key}(e:H a=some (.dT kvs))(eb:H b=some (.tup (k.map kV))):h5s H a (.ref b) (b9m kvs k):=.inr ⟨kvs,k,b,.inl e,rfl,eb,rfl⟩
theorem j0v.k{H:Hp}{a:Addr}{kvs:List (Key×V)}{k:Key}{v:V}(e:H a=some (.dK kvs))(hl:kvs.length < Cb):j0v H a (kV k) v (upd H a (.dK (putK kvs k v))):=.inl ⟨kvs,k,e,rfl,hl,rfl⟩
theorem j0v.t{H:Hp}{a b:Addr}{k:List Key}{v:V}(e:H a=some (.dT kvs))(eb:H b=some (.tup (k.map kV)))(hl:kvs.length < Cb) :
  j0v H a (.ref b) v (upd H a (.dT (putK kvs k v))):=.inr ⟨kvs,k,b,e,rfl,eb,hl,rfl⟩
variable {w:E2}
section
variable {X:Cx}{pins:List (Addr×Obj)}{O:St}{H:Hp}{s:Bx}{a:Addr}{y v:V}{u r:Br}{o:Option V}{A:Ds}{E:Br->Bx->Prop}
theorem Inv.big(I:Inv X pins O H s):G8 < s.heap.objs.size:=by
 have h:C2 < s.heap.objs.size:=(I.mod.glob.keeps I.bk).lt
 exact Nat.lt_trans (by decide) h
variable {Q:Br->Bx->Prop}
theorem h5t(hu:A.units+1 < Im)(I:Inv X pins O H s)(g:h5s H a y (some v))(ry:RelV y u)(h:∀ w' s',Inv X pins O H s'->RelV v w'->Q w' s') :
  Ch (model X.prog X.w) A (Kn (.ref a) u) Q E s:=by
 rcases g with ⟨kvs,k,e,ey,l⟩ | ⟨kvs,k,b,e,ey,eb,l⟩
 .subst ey
  obtain⟨z,hd,vs,rel,dd⟩:=h5r I.hok e
  obtain⟨w',hw,rw'⟩:=g6g.some_of (v:=v) (o:=Lw vs k) (by rw [l]; exact rel.val k)
  exact wpAny_getItem_of (h5q ry) dd.mapOf hw (h w' _ (I.tok _) rw')
 .subst ey
  cases (show u=Do b from ry)
  obtain⟨z,hd,xs,rel,dd⟩:=i1g I.hok e
  obtain⟨w',hw,rw'⟩:=g6g.some_of (v:=v) (o:=(Nd xs k).map (·.2)) (by rw [l]; exact rel.val k)
  obtain⟨p,hp,hp2⟩:=C7.mp hw
  refine wpAny_getItem_heap (Lg hu) (g9r I.hok eb) dd hp ?_
  rw [hp2]
  exact h w' _ (I.tok _) rw'
theorem i6u(hu:A.units+1 < Im)(I:Inv X pins O H s)(g:h5s H a y o)(ry:RelV y u)(h:∀ s',Inv X pins O H s'->Q (.bool (!o.isSome)) s') :
  Ch (model X.prog X.w) A (Dl .NotIn u (.ref a)) Q E s:=by
 rcases g with ⟨kvs,k,e,ey,l⟩ | ⟨kvs,k,b,e,ey,eb,l⟩
 .subst ey
  obtain⟨z,hd,vs,rel,dd⟩:=h5r I.hok e
  refine wpAny_notIn_of (h5q ry) hd dd.mapOf ?_
  rw [<- (rel.val k).f2m,<- l]
  exact h _ (I.tok _)
 .subst ey
  cases (show u=Do b from ry)
  obtain⟨z,hd,xs,rel,dd⟩:=i1g I.hok e
  refine wpAny_notIn_heap (Lg hu) (g9r I.hok eb) hd dd ?_
  have q:=(rel.val k).f2m
  rw [Og] at q
  rw [<- q,<- l]
  exact h _ (I.tok _)
theorem g6r{h':Heap}{t':Nat}{ob:HO}(I:Inv X pins O H s)(mu:Mut (H a))(hs:E7 a s.heap h')(he:∃ q,h'.get? a=some q)(new:b3k X.prog X.w (upd H a ob) h' a ob) :
  Inv X pins O (upd H a ob) { s with heap:=h',toks:=t' } :=
 I.write (x:=a) (e:=a) mu (.inl rfl) (fun b q hb z=>(hs.2 b hb).trans z) he new
theorem i4o{P:Dc}{H':Hp}{h':Heap}{kvs:List (Key×V)}{vs:List (Key×Br)}(z:kvs.length<=Cb)(hd:(a == G8)=false)(rel:KV kvs vs)(dd:h'.DictOf (a7s P w) a vs) :
  b3k P w H' h' a (.dK kvs):=⟨z,hd,vs,rel,dd⟩
theorem h5u{H':Hp}{Q:Unit->Bx->Prop}(hu:A.units+1 < Im)(I:Inv X pins O H s)(g:j0v H a y v H')(ry:RelV y u)(rv:RelV v r)(h:∀ s',Inv X pins O H' s'->Q () s') :
  Ch (model X.prog X.w) A (setItem (.ref a) u r) Q E s:=by
 rcases g with ⟨kvs,k,e,ey,l,eH⟩ | ⟨kvs,k,b,e,ey,eb,l,eH⟩
 .subst ey eH
  obtain⟨z,hd,vs,rel,dd⟩:=j2x I.hok e
  have hz:vs.length<=Cb:=by rw [<- rel.length]; exact z
  have hl:(putK kvs k v).length<=Cb:=by have:=b6s kvs k v; lia
  refine wpAny_setItem_pairs (hsz:=hz) (h5q ry) dd fun h' dd' hs=>h _ ?_
  have he:∃ q,h'.get? a=some q:=let ⟨q,_,_,hq,_⟩:=dd'; ⟨q,hq⟩
  exact g6r I (by rw [e]; exact F8) hs he (i4o hl hd (rel.put k rv) dd')
 .subst ey eH
  cases (show u=Do b from ry)
  obtain⟨z,hd,xs,rel,dd⟩:=j9p I.hok e
  have hz:xs.length<=Cb:=by rw [<- M7 rel]; exact z
  have hl:(putK kvs k v).length<=Cb:=by have:=b6s kvs k v; lia
  refine wpAny_setItem_heap (hsz:=hz) (Lg hu) (g9r I.hok eb) dd fun h' dd' hs=>h _ ?_
  obtain⟨q,es,ep,hq,h2,h3,h4,_,h5⟩:=dd'
  refine g6r I (by rw [e]; exact F8) hs ⟨q,hq⟩ ⟨hl,hd,_,(rel.put k eb rv).keeps fun c ys ec=>?_,q,es,ep,hq,h2,h3,h4,h5⟩
  rw [a3w (j8z ec e (fun z=>nomatch z))]
  exact ec
end
section
variable {X:Cx}{pins:List (Addr×Obj)}{O:St}{H:Hp}{s:Bx}{a:Addr}{kvs:List (Key×V)}{k:Key}{u:Br}{A:Ds}{E:Br->Bx->Prop}
theorem j9q{Q:Br->Bx->Prop}(I:Inv X pins O H s)(e:Rd H a (.dK kvs))(h:∀ t s',Inv X pins O H s'->Q (.int kvs.length t) s'):Ch (model X.prog X.w) A (call (.builtin "len") [.ref a]) Q E s:=by
 obtain⟨z,hd,vs,rel,dd⟩:=h5r I.hok e
 refine call_len_dict hd dd (by rw [<- rel.length]; rw [Dm] at z; lia) ?_
 rw [<- rel.length]
 exact h _ _ (I.tok _)
end
def k3k(i:Expr):Prop:=∀ ov iv,subscripted i false ov iv=operate [ov,iv] (Kn ov iv)
theorem i6v{prog:Dc}{A:Ds}{E:Br->Bx->Prop}{s:Bx}{env:Env}{value slice:Expr}{pos:Pos}{T id:String}{Q:Br->Bx->Prop}
  (hl:Qw (.type T) "__getitem__"=pure (some (.builtin id))) (hs:k3k slice)
  (h:Ch (model prog w) A (eval value env) (fun o Ae=>Ch (model prog w) A (eval slice env) (fun i Ac=>Ac.TypeIs o T/\Ch (model prog w) A (Kn o i) Q E Ac) E Ae) E s) :
  Ch (model prog w) A (eval (.Subscript value slice pos) env) Q E s:=by
 refine Rg (Dv h (fun o Ae Ak=>Dv Ak (fun i Ac Ap=>?_) fun _ _ x=>x) fun _ _ x=>x)
 obtain⟨hT,Ap⟩:=Ap
 unfold Of
 refine Bp ?_
 rw [getitemInPython_of_ne hT.not_modules]
 refine Bp (wpAny_specialOf hT hl ?_)
 have fin:Ch (model prog w) A (subscripted slice false o i) (fun r Ab=>Ch (model prog w) A (letTemporaryGo value o r >>= fun _=>pure r) Q E Ab) E Ac:=by
  rw [hs o i]
  exact wpAny_operating (Dv Ap (fun r Ab Bc=>Bp (wpAny_letTemporaryGo (Cf Bc))) fun _ _ x=>x)
 first
  | exact Cf (Bp fin)
  | exact Bp (Cf (Bp fin))
  | exact Bp fin
theorem g6s{X:Cx}{pins:List (Addr×Obj)}{O:St}{H:Hp}{s:Bx}{a:Addr}{o:Option V}(I:Inv X pins O H s)(g:h5s H a y o):s.TypeIs (.ref a) "dict":=by
 rcases g with ⟨kvs,k,e,_,_⟩ | ⟨kvs,k,b,e,_,_,_⟩
 .obtain⟨_,_,vs,_,dd⟩:=h5r I.hok e
  exact dd.typeIs
 .obtain⟨_,_,xs,_,dd⟩:=i1g I.hok e
  exact dd.typeIs
section
variable {X:Cx}{o i e value:Expr}{pos pos' tpos:Pos}{td ty tv:TE}
end
theorem g9s{P:Dc}{H:Hp}(h:Heap)(hb:G8 < h.objs.size):b3k P w H (h.push { cls:=.type "dict",data:=.dict #[] }) h.objs.size (.dK []) :=
 ⟨Dx _,beq_eq_false_iff_ne.mpr (Hk (D2 hb)),[],.nil,Heap.DictOf.new h⟩
def j2y:TE:=fun _ H Q=>∀ p,H p=none->Q (.ref p) (upd H p (.dK []))
section
variable {X:Cx}{pos:Pos}
theorem i1h:PE X (.Dict [] [] pos) j2y:=fun pins s O H Q I h =>
 wpAny_Dict_empty ⟨.ref s.heap.objs.size,_,I.laid (a:=s.heap.objs.size) (o:=.dK []) (t':=s.toks) (fun _ _ q=>Bt _ q) (C0 _) (g9s s.heap I.big),rfl,h _ (I.hok.fresh (C0 _))⟩
end
noncomputable def i4p:List (TE×TE)->St->Hp->(List (V×V)->Hp->Prop)->Prop
 | [],_,H,Q=>Q [] H
 | (tk,tv) :: r,O,H,Q=>tk O H fun x H1=>tv O H1 fun y H2=>i4p r O H2 fun ps H3=>Q ((x,y) :: ps) H3
noncomputable abbrev VV:List (V×V)->List (Br×Br)->Prop:=Paired fun p q=>RelV p.1 q.1/\RelV p.2 q.2
def PPs(X:Cx)(pos:Pos)(keys:List (Option Expr))(values:List Expr)(trs:List (TE×TE)):Prop :=
 ∀ (pins:List (Addr×Obj)) (s:Bx) (O:St) (H:Hp) (Q:List (V×V)->Hp->Prop),Inv X pins O H s->i4p trs O H Q ->
  Ch (model X.prog X.w) X.A (evalPairs (pairTrees keys values X.env pos)) (fun vs s'=>∃ ps H',Inv X pins O H' s'/\VV ps vs/\Q ps H') X.xe s
theorem i6w{X:Cx}{pos:Pos}:PPs X pos [] [] []:=fun pins s O H Q I h=>pairTrees_nil_walk ⟨[],H,I,.nil,h⟩
theorem i1i{X:Cx}{pos:Pos}{k v:Expr}{ks:List (Option Expr)}{vs:List Expr}{tk tv:TE}{trs:List (TE×TE)}(hk:PE X k tk)(hv:PE X v tv)(hr:PPs X pos ks vs trs) :
  PPs X pos (some k :: ks) (v :: vs) ((tk,tv) :: trs):=fun pins s O H Q I h =>
 pairTrees_cons_walk (c9u (hk pins s O H _ I h) fun u s1 x H1 I1 rx q1=>c9u (hv pins s1 O H1 _ I1 q1) fun w2 s2 y H2 I2 ry q2 =>
  thn (hr pins s2 O H2 _ I2 q2) fun ws s3 ⟨ps,H3,I3,rel,q3⟩=>⟨(x,y) :: ps,H3,I3,.cons ⟨rx,ry⟩ rel,q3⟩)
noncomputable def g9t(kvs more:List (Key×V)):List (Key×V):=more.foldl (fun acc kv=>putK acc kv.1 kv.2) kvs
theorem KV.merge:∀ {more:List (Key×V)} {rs:List (Key×Br)} {kvs:List (Key×V)} {vs:List (Key×Br)},KV more rs->KV kvs vs->KV (g9t kvs more) (merged vs rs):=by
 intro more rs kvs vs r
 unfold KV at r
 induction r generalizing kvs vs with
 | nil=>intro q; exact q
 | @cons p q ps qs h t ih =>
  intro r0
  have e:KV (putK kvs p.1 p.2) (stored vs q.1 q.2):=by
   have:=r0.put p.1 h.2
   rw [<- h.1]; exact this
  exact ih e
theorem d5j:∀ (more kvs:List (Key×V)),(g9t kvs more).length<=kvs.length+more.length
 | [],kvs=>by show kvs.length<=kvs.length+0; lia
 | p :: r,kvs=>by
  have h1:=d5j r (putK kvs p.1 p.2)
  have h2:=b6s kvs p.1 p.2
  show (g9t (putK kvs p.1 p.2) r).length<=_
  rw [Cq]; lia
theorem f7y{P:Dc}{w:E2}:∀ {kvs:List (Key×V)} {ws:List (Br×Br)},VV (kvs.map fun kv=>(kV kv.1,kv.2)) ws->∃ rs,Carries (a7s P w) ws rs/\KV kvs rs
 | [],_,r=>by rw [N6] at r; cases r; exact⟨[],F8,.nil⟩
 | p :: kvs,_,r=>by
  rw [Es] at r
  cases r with
  | @cons a b as bs h t =>
   obtain⟨rs,c,q⟩:=f7y (P:=P) (w:=w) t
   obtain⟨b1,b2⟩:=b
   exact⟨(p.1,b2) :: rs,⟨h5q h.1,rfl,c⟩,.cons ⟨rfl,h.2⟩ q⟩
structure M1(X:Cx)(o:Expr)(m:Str)(apos:Pos)(e:Expr)(cpos:Pos):Prop where
 base:Fb o m X.env (eval o X.env)=eval o X.env
 few:((Ew cpos (Cs [e] X.env)).all (fun x=>!x.1) && (Gc cpos (Et [] X.env)).all (fun x=>x.1.isSome)
  && decide (([e] : List Expr).length+([] : List Jw).length+(if ([] : List Jw).isEmpty then 0 else 1) < 30))=true
 line:(apos.endLine == cpos.line)=true
 trees:Ew cpos (Cs [e] X.env) = [(false,eval e X.env)]
structure M2(X:Cx)(o:Expr)(m:Str)(apos:Pos)(e f:Expr)(cpos:Pos):Prop where
 base:Fb o m X.env (eval o X.env)=eval o X.env
 few:((Ew cpos (Cs [e,f] X.env)).all (fun x=>!x.1) && (Gc cpos (Et [] X.env)).all (fun x=>x.1.isSome)
  && decide (([e,f] : List Expr).length+([] : List Jw).length+(if ([] : List Jw).isEmpty then 0 else 1) < 30))=true
 line:(apos.endLine == cpos.line)=true
 trees:Ew cpos (Cs [e,f] X.env) = [(false,eval e X.env),(false,eval f X.env)]
def IsD(H:Hp)(a:Addr):Prop:=(∃ kvs,Rd H a (.dK kvs))\/∃ kvs,Rd H a (.dT kvs)
section
variable {X:Cx}{pins:List (Addr×Obj)}{O:St}{H:Hp}{s:Bx}{a:Addr}{y d:V}{u r:Br}{o:Option V}{A:Ds}{E:Br->Bx->Prop}
end
section
variable {X:Cx}{o e f:Expr}{apos cpos:Pos}{td ty tx:TE}
end
section
variable {X:Cx}{pins:List (Addr×Obj)}{O:St}{H:Hp}{s:Bx}{a:Addr}{kvs:List (Key×V)}{A:Ds}{E:Br->Bx->Prop}
end
section
variable {X:Cx}{pins:List (Addr×Obj)}{O:St}{H:Hp}{s:Bx}{a:Addr}{y:V}{u:Br}{A:Ds}{E:Br->Bx->Prop}
end
section
variable {X:Cx}
theorem h5v:b0z X (.builtin "len") (fun xs H Q=>∃ a kvs,xs = [V.ref a]/\H a=some (.dK kvs)/\Q (.int kvs.length) H):=by
 intro pins s O H xs us Q I r h
 obtain⟨a,kvs,rfl,ha,q⟩:=h
 obtain⟨u,rfl,ru⟩:=vals1 r
 cases ru
 exact j9q I (.inl ha) fun t s' I'=>⟨.int kvs.length,H,I',⟨t,rfl⟩,q⟩
end
section
variable {κ:Type}[DecidableEq κ]
end
open PySem.Builtin.Int (intBits)
section
variable {X:Cx}{a b c:Expr}{ta tb tc:TE}{pos:Pos}
theorem i6x:OpR X (Ft .Mult) (rI Fu fun i j=>.int (i*j)):=opI fun _ _ _ _ _ _ _ hc q=>mul_int q hc
def CFd(i j:Int):Prop:=j≠0/\intBits j<=9000
theorem g6t{j:Int}(h:j≠0)(hb:intBits j<=9000):j.natAbs.log2 < 9000:=by
 have h1:=D8.mp hb
 exact (Oh (by lia)).mpr h1
theorem i1j:OpR X (Ft .FloorDiv) (rI CFd fun i j=>.int (i.fdiv j)):=opI fun i j _ _ _ _ _ hc q =>
 floordiv_int hc.1 q (.inl (PyProof.noPylong_of_log2 (g6t hc.1 hc.2)))
inductive Ty where
 | non | bl | int | str | lst | tup | dct
 deriving DecidableEq
noncomputable def Ty.nm:Ty->String
 | .non=>"NoneType" | .bl=>"bool" | .int=>"int" | .str=>"str" | .lst=>"list" | .tup=>"tuple" | .dct=>"dict"
noncomputable def h4g(H:Hp):V->Option Ty
 | .non=>some .non
 | .bl _=>some .bl
 | .int _=>some .int
 | .str _=>some .str
 | .ref a=>match H a with
  | some (.lst _)=>some .lst
  | some (.frz _ (.lst _))=>some .lst
  | some (.tup _)=>some .tup
  | some (.dK _)=>some .dct
  | some (.dT _)=>some .dct
  | _=>none
 | _=>none
noncomputable def h5w(t T:Ty):Bool:=decide (t=T) || (decide (t = .bl) && decide (T = .int))
theorem i6y{H:Hp}{x:V}{t:Ty}(h:h4g H x=some t):h1s K H x (.type t.nm):=by
 cases x with
 | non=>cases h; exact .non
 | bl b=>cases h; exact .bl b
 | int i=>cases h; exact .int i
 | str s=>cases h; exact .str s
 | byt b=>cases h
 | flt b=>cases h
 | ty n=>cases h
 | ref a =>
  unfold h4g at h
  cases e:H a with
  | none=>simp [e] at h
  | some o =>
   cases o with
   | lst xs=>simp [e] at h; subst h; exact .lst e
   | tup xs=>simp [e] at h; subst h; exact .tup e
   | dK kvs=>simp [e] at h; subst h; exact .dK e
   | dT kvs=>simp [e] at h; subst h; exact .dT e
   | frz ob u =>
    cases u with
    | lst xs=>simp [e] at h; subst h; exact .frz e
    | _=>simp [e] at h
   | _=>simp [e] at h
theorem j2z(t T:Ty):W.kitOne K (.type t.nm) (.type T.nm)=some (h5w t T):=by
 cases t <;> cases T <;> rfl
noncomputable def k3l(T:Ty):List V->Hp->VK->Prop:=fun xs H Q=>match xs with
 | [x,.ty n]=>n=T.nm/\∃ t,h4g H x=some t/\Q (.bl (h5w t T)) H
 | _=>False
theorem c3v(T:Ty):b0z X (.builtin "isinstance") (k3l T):=by
 intro pins s O H xs us Q I r h
 obtain _ | ⟨x,xs⟩:=xs
 .exact Bq h
 obtain _ | ⟨zz,xs⟩:=xs
 .exact Bq h
 obtain⟨n,rfl⟩:∃ n,zz = .ty n:=by cases zz <;> first | exact⟨_,rfl⟩ | exact Bq h
 obtain rfl:xs = []:=by
  cases xs with
  | nil=>rfl
  | cons _ _=>exact Bq h
 .obtain⟨rfl,t,ht,q⟩:=h
  obtain⟨u,v,rfl,r1,r2⟩:=vals2 r
  cases (show v=Ly T.nm from r2)
  exact h5f I r1 (i6y ht) (j2z t T) fun tk=>⟨.bl _,H,I.tok tk,rfl,q⟩
mutual
inductive g6h(K:Bw)(H:Hp):V->Me->Prop
 | non:g6h K H .non .none
 | bl (b:Bool):g6h K H (.bl b) (.bool b)
 | int (i:Int):g6h K H (.int i) (.int i)
 | str (x:Str):g6h K H (.str x) (.str x)
 | lst {a:Addr} {xs:List V} {ds:List Me}:SqL K H a xs->c9z K H xs ds->g6h K H (.ref a) (.list ds)
 | tup {a:Addr} {xs:List V} {ds:List Me}:SqT K H a xs->c9z K H xs ds->g6h K H (.ref a) (.tuple ds)
inductive c9z(K:Bw)(H:Hp):List V->List Me->Prop
 | nil:c9z K H [] []
 | cons {x:V} {xs:List V} {d:Me} {ds:List Me}:g6h K H x d->c9z K H xs ds->c9z K H (x :: xs) (d :: ds)
end
section
variable {pins:List (Addr×Obj)}{O:St}{H:Hp}{s:Bx}
mutual
theorem Inv.reads(I:Inv X pins O H s):∀ {v:V} {d:Me} {u:Br},g6h X.K H v d->RelV v u->∃ as,Reads s.heap u d as
 | _,_,_,.non,r=>by cases (show _=Ge from r); exact⟨_,.none⟩
 | _,_,_,.bl b,r=>by cases (show _=K9 b from r); exact⟨_,.bool b⟩
 | _,_,_,.int i,r=>by obtain⟨t,rfl⟩:=r; exact⟨_,.int i t⟩
 | _,_,_,.str x,r=>by obtain⟨t,rfl⟩:=r; exact⟨_,.str x t⟩
 | _,_,_,.lst (a:=a) hs ha,r=>by
  cases (show _=Do a from r)
  obtain⟨its,rv,⟨o,n,e,c,_,dd⟩,_⟩:=I.list hs
  obtain⟨as,q⟩:=Inv.readsAll I ha rv
  exact⟨_,.list e c dd (by simpa using q)⟩
 | _,_,_,.tup (a:=a) hs ha,r=>by
  cases (show _=Do a from r)
  obtain⟨its,rv,⟨o,e,c,n,dd⟩,_⟩:=I.tuple hs
  obtain⟨as,q⟩:=Inv.readsAll I ha rv
  exact⟨_,.tuple e c dd (by simpa using q)⟩
theorem Inv.readsAll(I:Inv X pins O H s):∀ {vs:List V} {ds:List Me} {us:List Br},c9z X.K H vs ds->Vals vs us->∃ as,ReadsAll s.heap us ds as
 | _,_,_,.nil,.nil=>⟨_,.nil⟩
 | _,_,_,.cons h t,.cons r q=>by
  obtain⟨as,x⟩:=Inv.reads I h r
  obtain⟨bs,y⟩:=Inv.readsAll I t q
  exact⟨_,.cons x y⟩
end
end
def k3m(K:Bw):R2:=fun x y H Q=>∃ d e,g6h K H x d/\g6h K H y e/\Ib d=true/\Ib e=true/\Q (.bl (Rs d e)) H
def j8m(K:Bw):R2:=fun x y H Q=>∃ d e,g6h K H x d/\g6h K H y e/\Ib d=true/\Ib e=true/\Q (.bl (!PyData.eqv d e)) H
theorem j3a(hu:X.A.units+64 < Im):OpR X (Dl .Eq) (k3m X.K):=by
 intro pins s O H x y v u Q I rx ry h
 obtain⟨d,e,hd,he,sd,se,q⟩:=h
 obtain⟨as,ra⟩:=I.reads hd rx
 obtain⟨bs,rb⟩:=I.reads he ry
 exact eq_dataH ra rb sd se hu ⟨.bl _,H,I,rfl,q⟩
theorem j3b(hu:X.A.units+64 < Im):OpR X (Dl .NotEq) (j8m X.K):=by
 intro pins s O H x y v u Q I rx ry h
 obtain⟨d,e,hd,he,sd,se,q⟩:=h
 obtain⟨as,ra⟩:=I.reads hd rx
 obtain⟨bs,rb⟩:=I.reads he ry
 exact ne_dataH ra rb sd se hu ⟨.bl _,H,I,rfl,q⟩
end
noncomputable def Itr3(lo c:Int)(n:Nat):It:=⟨fun i _=>i < n,fun i H x H'=>H'=H/\x = .int (lo+i*c),fun i _=>n<=i⟩
noncomputable def rngN(lo hi c:Int):Nat:=(Ko lo hi c).toNat
section
variable {X:Cx}{tg:Expr}
end
def j0w(J:It)(g:TG)(tb:TS)(D:Ends)(O:St)(H:Hp):Prop:=∃ W:Nat->Nat->St->Hp->Prop,(∃ m,W 0 m O H)/\∀ i m O H,W i m O H ->
 (J.stop i H/\D.nx O H)\/(J.go i H/\∃ N:St->Hp->Prop,(∀ Aa H',N Aa H'->∃ m',m' < m/\W (i+1) m' Aa H')/\∀ x H',J.yld i H x H'->g x O H' fun Af H2=>tb { D with nx:=N,ct:=N,bk:=D.nx } Af H2)
def j3c(wi:TI)(g:TG)(tb:TS):TS:=fun D O H=>wi O H fun J H1=>j0w J g tb D O H1
variable {body:List Stmt}{g:TG}{tb:TS}{pos:Pos}
theorem a3s{X:Cx}{tg iter:Expr}{wi:TI}(hp:Os (model X.prog X.w) X.A X.env X.xe)(hc:X.calm=true)(hi:PI X tg iter wi)(hg:PG X tg g)(hb:PSs X body tb)
  (hs:∀ x,Ez iter X.env x=pure x:=by intro _; rfl):PS X (.For tg iter body [] pos) (j3c wi g tb):=j2b hp hc hi hg hb hs
variable {D:Ends}{O:St}{H:Hp}
theorem a5k{a:Addr}{xs:List V}(Pv:Nat->St->Hp->Prop)(h0:Pv 0 O H)(hl:∀ i O H,i<=xs.length->Pv i O H->SqL K H a xs)
  (hs:∀ i x O H,xs[i]? = some x->Pv i O H->g x O H fun Af H2=>tb { D with nx:=Pv (i+1),ct:=Pv (i+1),bk:=D.nx } Af H2) (hd:∀ O H,Pv xs.length O H->D.nx O H):j0w (Itl K a) g tb D O H:=i0v Pv h0 hl hs hd
theorem c1s{lo:Int}{n:Nat}(Pv:Nat->St->Hp->Prop)(h0:Pv 0 O H)
  (hs:∀ i O H,i < n->Pv i O H->g (.int (lo+i)) O H fun Af H2=>tb { D with nx:=Pv (i+1),ct:=Pv (i+1),bk:=D.nx } Af H2) (hd:∀ O H,Pv n O H->D.nx O H):j0w (Itr lo n) g tb D O H:=h4v Pv h0 hs hd
def i4q(c:TT)(tb:TS)(D:Ends)(O:St)(H:Hp):Prop:=∃ W:Nat->St->Hp->Prop,(∃ m,W m O H)/\∀ m O H,W m O H ->
 c O H fun b H1=>if b=true then tb { D with nx:=fun Aa H'=>∃ m',m' < m/\W m' Aa H',ct:=fun Aa H'=>∃ m',m' < m/\W m' Aa H',bk:=D.nx } O H1 else D.nx O H1
def i6z(c:TT)(tb:TS):TS:=fun D O H=>i4q c tb D O H
theorem d0g{X:Cx}{c:Expr}{tc:TT}(hp:Os (model X.prog X.w) X.A X.env X.xe)(hc:PT X c tc)(hb:PSs X body tb):PS X (.While c body [] pos) (i6z tc tb):=by
 intro pins s O H D I h
 obtain⟨W,⟨m0,w0⟩,turn⟩:=h
 refine wpAny_While (codeAny_whileLoop (fun n s'=>∃ Aa H',Inv X pins Aa H' s'/\W n Aa H') ?_ m0 ⟨O,H,I,w0⟩)
 rintro n s1 ⟨Am,H1,I1,w1⟩
 refine Fn hp (j1n (hc pins s1 Am H1 _ I1 (turn n Am H1 w1)) fun b s2 H2 I2 q2=>?_)
 cases b with
 | true =>
  rw [if_pos rfl]
  refine Fn hp (thn (hb pins s2 Am H2 _ I2 q2) fun f s3 q3=>?_)
  cases f with
  | next =>
   obtain⟨Al,H3,I3,m',hm,w3⟩:=q3
   exact⟨m',hm,Al,H3,I3,w3⟩
  | cont =>
   obtain⟨Al,H3,I3,m',hm,w3⟩:=q3
   exact⟨m',hm,Al,H3,I3,w3⟩
  | brk=>exact q3
  | ret v=>exact q3
 | false =>
  rw [if_neg Cd]
  exact Gb ⟨Am,H2,I2,q2⟩
theorem d0h{c:TT}(Pv:Nat->St->Hp->Prop)(m0:Nat)(h0:Pv m0 O H)
  (hs:∀ m O H,Pv m O H->c O H fun b H1=>if b=true then tb { D with nx:=fun Aa H'=>∃ m',m' < m/\Pv m' Aa H',ct:=fun Aa H'=>∃ m',m' < m/\Pv m' Aa H',bk:=D.nx } O H1 else D.nx O H1):i4q c tb D O H :=
 ⟨Pv,⟨m0,h0⟩,hs⟩
end L2
namespace Att
open PySem PySem.W PySem.Calls PyProof.Rows
open PySem.Builtin.Int (intBits)
theorem g6u{ns:List Int}(h:WData.layableAll [WData.list (ns.map WData.int)]=true):∀ n∈ns,intBits n<=1048576:=by
 intro n hn
 have h1:=layableW_arg h _ (Dh.mpr rfl)
 have h2:=layableW_item h1 (WData.int n) (E4.mpr ⟨n,hn,rfl⟩)
 have h3:=(layableW_iff.mp h2).2.2
 exact h3
theorem g3l{l:OpenLaw}{n:Nat}{q:Dc}{loose:List Str}{XP:(Str->Option Br)->Heap->Prop}{YP:E2->Heap->Prop}{d:DefRec}
  (hn:l.most=some n) (hdf:d.params.defaults = [])
  (call:∀ (w:E2) (s₀ Ae:Bx) (mg mb:Str->Option Br) (fa:Addr) (o:Obj) (pm cd doc:Br) (a:Addr) (vs:List Br) (ns:List Int),
   Ground q loose [] XP w s₀ mg mb Ae.heap->YP w Ae.heap ->
   Ae.heap.get? fa=some o->o.data = .func (docDef d.name d.params d.body d.scope pm cd doc)->Ae.heap.CodeRec cd d.name->mg d.name=some (.ref fa) ->
   Ae.heap.get? a=some { cls:=.type "list",data:=.seq vs.toArray }->Pn vs ns->ns.length<=n->(∀ x∈ns,intBits x<=1048576)->Ae.gens = #[] ->
   J1 (model l.prog w) Lx (.call (.ref fa) ⟨[.ref a],[]⟩) (fun r s'=>r = .ok (.ret (.bool true))/\OldK Ae.heap s'.heap/\s'.os=Ae.os/\Ji s'.gens) Ae) :
  WalkO q loose XP YP l.row.toRowW d [] (fun f vs=>PySem.call f vs):=by
 intro w s₀ Ae mg mb G Y fa o pm cd doc dV kV ho hd hcd hD hmg hg args vals as hpre hlay hrd hwl hlo
 obtain rfl:dV = .none:=Dflts.none hD hdf
 obtain rfl:kV = .none:=Dflts.noKw hD
 obtain⟨a,vs,ns,rfl,rfl,hobj,hints,hlen⟩:=h5n hn hpre hwl
 refine enter_call (Iz (call w s₀ Ae mg mb fa o pm cd doc a vs ns G Y ho (fd_plain hd) hcd hmg hobj hints hlen (g6u hlay) hg) fun r s' hq=>?_)
 obtain⟨rfl,h2,h3,h4⟩:=hq
 exact⟨.inl ⟨.bool true,.bool true,[],rfl,fun _=>rfl,.bool true,h5o l _,fun _=>⟨List.Pairwise.nil,fun _ hm=>(nomatch hm)⟩⟩,h2,h3,h4⟩
end Att
namespace L2
open PySem PySem.Spec PyProof.Rows
open PySem.Builtin.Int (intBits)
def g6v(n:Nat)(K:Bw):Sp:=fun vs H Q _=>∃ (a:Addr) (ns:List Int),vs = [.ref a]/\SqL K H a (ns.map V.int)/\ns.length<=n/\(∀ x∈ns,intBits x<=1048576)/\Only H/\∀ H',Q (.bl true) H'
theorem i1k{l:W.OpenLaw}{k:Nat}{q:Dc}{loose:List Str}{XP:(Str->Option Br)->Heap->Prop}{YP:E2->Heap->Prop}{d:DefRec}{K:Params->Bw}{CX:E2->CXT}{x:Str}
  (hn:l.most=some 63) (hdf:d.params.defaults = []) (hr:b2u k Lx)
  (hY:∀ (w:E2) (h:Heap),YP w h->(K w.params).In h)
  (F:∀ (w:E2) (mg:Str->Option Br) (fa:Addr) (h:Heap),(K w.params).In h->h.Ns C2 mg->mg d.name=some (.ref fa) ->
   ∃ fd:C8,(∀ (s:Bx) (u:Br),M3 s fd ⟨[u],[]⟩ [(x,u)]) /\
    ∀ base:Heap,(K w.params).In base->base.Ns C2 mg->a1j l.prog w (K w.params) mg base (CX w) k fa fd [x] (g6v 63 (K w.params)))
  (hCX:∀ (w:E2) (H:Hp) (s:Bx) (e:Br) (s':Bx),CX w [] H s (fun _ _ _=>False) e s'->False) :
  W.WalkO q loose XP YP l.row.toRowW d [] (fun f vs=>PySem.call f vs):=by
 refine Att.g3l hn hdf fun w s₀ Ae mg mb fa o pm cd doc a vs ns G Y ho hd hcd hmg hobj hints hlen hbits hg=>?_
 have KX:=hY w _ Y
 obtain⟨fd,hb,hF⟩:=F w mg fa _ KX G.T.g hmg
 exact i1f KX G.T.g G.T.b G.T.builtins G.T.nolimit hg hobj hints (Bz hlen (by decide)) hr hF hb (fun H hO hS=>⟨a,ns,rfl,hS,hlen,hbits,hO,fun _=>rfl⟩) fun H e s'=>hCX w H Ae e s'
theorem Same.upd{H:Hp}{p:Addr}{o:HO}(h:H p=none):Same H (upd H p o):=fun b u e=>by
 rw [a3w (a5u e h)]; exact e
structure Tag{α:Type}(a:α):Type where
def New(H:Hp)(o:HO)(Q:VK)(_:Tag Q):Prop:=∀ p H1,H p=none->Same H H1->H1 p=some o->Q (.ref p) H1
def All(C:V->Hp->Prop)(Q:VK)(_:Tag C)(_:Tag Q):Prop:=∀ v H1,C v H1->Q v H1
variable {H:Hp}
theorem New.raw{o:HO}{Q:VK}{t:Tag Q}(h:New H o Q t):∀ p,H p=none->Q (.ref p) (L2.upd H p o):=fun p e=>h p _ e (Same.upd e) a2v
variable {K:Bw}{N:List Str}
theorem k3n{CX:CXT}{P:Dc}{w:E2}{mg:Str->Option Br}{base:Heap}{qual:Str}{scope:Fg}{f:Addr}{cd:Br}{A:Ds}{outer:List Env}{s:Bx}{E:XK}:(i6q CX P w K mg base N qual scope f cd A outer s H E).K=K:=rfl
section
variable {X:Cx}{es:List Expr}{t:TA}{pos:Pos}
def j3d(t:TA):TE:=fun O H Q=>t O H fun xs H1=>xs.length<=Cb/\New H1 (.tup xs) Q ⟨⟩
def j3e(t:TA):TE:=fun O H Q=>t O H fun xs H1=>xs.length<=Cb/\New H1 (.lst xs) Q ⟨⟩
end
section
variable {X:Cx}{a b c:Expr}{ta tb tc:TE}{pos:Pos}
def j3f:R2:=fun x y H Q=>match x,y with
 | .int i,.int j=>Q (.int (i+j)) H
 | .str u,.str v=>u.length+v.length<=Cb/\Q (.str (u++v)) H
 | .ref l,.ref b=>∃ xs zs,H l=some (.lst xs)/\H b=some (.lst zs)/\xs.length+zs.length<=Cb/\New H (.lst (xs++zs)) Q ⟨⟩
 | _,_=>False
theorem a1k:OpR X (Ft .Add) j3f:=by
 intro pins s O H x y v u Q I rx ry h
 cases x <;> cases y <;> first
  | exact Bq h
  | exact j2c pins s O H _ _ v u Q I rx ry ⟨_,_,rfl,rfl,h⟩
  | exact h1p pins s O H _ _ v u Q I rx ry ⟨_,_,rfl,rfl,h.1,h.2⟩
  | (obtain ⟨xs, zs, h1, h2, h3, h4⟩ := h
     exact j2u pins s O H _ _ v u Q I rx ry ⟨_,_,_,_,rfl,rfl,h1,h2,h3,h4.raw⟩)
def j3g:R2:=fun x y H Q=>match x,y with
 | .int i,.int j=>Fu i j/\Q (.int (i*j)) H
 | .ref l,.int k=>∃ xs,H l=some (.lst xs) /\ -(2 ^ 63)<=k/\k < 2 ^ 63/\xs.length*k.toNat<=Cb/\New H (.lst (D0 k.toNat xs).flatten) Q ⟨⟩
 | _,_=>False
theorem a2l:OpR X (Ft .Mult) j3g:=by
 intro pins s O H x y v u Q I rx ry h
 cases x <;> cases y <;> first
  | exact Bq h
  | exact i6x pins s O H _ _ v u Q I rx ry ⟨_,_,rfl,rfl,h.1,h.2⟩
  | (obtain ⟨xs, h1, h2, h3, h4, h5⟩ := h
     exact j2v pins s O H _ _ v u Q I rx ry ⟨_,_,_,rfl,rfl,h1,h2,h3,h4,h5.raw⟩)
def j0x(K:Bw):R2:=fun x y H Q=>if h1o x y=true then Q (.bl (decide (x=y))) H else k3m K x y H Q
def j0y(K:Bw):R2:=fun x y H Q=>if h1o x y=true then Q (.bl (!decide (x=y))) H else j8m K x y H Q
theorem j3h(hu:X.A.units+64 < Im):OpR X (Dl .Eq) (j0x X.K):=by
 intro pins s O H x y v u Q I rx ry h
 unfold j0x at h
 by_cases hs:h1o x y=true
 .rw [if_pos hs] at h
  exact j9f pins s O H x y v u Q I rx ry ⟨hs,h⟩
 .rw [if_neg hs] at h
  exact j3a hu pins s O H x y v u Q I rx ry h
theorem j3i(hu:X.A.units+64 < Im):OpR X (Dl .NotEq) (j0y X.K):=by
 intro pins s O H x y v u Q I rx ry h
 unfold j0y at h
 by_cases hs:h1o x y=true
 .rw [if_pos hs] at h
  exact j9g pins s O H x y v u Q I rx ry ⟨hs,h⟩
 .rw [if_neg hs] at h
  exact j3b hu pins s O H x y v u Q I rx ry h
def j3j:R2:=fun x y H Q=>match x,y with
 | .ref p,.int i=>(match H p with
  | some (.tup xs)=>∃ v,atI xs i=some v/\Q v H
  | some (.lst xs)=>∃ v,atI xs i=some v/\Q v H
  | _=>False)
 | .str z,.int i=>∃ c,z.length<=Cb/\atI z.cps.toList i=some c/\Q (.str ⟨#[c]⟩) H
 | _,_=>False
theorem a2s:IxR X j3j:=by
 intro value slice pins s O H x y v u Q I rx ry h hs
 cases x with
 | ref p =>
  cases y with
  | int i =>
   have h':(match H p with
    | some (.tup xs)=>∃ v,atI xs i=some v/\Q v H
    | some (.lst xs)=>∃ v,atI xs i=some v/\Q v H
    | _=>False):=h
   split at h'
   .rename_i xs e
    obtain⟨z,h2,h3⟩:=h'
    exact j2p value slice pins s O H _ _ v u Q I rx ry ⟨_,xs,_,z,rfl,rfl,SqT.of e,h2,h3⟩ hs
   .rename_i xs e
    obtain⟨z,h2,h3⟩:=h'
    exact h5k value slice pins s O H _ _ v u Q I rx ry ⟨_,xs,_,z,rfl,rfl,SqL.of e,h2,h3⟩ hs
   .exact h'.elim
  | _=>exact Bq h
 | str z =>
  cases y with
  | int i =>
   obtain⟨c,h1,h2,h3⟩:=h
   exact j2q value slice pins s O H _ _ v u Q I rx ry ⟨_,_,c,rfl,rfl,h1,h2,h3⟩ hs
  | _=>exact Bq h
 | _=>exact Bq h
noncomputable def rSlM:V->Option Int->Option Int->Hp->VK->Prop:=fun x lo hi H Q=>match x with
 | .ref a=>(match H a with
  | some (.lst xs)=>New H (.lst (f0y xs lo hi)) Q ⟨⟩
  | _=>False)
 | _=>False
theorem sl_M:SlR X rSlM:=by
 intro pins s O H x v vl vu lo hi sl Q I rx hs pl pu h
 cases x with
 | ref a =>
  have h':(match H a with
   | some (.lst xs)=>New H (.lst (f0y xs lo hi)) Q ⟨⟩
   | _=>False):=h
  split at h'
  .rename_i xs e
   exact g6q pins s O H _ v vl vu lo hi sl Q I rx hs pl pu ⟨_,xs,rfl,SqL.of e,h'.raw⟩
  .exact h'.elim
 | _=>exact Bq h
noncomputable def rSlK(K:Bw):V->Option Int->Option Int->Hp->VK->Prop:=fun x lo hi H Q=>∃ a xs,x = .ref a/\SqL K H a xs/\New H (.lst (f0y xs lo hi)) Q ⟨⟩
theorem sl_K:SlR X (rSlK X.K):=by
 intro pins s O H x v vl vu lo hi sl Q I rx hs pl pu h
 obtain⟨a,xs,e,h1,h2⟩:=h
 exact g6q pins s O H _ v vl vu lo hi sl Q I rx hs pl pu ⟨a,xs,e,h1,h2.raw⟩
noncomputable def h5x:List V->Hp->VK->Prop:=fun xs H Q=>match xs with
 | [.ref p]=>(match H p with
  | some (.lst ys)=>Q (.int ys.length) H
  | some (.tup ys)=>Q (.int ys.length) H
  | _=>False)
 | [.str z]=>z.length<=Cb/\Q (.int z.length) H
 | _=>False
theorem a1q:b0z X (.builtin "len") h5x:=by
 intro pins s O H xs us Q I r h
 obtain _ | ⟨zz,xs⟩:=xs
 .exact Bq h
 obtain rfl:xs = []:=by
  cases xs with
  | nil=>rfl
  | cons _ _=>cases zz <;> exact Bq h
 cases zz <;> first | exact Bq h | skip
 case str z => exact g3f pins s O H _ us Q I r ⟨z, rfl, h.1, h.2⟩
 case ref p =>
  have h':(match H p with
   | some (.lst ys)=>Q (.int ys.length) H
   | some (.tup ys)=>Q (.int ys.length) H
   | _=>False):=h
  split at h'
  .rename_i ys e
   exact c9y pins s O H _ us Q I r ⟨p,ys,rfl,.inl (SqL.of e),h'⟩
  .rename_i ys e
   exact c9y pins s O H _ us Q I r ⟨p,ys,rfl,.inr (SqT.of e),h'⟩
  .exact h'.elim
theorem h5y:b0z X (.builtin "len") (fun xs H Q=>∃ p ys,xs = [.ref p]/\SqL X.K H p ys/\Q (.int ys.length) H):=by
 intro pins s O H xs us Q I r h
 obtain⟨p,ys,e,h1,h2⟩:=h
 exact c9y pins s O H _ us Q I r ⟨p,ys,e,.inl h1,h2⟩
theorem j9r{i j:Int}:h1o (.int i) (.int j)=true:=rfl
theorem j9s{i j:Str}:h1o (.str i) (.str j)=true:=rfl
theorem j9t{i j:Bool}:h1o (.bl i) (.bl j)=true:=rfl
theorem j9u:h1o .non .non=true:=rfl
theorem j9v{i j:Addr}:h1o (.ref i) (.ref j)=false:=rfl
theorem k3o{i:Int}:h4g H (.int i)=some .int:=rfl
theorem k3p{i:Str}:h4g H (.str i)=some .str:=rfl
theorem k3q{i:Bool}:h4g H (.bl i)=some .bl:=rfl
theorem k3r:h4g H .non=some .non:=rfl
theorem h5z{a:Addr}:h4g H (.ref a)=(match H a with
  | some (.lst _)=>some .lst
  | some (.frz _ (.lst _))=>some .lst
  | some (.tup _)=>some .tup
  | some (.dK _)=>some .dct
  | some (.dT _)=>some .dct
  | _=>none):=rfl
theorem two_line:2<=Cb:=by decide
theorem j3k{α:Type}{x:α}{xs:List α}:atI (x :: xs) 0=some x:=c0j (j:=0) rfl
theorem j3l{α:Type}{x y:α}{xs:List α}:atI (x :: y :: xs) 1=some y:=c0j (j:=1) rfl
theorem j3m{α:Type}{x y z:α}{xs:List α}:atI (x :: y :: z :: xs) 2=some z:=c0j (j:=2) rfl
theorem j3n{α:Type}{x y z u:α}{xs:List α}:atI (x :: y :: z :: u :: xs) 3=some u:=c0j (j:=3) rfl
theorem i4r{p q A B:Prop}[Decidable p][Decidable q] : (if p then (if q then A else B) else B)=(if p/\q then A else B):=by
 by_cases hp:p <;> by_cases hq:q <;> simp [hp,hq]
theorem i7a{p q A B:Prop}[Decidable p][Decidable q] : (if p then A else (if q then A else B))=(if p\/q then A else B):=by
 by_cases hp:p <;> by_cases hq:q <;> simp [hp,hq]
end
section
variable {X:Cx}{es:List Expr}{t:TA}{pos:Pos}
theorem a6z{x1}(h:PA X es t):PE X (.Tuple es x1 pos) (j3d t):=by
 intro pins s O H Q I hq
 refine wpAny_Tuple_spliced (thn (h pos pins s O H _ I hq) fun us s1 ⟨xs,H1,I1,r,z,q⟩=>⟨by rw [<- r.length]; exact z,?_⟩)
 have hf:H1 s1.heap.objs.size=none:=I1.hok.fresh (C0 _)
 refine⟨.ref s1.heap.objs.size,upd H1 s1.heap.objs.size (.tup xs),I1.laid (t':=s1.toks) (fun b u e=>Bt _ e) (C0 _) ?_,rfl,q.raw _ hf⟩
 exact⟨z,us,r,⟨_,Cg _ rfl,rfl,_,rfl⟩⟩
theorem a4q(h:PA X es t):PE X (.List es pos) (j3e t):=by
 intro pins s O H Q I hq
 refine wpAny_List_spliced (thn (h pos pins s O H _ I hq) fun us s1 ⟨xs,H1,I1,r,z,q⟩=>⟨by rw [<- r.length]; exact z,?_⟩)
 have hf:H1 s1.heap.objs.size=none:=I1.hok.fresh (C0 _)
 refine⟨.ref s1.heap.objs.size,upd H1 s1.heap.objs.size (.lst xs),I1.laid (t':=s1.toks) (fun b u e=>Bt _ e) (C0 _) ?_,rfl,q.raw _ hf⟩
 exact⟨z,us,0,r,Cg _ rfl⟩
theorem h1z:b0z X (.type "list") (fun xs H Q=>∃ p ys,xs = [.ref p]/\(SqL X.K H p ys\/SqT X.K H p ys)/\New H (.lst ys) Q ⟨⟩):=by
 intro pins s O H xs us Q I r h
 obtain⟨p,ys,e,h1,h2⟩:=h
 exact g3g pins s O H xs us Q I r ⟨p,ys,e,h1,h2.raw⟩
end
theorem Same.tup{K:Bw}{H H':Hp}{a:Addr}{xs:List V}(e:Same H H')(h:SqT K H a xs):SqT K H' a xs:=by
 rcases h with (h | ⟨o,h⟩) | h
 .exact .inl (.inl (e _ _ h))
 .exact .inl (.inr ⟨o,e _ _ h⟩)
 .exact .inr h
open PySem.Builtin.Int (intBits)
variable {tl te:TE}{ns:List Int}
section
variable {X:Cx}{e a b c:Expr}{es rest:List Expr}{pos:Pos}{tg iter:Expr}
theorem PE.weak{t u:TE}(h:PE X e t)(q:∀ O H Q,u O H Q->t O H Q):PE X e u:=fun pins s O H Q I hu=>h pins s O H Q I (q O H Q hu)
theorem PI.weak{t u:TI}(h:PI X tg iter t)(q:∀ O H Q,u O H Q->t O H Q):PI X tg iter u:=fun pins s O H Q I hu=>h pins s O H Q I (q O H Q hu)
theorem OpR.weak{f:Br->Br->Sem Br}{r r':R2}(h:OpR X f r)(q:∀ x y H Q,r' x y H Q->r x y H Q):OpR X f r':=fun pins s O H x y v u Q I rx ry hr=>h pins s O H x y v u Q I rx ry (q x y H Q hr)
theorem UnR.weak{f:Br->Sem Br}{r r':V->Hp->VK->Prop}(h:UnR X f r)(q:∀ x H Q,r' x H Q->r x H Q):UnR X f r':=fun pins s O H x v Q I rx hr=>h pins s O H x v Q I rx (q x H Q hr)
theorem b0z.weak{f:Br}{r r':List V->Hp->VK->Prop}(h:b0z X f r)(q:∀ xs H Q,r' xs H Q->r xs H Q):b0z X f r':=fun pins s O H xs us Q I rx hr=>h pins s O H xs us Q I rx (q xs H Q hr)
theorem IxR.weak{r r':R2}(h:IxR X r)(q:∀ x y H Q,r' x y H Q->r x y H Q):IxR X r':=fun value slice pins s O H x y v u Q I rx ry hr hs=>h value slice pins s O H x y v u Q I rx ry (q x y H Q hr) hs
def b9n(i:Nat):TE:=fun O H Q=>match O[i]? with
 | some (some v)=>Q v H
 | _=>False
theorem pvF(i:Nat){x:Str}(hN:X.N[i]? = some x:=by rfl)(hv:Vis X.env.scope x:=by first | exact Kp rfl | exact G3 (Kp rfl) | exact G3 (G3 rfl))(hd:(x == ("__debug__":Str))=false:=by decide)
  (hcd:(x == ("__classdict__":Str))=false:=by decide):PE X (.Name x pos) (b9n i):=(j1o hN hv hd hcd).weak fun O H Q h=>by
 unfold b9n at h
 split at h
 .rename_i v e
  exact⟨v,e,h⟩
 .exact h.elim
def rIF(C:Int->Int->Prop)(g:Int->Int->V):R2:=fun x y H Q=>match x,y with
 | .int i,.int j=>C i j/\Q (g i j) H
 | _,_=>False
def i7b(g:Int->Int->V):R2:=fun x y H Q=>match x,y with
 | .int i,.int j=>Q (g i j) H
 | _,_=>False
variable {g:Int->Int->V}
theorem h6a{C:Int->Int->Prop}:∀ x y H Q,rIF C g x y H Q->rI C g x y H Q:=fun x y H Q h=>by
 cases x <;> cases y <;> first | exact Bq h | exact⟨_,_,rfl,rfl,h⟩
theorem f2n:∀ x y H Q,i7b g x y H Q->rI0 g x y H Q:=fun x y H Q h=>by
 cases x <;> cases y <;> first | exact Bq h | exact⟨_,_,rfl,rfl,h⟩
theorem d3m:OpR X (Ft .Sub) (i7b fun i j=>.int (i - j)):=j2d.weak f2n
theorem a7t:OpR X (Ft .FloorDiv) (rIF CFd fun i j=>.int (i.fdiv j)):=i1j.weak h6a
theorem a8q:OpR X (Ft .Mod) (rIF (fun _ j=>j≠0) fun i j=>.int (i.fmod j)):=i6i.weak h6a
theorem f2o:OpR X (Ft .Pow) (rIF k3f fun i j=>.int (i ^ j.toNat)):=j2e.weak h6a
theorem of_lt:OpR X (Dl .Lt) (i7b fun i j=>.bl (decide (i < j))):=j9h.weak f2n
theorem of_le:OpR X (Dl .LtE) (i7b fun i j=>.bl (decide (i<=j))):=j9i.weak f2n
theorem f9v:OpR X (Dl .Gt) (i7b fun i j=>.bl (decide (j < i))):=j9j.weak f2n
theorem j3o:OpR X (Dl .GtE) (i7b fun i j=>.bl (decide (j<=i))):=j9k.weak f2n
noncomputable def rUF(g:Int->V):V->Hp->VK->Prop:=fun x H Q=>match x with
 | .int i=>Q (g i) H
 | _=>False
theorem h6b:UnR X (unaryOp .USub) (rUF fun i=>.int (-i)):=j2f.weak fun x H Q h=>by
 cases x <;> first | exact Bq h | exact⟨_,rfl,h⟩
def tBF(t:TE):TT:=fun O H Q=>t O H fun x H1=>match x with
 | .bl k=>Q k H1
 | _=>False
theorem j9w{x:V}{H1:Hp}{Q:Bool->Hp->Prop}(h:match x with | .bl k=>Q k H1 | _=>False):∃ k,x = .bl k/\Q k H1:=by
 cases x <;> first | exact Bq h | exact⟨_,rfl,h⟩
theorem i7c{op:CmpOp}{r:R2}{ta tb:TE}(ho:OpR X (Dl op) r)(ha:PE X a ta)(hb:PE X b tb)(hm:Fa op b=false):PT X (.Compare a [op] [b] pos) (tBF (tOp r ta tb)):=by
 intro pins s O H Q I h
 refine (i6j (ho.weak (r':=fun x y H Q=>r x y H Q) fun _ _ _ _ z=>z) ha hb hm) pins s O H _ I ?_
 unfold j2h
 exact h |> fun h=>by
  unfold tBF at h
  have e:(fun (x:V) (H1:Hp)=>match x with | .bl k=>Q k H1 | _=>False)=fun x H1=>∃ k,x=V.bl k/\Q k H1:=by
   funext x H1
   cases x <;> simp
  rw [e] at h
  exact h
theorem b3l{t:TE}(h:PE X e t)(he:∀ whole,Qy e X.env whole=(do let v <- whole; Pf e.pos; holding [v] (truthy v)):=by intro _; rfl):PT X e (tBF t):=by
 intro pins s O H Q I hw
 refine (j1q h he) pins s O H _ I ?_
 unfold tB
 unfold tBF at hw
 have e:(fun (x:V) (H1:Hp)=>match x with | .bl k=>Q k H1 | _=>False)=fun x H1=>∃ k,x=V.bl k/\Q k H1:=by
  funext x H1
  cases x <;> simp
 rw [e] at hw
 exact hw
def j3p(ta tb:TE):TE:=fun O H Q=>ta O H fun x H1=>match x with
 | .bl c=>if c=true then tb O H1 Q else Q (.bl false) H1
 | _=>False
def tOrF(ta tb:TE):TE:=fun O H Q=>ta O H fun x H1=>match x with
 | .bl c=>if c=true then Q (.bl true) H1 else tb O H1 Q
 | _=>False
def j3q(ta:TE):TE:=fun O H Q=>ta O H fun x H1=>match x with
 | .bl c=>Q (.bl (!c)) H1
 | _=>False
theorem g6w{ta tb:TE}(ha:PE X a ta)(hb:PE X (.BoolOp .And (b :: rest) pos) tb):PE X (.BoolOp .And (a :: b :: rest) pos) (j3p ta tb):=by
 intro pins s O H Q I h
 refine (j1t ha hb) pins s O H Q I ?_
 unfold j1r
 unfold j3p at h
 have e:(fun (x:V) (H1:Hp)=>match x with | .bl c=>(if c=true then tb O H1 Q else Q (.bl false) H1) | _=>False)=fun x H1=>∃ c,x=V.bl c/\if c=true then tb O H1 Q else Q (.bl false) H1:=by
  funext x H1
  cases x <;> simp
 rw [e] at h
 exact h
theorem i7d{ta:TE}(ha:PE X a ta):PE X (.UnaryOp .Not a pos) (j3q ta):=by
 intro pins s O H Q I h
 refine (j1u ha) pins s O H Q I ?_
 unfold j1s
 unfold j3q at h
 have e:(fun (x:V) (H1:Hp)=>match x with | .bl c=>Q (.bl (!c)) H1 | _=>False)=fun x H1=>∃ c,x=V.bl c/\Q (.bl (!c)) H1:=by
  funext x H1
  cases x <;> simp
 rw [e] at h
 exact h
def i4s(ta:TA):TI:=fun O H R=>ta O H fun vs H1=>match vs with
 | [.int j] => -(2 ^ 62)<=j/\j < 2 ^ 62/\R (Itr 0 j.toNat) H1
 | _=>False
def i4t(ta:TA):TI:=fun O H R=>ta O H fun vs H1=>match vs with
 | [.int i,.int j]=>(-(2 ^ 62)<=i/\i < 2 ^ 62 /\ -(2 ^ 62)<=j/\j < 2 ^ 62)/\R (Itr i (j - i).toNat) H1
 | _=>False
def k3s(ta:TA):TI:=fun O H R=>ta O H fun vs H1=>match vs with
 | [.int i,.int j,.int c]=>(0<=i/\i < 2 ^ 32/\0<=j/\j < 2 ^ 32/\0 < c/\c < 2 ^ 30)/\R (Itr3 i c (rngN i j c)) H1
 | _=>False
theorem a8w{ta:TA}{p:Pos}(hg:Gl X "range")(hm:X.mg "range"=none)(ha:PA X [a] ta)(hs:Cs [a] X.env = [(false,eval a X.env)]:=by rfl):PI X tg (.Call (.Name "range" p) [a] [] pos) (i4s ta):=by
 refine (h4s hg hm ha hs).weak fun O H R h=>?_
 unfold j1z
 unfold i4s at h
 have e:(fun (vs:List V) (H1:Hp)=>(match vs with | [.int j] => -(2 ^ 62)<=j/\j < 2 ^ 62/\R (Itr 0 j.toNat) H1 | _=>False:Prop))=fun vs H1=>∃ j:Int,vs = [.int j] /\ -(2 ^ 62)<=j/\j < 2 ^ 62/\R (Itr 0 j.toNat) H1:=by
  funext vs H1
  refine propext ⟨fun z=>?_,fun⟨j,e,z⟩=>by subst e; exact z⟩
  obtain _ | ⟨zz,vs⟩:=vs
  .exact Bq z
  obtain⟨j,rfl⟩:∃ j,zz = .int j:=by cases zz <;> first | exact⟨_,rfl⟩ | exact Bq z
  obtain rfl:vs = []:=by
   cases vs with
   | nil=>rfl
   | cons _ _=>exact Bq z
  .exact⟨j,rfl,z⟩
 rw [e] at h
 exact h
theorem h2a{ta:TA}{p:Pos}(hg:Gl X "range")(hm:X.mg "range"=none)(ha:PA X [a,b] ta)(hs:Cs [a,b] X.env = [(false,eval a X.env),(false,eval b X.env)]:=by rfl)(hs2:Cs [b] X.env = [(false,eval b X.env)]:=by rfl) :
  PI X tg (.Call (.Name "range" p) [a,b] [] pos) (i4t ta):=by
 refine (h4t hg hm ha hs hs2).weak fun O H R h=>?_
 unfold j2a
 unfold i4t at h
 have e:(fun (vs:List V) (H1:Hp)=>match vs with | [.int i,.int j]=>(-(2 ^ 62)<=i/\i < 2 ^ 62 /\ -(2 ^ 62)<=j/\j < 2 ^ 62)/\R (Itr i (j - i).toNat) H1 | _=>False)=fun vs H1=>∃ i j:Int,vs = [.int i,.int j]/\(-(2 ^ 62)<=i/\i < 2 ^ 62 /\ -(2 ^ 62)<=j/\j < 2 ^ 62)/\R (Itr i (j - i).toNat) H1:=by
  funext vs H1
  refine propext ⟨fun z=>?_,fun⟨i,j,e,z⟩=>by subst e; exact z⟩
  obtain _ | ⟨zz,vs⟩:=vs
  .exact Bq z
  obtain⟨i,rfl⟩:∃ i,zz = .int i:=by cases zz <;> first | exact⟨_,rfl⟩ | exact Bq z
  obtain _ | ⟨zz,vs⟩:=vs
  .exact Bq z
  obtain⟨j,rfl⟩:∃ j,zz = .int j:=by cases zz <;> first | exact⟨_,rfl⟩ | exact Bq z
  obtain rfl:vs = []:=by
   cases vs with
   | nil=>rfl
   | cons _ _=>exact Bq z
  .exact⟨i,j,rfl,z⟩
 rw [e] at h
 exact h
def g3m(K:Bw)(tl:TE):TI:=fun O H R=>tl O H fun x H1=>match x with
 | .ref a=>(∃ xs,SqL K H1 a xs)/\R (Itl K a) H1
 | _=>False
theorem i1l{l:Expr}(hl:PE X l tl):PI X tg l (g3m X.K tl):=(i6g hl).weak fun O H R h=>by
 unfold j1y
 unfold g3m at h
 have e:(fun (x:V) (H1:Hp)=>match x with | .ref a=>(∃ xs,SqL X.K H1 a xs)/\R (Itl X.K a) H1 | _=>False)=fun x H1=>∃ a,x = .ref a/\(∃ xs,SqL X.K H1 a xs)/\R (Itl X.K a) H1:=by
  funext x H1
  cases x <;> simp
 rw [e] at h
 exact h
def j3r(K:Bw):R2:=fun x y H Q=>match x,y with
 | .ref p,.int i=>∃ ns:List Int,SqL K H p (ns.map V.int)/\0<=i/\i < ns.length/\Q (.int (ns.getD i.toNat 0)) H
 | _,_=>False
theorem i1m{i:Int}(h0:0<=i)(h1:i < ns.length):atI (ns.map V.int) i=some (.int (ns.getD i.toNat 0)):=by
 obtain⟨j,rfl⟩:=Hc h0
 refine c0j ?_
 have hj:j < ns.length:=by omega
 rw [C9,By hj,C3,Dy,By hj]
 rfl
theorem ix_S:IxR X (j3r X.K):=h5k.weak fun x y H Q h=>by
 cases x with
 | ref p =>
  cases y with
  | int i =>
   obtain⟨ns,h1,h2,h3,h4⟩:=h
   exact⟨p,_,i,_,rfl,rfl,h1,i1m h2 h3,h4⟩
  | _=>exact Bq h
 | _=>exact Bq h
noncomputable def j3s(K:Bw):List V->Hp->VK->Prop:=fun xs H Q=>match xs with
 | [.ref p]=>∃ ys,SqL K H p ys/\Q (.int ys.length) H
 | _=>False
theorem h2b:b0z X (.builtin "len") (j3s X.K):=h5y.weak fun xs H Q h=>by
 obtain _ | ⟨zz,xs⟩:=xs
 .exact Bq h
 obtain⟨p,rfl⟩:∃ p,zz = .ref p:=by cases zz <;> first | exact⟨_,rfl⟩ | exact Bq h
 obtain rfl:xs = []:=by
  cases xs with
  | nil=>rfl
  | cons _ _=>exact Bq h
 obtain⟨ys,h1,h2⟩:=h
 .exact⟨p,ys,rfl,h1,h2⟩
noncomputable def j3t(K:Bw):V->Option Int->Option Int->Hp->VK->Prop:=fun x lo hi H Q=>match x with
 | .ref a=>∃ xs,SqL K H a xs/\New H (.lst (f0y xs lo hi)) Q ⟨⟩
 | _=>False
theorem j9x:SlR X (j3t X.K):=by
 intro pins s O H x v vl vu lo hi sl Q I rx hs pl pu h
 cases x <;> first
  | exact Bq h
  | (obtain ⟨xs, h1, h2⟩ := h
     exact sl_K pins s O H _ v vl vu lo hi sl Q I rx hs pl pu ⟨_,xs,rfl,h1,h2⟩)
def h6c(t:TE):TO:=fun O H Q=>t O H fun x H1=>match x with
 | .int i=>Q (some i) H1
 | _=>False
theorem a3j(h:PE X e te):PO X (some e) (h6c te):=by
 intro pins s O H Q I hw
 refine (i6r h) pins s O H Q I ?_
 unfold j2n
 unfold h6c at hw
 have e:(fun (x:V) (H1:Hp)=>match x with | .int i=>Q (some i) H1 | _=>False)=fun x H1=>∃ i,x=V.int i/\Q (some i) H1:=by
  funext x H1
  cases x <;> simp
 rw [e] at hw
 exact hw
noncomputable def k3t:List V->Hp->VK->Prop:=fun xs H Q=>match xs with
 | [.int i]=>Q (.int i.natAbs) H
 | _=>False
theorem c2k:b0z X (.builtin "abs") k3t:=i0w.weak fun xs H Q h=>by
 obtain _ | ⟨zz,xs⟩:=xs
 .exact Bq h
 obtain⟨i,rfl⟩:∃ i,zz = .int i:=by cases zz <;> first | exact⟨_,rfl⟩ | exact Bq h
 obtain rfl:xs = []:=by
  cases xs with
  | nil=>rfl
  | cons _ _=>exact Bq h
 .refine⟨i,rfl,?_⟩
  have e:(if i < 0 then -i else i)=(i.natAbs:Int):=by split <;> omega
  rw [e]
  exact h
noncomputable def k3u:List V->Hp->VK->Prop:=fun xs H Q=>match xs with
 | [.int i,.int j]=>Q (.int (min i j)) H
 | _=>False
noncomputable def k3v:List V->Hp->VK->Prop:=fun xs H Q=>match xs with
 | [.int i,.int j]=>Q (.int (max i j)) H
 | _=>False
theorem h6d(hc:X.calm=true):b0z X (.builtin "min") k3u:=(h5c hc).weak fun xs H Q h=>by
 obtain _ | ⟨zz,xs⟩:=xs
 .exact Bq h
 obtain⟨i,rfl⟩:∃ i,zz = .int i:=by cases zz <;> first | exact⟨_,rfl⟩ | exact Bq h
 obtain _ | ⟨zz,xs⟩:=xs
 .exact Bq h
 obtain⟨j,rfl⟩:∃ j,zz = .int j:=by cases zz <;> first | exact⟨_,rfl⟩ | exact Bq h
 obtain rfl:xs = []:=by
  cases xs with
  | nil=>rfl
  | cons _ _=>exact Bq h
 .refine⟨i,j,rfl,?_⟩
  have e:(if j < i then j else i)=min i j:=by split <;> lia
  rw [e]
  exact h
theorem g3n(hc:X.calm=true):b0z X (.builtin "max") k3v:=(h5b hc).weak fun xs H Q h=>by
 obtain _ | ⟨zz,xs⟩:=xs
 .exact Bq h
 obtain⟨i,rfl⟩:∃ i,zz = .int i:=by cases zz <;> first | exact⟨_,rfl⟩ | exact Bq h
 obtain _ | ⟨zz,xs⟩:=xs
 .exact Bq h
 obtain⟨j,rfl⟩:∃ j,zz = .int j:=by cases zz <;> first | exact⟨_,rfl⟩ | exact Bq h
 obtain rfl:xs = []:=by
  cases xs with
  | nil=>rfl
  | cons _ _=>exact Bq h
 .refine⟨i,j,rfl,?_⟩
  have e:(if j > i then j else i)=max i j:=by split <;> lia
  rw [e]
  exact h
noncomputable def j3u(K:Bw):List V->Hp->VK->Prop:=fun xs H Q=>match xs with
 | [.ref p]=>(match H p with
  | some (.lst ys)=>New H (.lst ys) Q ⟨⟩
  | some (.tup ys)=>New H (.lst ys) Q ⟨⟩
  | _=>False)
 | _=>False
theorem b1h:b0z X (.type "list") (j3u X.K):=h1z.weak fun xs H Q h=>by
 obtain _ | ⟨zz,xs⟩:=xs
 .exact Bq h
 obtain⟨p,rfl⟩:∃ p,zz = .ref p:=by cases zz <;> first | exact⟨_,rfl⟩ | exact Bq h
 obtain rfl:xs = []:=by
  cases xs with
  | nil=>rfl
  | cons _ _=>exact Bq h
 .have h':(match H p with
   | some (.lst ys)=>New H (.lst ys) Q ⟨⟩
   | some (.tup ys)=>New H (.lst ys) Q ⟨⟩
   | _=>False):=h
  split at h'
  .rename_i ys e
   exact⟨p,ys,rfl,.inl (SqL.of e),h'⟩
  .rename_i ys e
   exact⟨p,ys,rfl,.inr (SqT.of e),h'⟩
  .exact h'.elim
theorem k3w{α:Type}{x:α}{xs:List α}{p:α->Prop}:(∃ v,atI (x :: xs) 0=some v/\p v)=p x:=by
 rw [j3k]; simp
theorem k3x{α:Type}{x y:α}{xs:List α}{p:α->Prop}:(∃ v,atI (x :: y :: xs) 1=some v/\p v)=p y:=by
 rw [j3l]; simp
theorem k3y{α:Type}{x y z:α}{xs:List α}{p:α->Prop}:(∃ v,atI (x :: y :: z :: xs) 2=some v/\p v)=p z:=by
 rw [j3m]; simp
theorem k3z{α:Type}{x y z u:α}{xs:List α}{p:α->Prop}:(∃ v,atI (x :: y :: z :: u :: xs) 3=some v/\p v)=p u:=by
 rw [j3n]; simp
end
open PySem PySem.Spec PyProof.Rows PySem.W
variable {n:Nat}{d:Dat}
theorem g3o(h:kqdOk n d=true)(hn:n<=64):Ib (kqdP d)=true:=by
 have l:=kqd_lay n d h
 unfold Ib
 rw [l.1,Kb]
 exact decide_eq_true (Bz l.2 hn)
theorem j3v{n k:Nat}{e:Dat}(hd:kqdOk n d=true)(he:kqdOk k e=true){c:Bool}(hc:c=true ↔ d=e):Rs (kqdP d) (kqdP e)=c:=by
 have q:=kqd_eqv n d e k hd he
 cases c with
 | true=>exact q.mpr (hc.mp rfl)
 | false=>exact Ks.mpr fun z=>absurd (hc.mpr (q.mp z)) Cd
variable {Q:VK}
theorem j3w{x y:V}{e:Dat}{n k:Nat}{c:Bool}(hd:g6h K H x (kqdP d))(he:g6h K H y (kqdP e))(kd:kqdOk n d=true)(ke:kqdOk k e=true)(hn:n<=64)(hk:k<=64)(hc:c=true ↔ d=e)(q:Q (.bl (!c)) H):j8m K x y H Q :=
 ⟨_,_,hd,he,g3o kd hn,g3o ke hk,by rw [j3v kd ke hc]; exact q⟩
open PySem.Builtin.Int (intBits)
def tCut(t u:TS):TS:=fun D O H=>∃ Mid:St->Hp->Prop,t { D with nx:=Mid } O H/\∀ Aa H',Mid Aa H'->u D Aa H'
theorem a7u{X:Cx}{st:Stmt}{rest:List Stmt}{t u:TS}(h1:PS X st t)(h2:PSs X rest u):PSs X (st :: rest) (tCut t u):=by
 intro pins s O H D I h
 obtain⟨Mid,h,hm⟩:=h
 refine Jq (thn (h1 pins s O H { D with nx:=Mid } I h) fun f s1 q=>?_)
 cases f with
 | next =>
  obtain⟨Aa,H',I',q⟩:=q
  exact h2 pins s1 Aa H' D I' (hm Aa H' q)
 | ret v=>exact q
 | brk=>exact q
 | cont=>exact q
theorem h6e(h:∀ x∈ns,intBits x<=n)(k:Nat):intBits (ns.getD k 0)<=n:=by
 rw [C3]
 cases e:ns[k]? with
 | none=>exact Dx _
 | some x=>exact h x (Ca e)
theorem d6y{env:Env}:∀ (names:List (Str×Js)) (acc:List (Str×Addr)),(∀ y,(y,Cy)∈names->∃ c,env.cells.lookup y=some c) ->
  ∃ cl,(forIn names acc (fun (x:Str×Js) (cs:List (Str×Addr))=>(if x.2 == Cy then (do let c <- cellOf env x.1; pure (J6 ((x.1,c) :: cs))) else pure (J6 cs):Sem (ForInStep (List (Str×Addr))))))=pure cl /\
   (∀ y c,cl.lookup y=some c->acc.lookup y=some c\/((y,Cy)∈names/\env.cells.lookup y=some c)) /\
   (∀ y,(y,Cy)∈names->cl.lookup y=env.cells.lookup y)/\(∀ y,(∀ k,(y,k)∈names->k≠Cy)->cl.lookup y=acc.lookup y)
 | [],acc,_=>⟨acc,rfl,fun y c h=>.inl h,fun y h=>(nomatch h),fun y _=>rfl⟩
 | (n,k) :: r,acc,h=>by
  by_cases hk:k=Cy
  .subst hk
   obtain⟨c,hc⟩:=h n Ce
   obtain⟨cl,h1,h2,h3,h4⟩:=d6y r ((n,c) :: acc) fun y hy=>h y (Ci _ hy)
   have e:cellOf env n=pure c:=by unfold cellOf; rw [hc]
   refine⟨cl,?_,fun y d hd=>?_,fun y hy=>?_,fun y hy=>?_⟩
   .rw [Nq]
    simp only [beq_self_eq_true,if_true,e,pure_bind]
    exact h1
   .rcases h2 y d hd with z | ⟨z1,z2⟩
    .rw [G6] at z
     by_cases hy:y=n
     .subst hy
      simp only [beq_self_eq_true] at z
      cases z
      exact .inr ⟨Ce,hc⟩
     .have:(y == n)=false:=by simpa using hy
      rw [this] at z
      exact .inl z
    .exact .inr ⟨Ci _ z1,z2⟩
   .by_cases hr:(y,Cy)∈r
    .exact h3 y hr
    .rcases Db.mp hy with z | z
     .cases z
      by_cases hq:∃ k,(n,k)∈r/\k=Cy
      .obtain⟨k,z,rfl⟩:=hq
       exact absurd z hr
      .rw [h4 n fun k hk e=>hq ⟨k,hk,e⟩,G6]
       simp only [beq_self_eq_true]
       exact hc.symm
     .exact absurd z hr
   .have hn:y≠n:=fun e=>by
     subst e
     exact hy _ Ce rfl
    rw [h4 y fun k hk=>hy k (Ci _ hk),G6]
    have:(y == n)=false:=by simpa using hn
    rw [this]
  .obtain⟨cl,h1,h2,h3,h4⟩:=d6y r acc fun y hy=>h y (Ci _ hy)
   have hb:(k == Cy)=false:=by simpa using hk
   refine⟨cl,?_,fun y d hd=>?_,fun y hy=>?_,fun y hy=>h4 y fun k hk=>hy k (Ci _ hk)⟩
   .rw [Nq]
    simp only [hb,Bool.false_eq_true,if_false,pure_bind]
    exact h1
   .rcases h2 y d hd with z | ⟨z1,z2⟩
    .exact .inl z
    .exact .inr ⟨Ci _ z1,z2⟩
   .rcases Db.mp hy with z | z
    .cases z
     exact absurd rfl hk
    .exact h3 y z
variable {sc:Fg}
theorem c5t{env:Env}(h:∀ y,(y,Cy)∈sc.names->∃ c,env.cells.lookup y=some c) :
  ∃ cl,closureFor sc env=pure cl/\(∀ y c,cl.lookup y=some c->(y,Cy)∈sc.names/\env.cells.lookup y=some c)/\(∀ y,(y,Cy)∈sc.names->cl.lookup y=env.cells.lookup y):=by
 obtain⟨cl,h1,h2,h3,_⟩:=d6y (env:=env) sc.names [] h
 refine⟨cl,?_,fun y c hy=>(h2 y c hy).elim (fun z=>nomatch z) id,h3⟩
 unfold closureFor
 show (forIn sc.names [] _ >>= fun cs=>pure cs)=pure cl
 rw [bind_pure]
 exact h1
noncomputable def mask(x:Str)(N:List Str):List Str:=N.map fun y=>if y=x then "" else y
noncomputable def c0r(X:Cx)(scope:Fg)(cl:List (Str×Addr))(C:Addr)(Ab:Bx)(Ag:Hp)(fp:List Addr)(x:Str):Cx where
 prog:=X.prog
 w:=X.w
 K:=X.K
 mg:=X.mg
 base:=X.base
 A:=X.A
 N:=x :: mask x X.N
 s₀:=Ab
 H₀:=Ag
 env:=Jr scope cl C X.env
 outer:=X.stack
 stack:=X.stack
 ex:=fp
 fn:=fun _=>false
 calm:=X.calm
 pn:=[]
 xe:=fun _ _=>False
def a2j(D:Addr)(H H':Hp):Prop:=∀ b o,b≠D->H b=some o->H' b=some o
theorem a2j.upd{D:Addr}{H:Hp}{o:HO}:a2j D H (upd H D o):=fun b u hb e=>by rw [a3w hb]; exact e
def f0z(J:It)(te:TE)(D:Addr)(O:St)(H:Hp)(Q:VK)(_:Tag Q):Prop:=∃ (n:Nat) (W:Nat->List V->Hp->Prop),W 0 [] H/\∀ i ys H,i<=n->W i ys H->H D=some (.lst ys) /\
 ((J.stop i H/\Q (.ref D) H)\/(i < n/\J.go i H/\ys.length < Cb/\∀ x H',J.yld i H x H'->te (some x :: O) H' fun y H2=>H2 D=some (.lst ys) /\
  ∀ H3,a2j D H2 H3->H3 D=some (.lst (ys++[y]))->W (i+1) (ys++[y]) H3))
def j3x(wi:TI)(te:TE):TE:=fun O H Q=>wi O H fun J H1=>∀ D H2,H1 D=none->Same H1 H2->H2 D=some (.lst [])->f0z J te D O H2 Q ⟨⟩
def g9u(J:It)(tc:TT)(te:TE)(D:Addr)(O:St)(H:Hp)(Q:VK)(_:Tag Q):Prop:=∃ (n:Nat) (W:Nat->List V->Hp->Prop),W 0 [] H/\∀ i ys H,i<=n->W i ys H->H D=some (.lst ys) /\
 ((J.stop i H/\Q (.ref D) H)\/(i < n/\J.go i H/\ys.length < Cb/\∀ x H',J.yld i H x H'->tc (some x :: O) H' fun b H1 =>
  if b=true then te (some x :: O) H1 fun y H2=>H2 D=some (.lst ys)/\∀ H3,a2j D H2 H3->H3 D=some (.lst (ys++[y]))->W (i+1) (ys++[y]) H3
  else W (i+1) ys H1))
def PTs(X:Cx)(ifs:List Expr)(tc:TT):Prop:=∀ (pins:List (Addr×Obj)) (s:Bx) (O:St) (H:Hp) (Q:Bool->Hp->Prop),Inv X pins O H s->tc O H Q->Ch (model X.prog X.w) X.A (forIn ifs true fun c r=>if r=true then do let ok <- Qy c X.env (eval c X.env); pure (J6 ok) else pure (J6 r)) (TP X pins O Q) X.xe s
theorem PTs.nil{X:Cx}:PTs X [] fun _ H Q=>Q true H:=fun _ _ _ H _ I h=>wpAny_tests_nil ⟨H,I,h⟩
theorem PTs.one{X:Cx}{c:Expr}{tc:TT}(h:PT X c tc):PTs X [c] tc:=fun pins s O H Q I z=>wpAny_tests_one (h pins s O H Q I z)
variable {D:Addr}
theorem f0z.toI{J:It}{O:St}{t:Tag Q}(h:f0z J te D O H Q t):g9u J (fun _ H Q=>Q true H) te D O H Q t:=by
 obtain⟨n,W,w0,st⟩:=h
 refine⟨n,W,w0,fun i ys H1 hi w=>⟨(st i ys H1 hi w).1,(st i ys H1 hi w).2.imp id fun z=>⟨z.1,z.2.1,z.2.2.1,fun x H' y=>?_⟩⟩⟩
 show if true=true then _ else _
 rw [if_pos rfl]
 exact z.2.2.2 x H' y
theorem c5u{env:Env}{x:Str}:∀ (names:List (Str×Js)) (k:Js),(names.map fun (n,k)=>if (k == Cy && env.scope.kind == .function && env.kindOf n == some .cell) then (n,Lr) else (n,k)).lookup x=some k ->
  (names.lookup x=some k)\/(k = .cell/\names.lookup x=some .free)
 | [],k,e=>by cases e
 | (n,q) :: r,k,e=>by
  rw [Es] at e
  dsimp only at e
  rw [G6]
  cases hx:(x == n) with
  | true =>
   by_cases hc:(q == Cy && env.scope.kind == .function && env.kindOf n == some .cell)=true
   .rw [if_pos hc,G6,hx] at e
    have:q = .free:=by
     simp only [Ec,beq_iff_eq] at hc
     exact hc.1.1
    subst this
    cases e
    exact .inr ⟨rfl,rfl⟩
   .rw [if_neg hc,G6,hx] at e
    exact .inl e
  | false =>
   have e':(r.map fun (n,k)=>if (k == Cy && env.scope.kind == .function && env.kindOf n == some .cell) then (n,Lr) else (n,k)).lookup x=some k:=by
    by_cases hc:(q == Cy && env.scope.kind == .function && env.kindOf n == some .cell)=true
    .rw [if_pos hc,G6,hx] at e
     exact e
    .rw [if_neg hc,G6,hx] at e
     exact e
   exact c5u r k e'
theorem b8v{env:Env}{x:Str}(h:(relabel sc env).names.lookup x=some .cell\/(relabel sc env).names.lookup x=some .free):(x,Cy)∈sc.names\/(x,Lr)∈sc.names:=by
 rcases h with h | h
 .rcases c5u sc.names _ h with z | ⟨_,z⟩
  .exact .inr (Ep z)
  .exact .inl (Ep z)
 .rcases c5u sc.names _ h with z | ⟨z,_⟩
  .exact .inl (Ep z)
  .cases z
structure c5v(X:Cx)(scope:Fg)(x:Str):Prop where
 kind:scope.kind = .function
 d8z:∀ y∈scope.names,y.2≠.cell
 loc:∀ y∈scope.names,y.2 = .local->scope.names.lookup y.1=some .local
 own:scope.names.lookup x=some .local
 free:∀ y∈scope.names,y.2 = .free->X.env.kindOf y.1=some .cell\/X.env.kindOf y.1=some .free
 nd:(x :: mask x X.N).Nodup
 noe:∀ y∈scope.names,y.1≠""
 vis:∀ y∈mask x X.N,scope.names.lookup y≠some .local
variable {h':Heap}
section
variable {X:Cx}{scope:Fg}{x:Str}{cl:List (Str×Addr)}{pins:List (Addr×Obj)}{O:St}{H:Hp}{s Ai:Bx}{fp:List Addr}
theorem Inv.comp(S:c5v X scope x)(I:Inv X pins O H s)(hcl:∀ y c,cl.lookup y=some c->(y,Cy)∈scope.names/\X.env.cells.lookup y=some c)(hcl2:∀ y,(y,Cy)∈scope.names->cl.lookup y=X.env.cells.lookup y)
  (hfp:∀ b∈fp,f9q X pins H b) (hlt:∀ b∈fp,b < s.heap.objs.size) {m:Str->Option Br} (hns:Ai.heap.Ns s.heap.objs.size m) (hk:∀ b o,s.heap.get? b=some o->Ai.heap.get? b=some o) (hos:Ai.os=s.os) (hg:Ai.gens=s.gens) :
  Inv (c0r X scope cl s.heap.objs.size s H fp x) [] (none :: O) H Ai:=by
 have below:∀ {b:Addr} {o:Obj},s.heap.get? b=some o->b≠s.heap.objs.size:=fun e=>D2 (Cc e)
 refine⟨⟨I.ok.mod,?_,I.ok.glob,I.ok.blt,C0 _,fun y z c h1 h2=>I.ok.inj y z c (hcl y c h1).2 (hcl z c h2).2,fun y hy=>?_,(fun y c h=>nomatch h),I.ok.hd,I.ok.frames,.inl rfl,fun b hb=>⟨D2 (hlt b hb),fun y c e=>(hfp b hb).2.2.2.2.1 y c (hcl y c e).2⟩,
  fun b o e=>I.bs b o e,Bz I.ok.bsz I.sz,fun b o e hb=>?_,fun b hb hf=>?_,I.stack,I.g6n⟩,
  hos,by rw [hg]; exact I.bare,Un.kept hk,⟨m,hns,fun i y v h1 h2 h3=>?_⟩,fun y c e=>?_,I.hok.fresh (C0 _),fun y c e=>I.f0u y c (hcl y c e).2,fun p hp=>absurd (show p∈([] : List (Addr×Obj)) from hp) (by simp),I.hok.kept hk,by show (none :: O).length=(x :: mask x X.N).length; rw [Cq,Cq,mask,Bv,I.len]⟩
 .exact S.kind
 .rcases b8v (env:=X.env) (sc:=scope) (x:=y) hy with z | z
  .obtain⟨c,hc⟩:=I.ok.has y (S.free _ z rfl)
   exact⟨c,(hcl2 y z).trans hc⟩
  .exact absurd rfl (S.d8z _ z)
 .rcases (hfp b hb).2.2.2.1 with z | z
  .exact I.ok.j0u b o e z
  .exact absurd (Cr (Cc (I.ok.bs b o e).1) z) (Fk _)
 .rcases Db.mp (I.f7t b hf) with z | z
  .exact (hfp b hb).2.1 z
  .exact (hfp b hb).2.2.1 z
 .cases i with
  | zero=>cases h2
  | succ i =>
   have h1m:(mask x X.N)[i]? = some y:=by simpa [c0r] using h1
   have h2':O[i]? = some (some v):=by simpa using h2
   have hyN:y∈mask x X.N:=Ca h1m
   have hc:(relabel scope X.env).names.lookup y=some .cell\/(relabel scope X.env).names.lookup y=some .free:=by
    rcases h3 with z | z | z
    .exfalso
     rcases c5u (env:=X.env) scope.names _ z with q | ⟨q,_⟩
     .exact S.vis y hyN q
     .cases q
    .exact .inl z
    .exact .inr z
   have hfr:(y,Cy)∈scope.names:=by
    rcases b8v hc with z | z
    .exact z
    .exact absurd rfl (S.d8z _ z)
   have h1':X.N[i]? = some y:=by
    rw [mask,C9] at h1m
    obtain⟨z,hz,e⟩:=C7.mp h1m
    by_cases hzx:z=x
    .rw [if_pos hzx] at e
     exact absurd e.symm (S.noe _ hfr)
    .rw [if_neg hzx] at e
     rw [hz,e]
   obtain⟨mX,hnX,hl⟩:=I.loc
   have hk2:=S.free _ hfr rfl
   have j9y:Vis X.env.scope y:=by
    rcases hk2 with z | z
    .exact .inr (.inl z)
    .exact .inr (.inr z)
   obtain⟨u,ru,lk⟩:=hl i y v h1' h2' j9y
   refine⟨u,ru,.inr ⟨hc,?_⟩⟩
   rcases lk with ⟨z,_⟩ | ⟨_,c,ec,o,ho,hd⟩
   .rcases hk2 with q | q
    .rw [q] at z; cases z
    .rw [q] at z; cases z
   .exact⟨c,(hcl2 y hfr).trans ec,o,hk c o ho,hd⟩
 .obtain⟨v,o,ho,hd⟩:=I.cell y c (hcl y c e).2
  exact⟨v,o,hk c o ho,hd⟩
theorem Inv.j3y{Aa:St}{H':Hp}{s':Bx}(I:Inv X pins O H s)(hfp:∀ b∈fp,f9q X pins H b)(J:Inv (c0r X scope cl s.heap.objs.size s H fp x) [] Aa H' s')(hs:E7 s.heap.objs.size s'.heap h') :
  Inv X pins O H' { s' with heap:=h' }:=by
 have ne:∀ {b:Addr} {o:Obj},s.heap.get? b=some o->b≠s.heap.objs.size:=fun e=>D2 (Cc e)
 have u:=J.base
 have u':Un (frs X.stack) fp H H' s.heap h':=⟨fun b o e n hb hx=>hs.extBut b o (ne e) (u.keep b o e n hb hx),fun b o e n hb hx=>(u.slot b o e n hb hx).elim fun sl q=>⟨sl,hs.extBut b _ (ne e) q⟩,u.free,
  fun b o e hx=>(u.there b o e hx).elim fun o' q=>⟨o',hs.extBut b o' (ne e) q⟩,u.tups,u.g6m,u.g9i⟩
 have nC:∀ {b:Addr} {o:HO},H' b=some o->b≠s.heap.objs.size:=fun {b o} e z=>by
  have f:H' s.heap.objs.size=none:=J.free
  rw [z,f] at e; cases e
 have ok:HOk X.prog X.w H' h':=fun b o e=>(J.hok b o e).stay (fun c v hc q=>hs.extBut c v (by
  rcases hc with z | z
  .rw [z]; exact nC e
  .exact nC z) q) (fun _ q=>q) fun _ _ q=>q
 exact I.call' (s':={ s' with heap:=h' }) (ch:=fp) J.os u' ok J.bare fun b hb=>⟨(hfp b hb).2.2.2.1,(hfp b hb).2.1,(hfp b hb).2.2.2.2.1,(hfp b hb).2.2.2.2.2⟩
end
variable {it:Addr}{fp:List Addr}{tn:Nat->Heap->Prop}{J:It}{i:Nat}{spos:Pos}
section
variable {X:Cx}{scope:Fg}{x:Str}{pins:List (Addr×Obj)}{O:St}{elt iter:Expr}{px pos:Pos}{wi:TI}{te:TE}
theorem d3z{ifs:List Expr}{tc:TT}{Ac:Bx}{H1:Hp}{RR:Br->Addr->Result->Bx->Prop}{E:Br->Bx->Prop}{cl:List (Str×Addr)}
  (S:c5v X scope x) (hc:X.calm=true) (hcnd:∀ cl C Ab Ag fp,PTs (c0r X scope cl C Ab Ag fp x) ifs tc) (he:∀ cl C Ab Ag fp,PE (c0r X scope cl C Ab Ag fp x) elt te)
  (hcl:∀ y c,cl.lookup y=some c->(y,Cy)∈scope.names/\X.env.cells.lookup y=some c) (hcl2:∀ y,(y,Cy)∈scope.names->cl.lookup y=X.env.cells.lookup y)
  (I2:Inv X pins O H1 Ac) (T:Turn X.prog X.w X.K (.Name x px) J fp it tn) (st2:tn 0 Ac.heap) (f2:∀ b∈fp,f9q X pins H1 b) (h:∀ D H2,H1 D=none->Same H1 H2->H2 D=some (.lst [])->g9u J tc te D O H2 Q ⟨⟩)
  (hRR:∀ (D C:Addr) (s':Bx) (H':Hp),(∃ m,s'.heap.Ns C m)->(∀ h' ,E7 C s'.heap h'->Inv X pins O H' { s' with heap:=h' })->f9q X pins H' C->Q (.ref D) H'->RR (.ref D) C (.ok .next) s') :
  Ch (model X.prog X.w) X.A (Rm []) (fun acc Ab=>Ch (model X.prog X.w) X.A (Kg scope X.env.globals cl [] X.env.qual none .none (some X.env)) (fun cenv Ai =>
   J1 (model X.prog X.w) X.A (.compStart (.ListComp elt [⟨.Name x px,iter,ifs,0⟩] scope pos) 0 (.ref it) acc { cenv with scope:=relabel scope X.env }) (RR acc cenv.locals) Ai) E Ab) E Ac:=by
 have hfr:H1 Ac.heap.objs.size=none:=I2.hok.fresh (C0 _)
 have hCW:=h Ac.heap.objs.size _ hfr (Same.upd hfr) a2v
 refine Ey ?_
 have I3:Inv X pins O (upd H1 Ac.heap.objs.size (.lst [])) { Ac with heap:=Ac.heap.push { cls:=.type "list",data:=.seq ([] : List Br).toArray },toks:=Ac.toks } :=
  I2.laid (t':=Ac.toks) (fun b u e=>Bt _ e) (C0 _) ⟨Dx _,[],0,.nil,Cg _ rfl⟩
 have nD:∀ b∈fp,b≠Ac.heap.objs.size:=fun b hb=>by
  obtain⟨o,e,_⟩:=T.obj 0 _ st2 b hb
  exact D2 (Cc e)
 have f3:∀ b∈fp,f9q X pins (upd H1 Ac.heap.objs.size (.lst [])) b:=fun b hb=>⟨by rw [a3w (nD b hb)]; exact (f2 b hb).1,(f2 b hb).2⟩
 generalize hH3:upd H1 Ac.heap.objs.size (.lst [])=H3 at *
 have st3:tn 0 (Ac.heap.push { cls:=.type "list",data:=.seq ([] : List Br).toArray }):=T.keep _ _ _ st2 fun b _ o e=>Bt _ e
 have i7e:∀ b∈fp,b < (Ac.heap.push { cls:=.type "list",data:=.seq ([] : List Br).toArray }).objs.size:=fun b hb=>by
  obtain⟨o,e,_⟩:=T.obj 0 _ st3 b hb
  exact Cc e
 show Ch (model X.prog X.w) X.A (Kg scope X.env.globals cl [] X.env.qual none .none (some X.env)) _ E { Ac with heap:=Ac.heap.push { cls:=.type "list",data:=.seq ([] : List Br).toArray },toks:=Ac.toks }
 generalize hs3:({ Ac with heap:=Ac.heap.push { cls:=.type "list",data:=.seq ([] : List Br).toArray },toks:=Ac.toks }:Bx)=Ab at *
 have eh:Ab.heap=Ac.heap.push { cls:=.type "list",data:=.seq ([] : List Br).toArray }:=by rw [<- hs3]
 rw [<- eh] at st3 i7e
 generalize Ac.heap.objs.size=D at *
 refine Q1 S.d8z (by intro y hy; simp at hy) (fun Ak Ao Ar=>?_) S.kind
 have hk1:∀ b o,Ab.heap.get? b=some o->Ak.get? b=some o:=fun b o e=>Ar.extBut b o (D2 (Cc e)) (Bt _ e)
 have J0:Inv (c0r X scope cl Ab.heap.objs.size Ab H3 fp x) [] (none :: O) H3 { Ab with heap:=Ak,toks:=Ab.toks+([] : List (Str×Br)).length }:=I3.comp S hcl hcl2 f3 i7e Ao hk1 rfl rfl
 obtain⟨n0,W,w0,turn⟩:=hCW
 have loop:J1 (model X.prog X.w) X.A (.compLoop (.ListComp elt [⟨.Name x px,iter,ifs,0⟩] scope pos) 0 (.ref it) (.ref D) (Jr scope cl Ab.heap.objs.size X.env)) (RR (.ref D) Ab.heap.objs.size) { Ab with heap:=Ak,toks:=Ab.toks+([] : List (Str×Br)).length }:=by
  refine codeAny_loop rfl (fun n s'=>∃ i ys o H',Inv (c0r X scope cl Ab.heap.objs.size Ab H3 fp x) [] (o :: O) H' s'/\tn i s'.heap/\(∀ b∈fp,H' b=none)/\W i ys H'/\i<=n0/\n=n0 - i) (fun n s5 hI=>?_) n0
   ⟨0,[],none,H3,J0,T.keep _ _ _ st3 (fun b _ o e=>hk1 b o e),fun b hb=>(f3 b hb).1,w0,Dx _,rfl⟩
  obtain⟨i,ys,o5,H5,I5,st5,fr5,w5,hin,hnn⟩:=hI
  have stat:∀ {H':Hp},(∀ b∈fp,H' b=none)->∀ b∈fp,f9q (c0r X scope cl Ab.heap.objs.size Ab H3 fp x) [] H' b:=fun hn b hb =>
   ⟨hn b hb,D2 (i7e b hb),fun z=>(Db.mp (I3.f7t b z)).elim (fun q=>(f3 b hb).2.1 q) fun q=>(f3 b hb).2.2.1 q,.inl hb,fun y c e=>(f3 b hb).2.2.2.2.1 y c (hcl y c e).2,fun p hp=>absurd (show p∈([] : List (Addr×Obj)) from hp) (by simp)⟩
  show Ch _ X.A ((compTurn (.ListComp elt [⟨.Name x px,iter,ifs,0⟩] scope pos) 0 (.ref it) (.ref D) (Jr scope cl Ab.heap.objs.size X.env)).onRaise (fun x=>do noteFrame x (Jr scope cl Ab.heap.objs.size X.env); theTreesLotGoes x)) _ _ s5
  refine wpAny_noted ?_
  rw [compTurn_list]
  refine Bp (Ik (Bp ?_))
  obtain⟨hD5,alt⟩:=turn i ys H5 hin w5
  rcases alt with ⟨stop,q⟩ | ⟨hlt,go,hsz,step⟩
  .refine Dv (T.done (c0r X scope cl Ab.heap.objs.size Ab H3 fp x) rfl rfl rfl hc i [] s5 _ H5 _ I5 (stat fr5) st5 stop) (fun r s6 ⟨hr,I6⟩=>?_) fun _ _ z=>z
   subst hr
   refine Cf ?_
   obtain⟨m6,hn6,_⟩:=I6.loc
   exact hRR D Ab.heap.objs.size s6 H5 ⟨m6,hn6⟩ (fun h' hs'=>I3.j3y f3 I6 hs') (I3.i0m (C0 _) I6.free) q
  .refine Dv (T.item (c0r X scope cl Ab.heap.objs.size Ab H3 fp x) rfl rfl rfl hc i [] s5 _ H5 _ I5 (stat fr5) st5 go) (fun r s6 ⟨u,hr,h6⟩=>?_) fun _ _ z=>z
   subst hr
   refine Bp (Dv h6 (fun _ s7 ⟨v,H7,I7,r7,y7,st7,fr7⟩=>?_) fun _ _ z=>z)
   have I7':=I7.pinned (stat fr7) (T.obj _ _ st7)
   have G:=f1u (X:=c0r X scope cl Ab.heap.objs.size Ab H3 fp x) (pos:=px) (i:=0) (x:=x) S.nd rfl (.inl (Fs S.own)) (.inr (Fs S.own))
   refine Bp (Dv (G _ s7 _ H7 v u (fun Aa H'=>Aa=some v :: O/\H'=H7) I7' r7 ⟨rfl,rfl⟩) (fun _ s8 hs8=>?_) fun _ _ z=>Bq z)
   obtain⟨Au,H8,I8,rfl,rfl⟩:=hs8
   refine Bp (Dv (hcnd cl Ab.heap.objs.size Ab H3 fp _ s8 _ _ _ I8 (step v H8 y7)) (fun ok sB hok=>?_) fun _ _ z=>Bq z)
   obtain⟨HB,IB,qB⟩:=hok
   cases ok with
   | false =>
    have wB:W (i+1) ys HB:=by simpa using qB
    refine Cf ⟨rfl,n0 - (i+1),by omega,i+1,ys,some v,_,IB.d2w (pins:=[]) (pl:=f1v fp s7.heap),T.keep _ _ _ st7 (fun b hb o e=>(IB.pin (b,o) (Cj _ (b3y hb e))).1),fun b hb=>?_,wB,hlt,rfl⟩
    obtain⟨o,e,d⟩:=T.obj _ _ st7 b hb
    exact (IB.pin (b,o) (Cj _ (b3y hb e))).2.1
   | true =>
   rw [if_pos rfl] at qB
   refine Bp (Bp (Dv (he cl Ab.heap.objs.size Ab H3 fp _ sB _ _ _ IB qB) (fun yv s9 hs9=>?_) fun _ _ z=>Bq z))
   obtain⟨y,H9,I9,r9,hD9,k9⟩:=hs9
   refine Bp (Dv (f2j (X:=c0r X scope cl Ab.heap.objs.size Ab H3 fp x) _ s9 _ H9 (.ref D) [y] (.ref D) [yv] (fun _ H'=>H'=upd H9 D (.lst (ys++[y]))) I9 rfl (.cons r9 .nil) ⟨D,ys,y,rfl,rfl,hD9,hsz,rfl⟩) (fun _ sA hsA=>?_) fun _ _ z=>Bq z)
   obtain⟨_,HA,IA,_,rfl⟩:=hsA
   refine Cf ?_
   have wA:=k9 _ a2j.upd a2v
   refine Cf ⟨rfl,n0 - (i+1),by omega,i+1,ys++[y],some v,_,IA.d2w (pins:=[]) (pl:=f1v fp s7.heap),T.keep _ _ _ st7 (fun b hb o e=>(IA.pin (b,o) (Cj _ (Cj _ (b3y hb e)))).1),fun b hb=>?_,wA,hlt,rfl⟩
   obtain⟨o,e,d⟩:=T.obj _ _ st7 b hb
   exact (IA.pin (b,o) (Cj _ (Cj _ (b3y hb e)))).2.1
 exact Ph loop (T.self _ 0 _ _ _ (T.keep _ _ _ st3 fun b _ o e=>hk1 b o e) loop)
theorem b6t(hi:PI X (.Name x px) iter wi)(he:∀ cl C Ab Ag fp,PE (c0r X scope cl C Ab Ag fp x) elt te)(S:c5v X scope x)(hc:X.calm=true)
  (hs:∀ x,Ez iter X.env x=pure x:=by intro _; rfl):PE X (.ListComp elt [⟨.Name x px,iter,[],0⟩] scope pos) (j3x wi te):=by
 intro pins s O H Q I h
 obtain⟨cl,hclos,hcl,hcl2⟩:=c5t (env:=X.env) (sc:=scope) fun y hy=>I.ok.has y (S.free _ hy rfl)
 rw [O7]
 refine Fw (use:=none) rfl hs hclos S.kind S.loc ?_
 refine thn (hi pins s O H _ I h) fun v s1 h1=>thn h1 fun itv s2 h2=>?_
 obtain⟨it,fp,tn,J,H2,e,I2,T,st2,f2,hW⟩:=h2
 subst e
 exact d3z (RR:=fun acc C=>Nb (model X.prog X.w) X.A X.xe none (EP X pins O Q) acc C) S hc (fun _ _ _ _ _=>.nil) he hcl hcl2 I2 T st2 f2 (fun D H2 a b c=>(hW D H2 a b c).toI) fun D C s' H' hm hI _ hq =>
  hm.elim fun m hn=>⟨m,hn,fun h' hs'=>⟨.ref D,H',hI h' hs',rfl,hq⟩⟩
theorem f2p{y:Str}{py:Pos}(hN:X.N.Nodup)(hyi:X.N[i]? = some y)(hy:X.env.scope.names.lookup y=some .local)(hi:PI X (.Name x px) iter wi)(he:∀ cl C Ab Ag fp,PE (c0r X scope cl C Ab Ag fp x) elt te)(S:c5v X scope x)(hc:X.calm=true)
  (hsw:J3 (.ListComp elt [⟨.Name x px,iter,[],0⟩] scope pos) (some (.Name y py)) spos.line X.env=pure true:=by rfl)
  (hs:∀ x,Ez iter X.env x=pure x:=by intro _; rfl):PS X (.Assign [.Name y py] (.ListComp elt [⟨.Name x px,iter,[],0⟩] scope pos) spos) (i4k (j3x wi te) (g2u i)):=by
 intro pins s O H D I h
 obtain⟨cl,hclos,hcl,hcl2⟩:=c5t (env:=X.env) (sc:=scope) fun y hy=>I.ok.has y (S.free _ hy rfl)
 rw [Pt _ _ _ _ hsw]
 refine Bp (Ik (Bp ?_))
 show Ch _ X.A (do let _ <- comprehension (.ListComp elt [⟨.Name x px,iter,[],0⟩] scope pos) scope X.env _ (Rm []) false (eval iter X.env) (some (assign (.Name y py) X.env))) _ _ s
 refine Bp (Dv (Fw (use:=some (assign (.Name y py) X.env)) (Q:=fun _ s'=>SP X pins D .next s') rfl hs hclos S.kind S.loc ?_) (fun _ s' hq=>Cf (Cf hq)) fun _ _ e=>e)
 refine thn (hi pins s O H _ I h) fun v s1 h1=>thn h1 fun itv s2 h2=>?_
 obtain⟨it,fp,tn,J,H2,e,I2,T,st2,f2,hW⟩:=h2
 subst e
 refine d3z (Q:=fun v H'=>D.nx (O.set i (some v)) H') (RR:=fun acc C=>Nb (model X.prog X.w) X.A X.xe (some (assign (.Name y py) X.env)) (fun _ s'=>SP X pins D .next s') acc C) S hc (fun _ _ _ _ _=>.nil) he hcl hcl2 I2 T st2 f2 (fun D H2 a b c=>(hW D H2 a b c).toI) fun L C s' H' hm hI hfp hq=>?_
 obtain⟨m,hn⟩:=hm
 have I':Inv X pins O H' s':=hI s'.heap (Mg ..)
 show Ch _ X.A (assign (.Name y py) X.env (.ref L)) _ _ s'
 refine Lv (f1s (v:=.ref L) I' hN hyi (.inl hy) rfl (fun s'' I'' hsb=>?_) (.inr hy))
 obtain⟨a,hsame,ha⟩:=hsb
 have nea:C≠a:=by
  rcases ha with z | z
  .rw [z]; exact hfp.2.1
  .exact fun q=>hfp.2.2.2.2.1 y a z q.symm
 refine⟨m,hn.sameBut hsame nea,fun h' hs'=>⟨_,H',I''.turned (t':=s''.toks) (it:=C) (fun b o hb e=>hs'.extBut b o hb e) hfp.1 hfp.2.1 hfp.2.2.2.1 hfp.2.2.2.2.1 hfp.2.2.2.2.2,hq⟩⟩
end
variable {a:Addr}{xs:List V}{O:St}
theorem b1i(Pv:Nat->List V->Hp->Prop)(h0:Pv 0 [] H)(hsz:xs.length<=Cb)
  (hD:∀ i ys H,i<=xs.length->Pv i ys H->H D=some (.lst ys)/\SqL K H a xs/\ys.length=i)
  (hs:∀ i x ys H,xs[i]? = some x->Pv i ys H->te (some x :: O) H fun y H2=>H2 D=some (.lst ys)/\∀ H3,a2j D H2 H3->H3 D=some (.lst (ys++[y]))->Pv (i+1) (ys++[y]) H3)
  (hd:∀ ys H,Pv xs.length ys H->Q (.ref D) H):f0z (Itl K a) te D O H Q ⟨⟩:=by
 refine⟨xs.length,Pv,h0,fun i ys H hi p=>?_⟩
 obtain⟨e1,e2,e3⟩:=hD i ys H hi p
 refine⟨e1,?_⟩
 by_cases hlt:i < xs.length
 .refine .inr ⟨hlt,⟨xs,xs[i],e2,by simp [hlt]⟩,by lia,fun x H' y=>?_⟩
  obtain⟨e,y⟩:=y
  subst e
  exact hs i x ys _ (y xs e2) p
 .have e:i=xs.length:=by lia
  subst e
  exact .inl ⟨⟨xs,e2,C0 _⟩,hd ys H p⟩
theorem d4g{lo:Int}(Pv:Nat->List V->Hp->Prop)(h0:Pv 0 [] H)(hsz:n<=Cb)
  (hD:∀ i ys H,i<=n->Pv i ys H->H D=some (.lst ys)/\ys.length=i)
  (hs:∀ i ys H,i < n->Pv i ys H->te (some (.int (lo+i)) :: O) H fun y H2=>H2 D=some (.lst ys)/\∀ H3,a2j D H2 H3->H3 D=some (.lst (ys++[y]))->Pv (i+1) (ys++[y]) H3)
  (hd:∀ ys H,Pv n ys H->Q (.ref D) H):f0z (Itr lo n) te D O H Q ⟨⟩:=by
 refine⟨n,Pv,h0,fun i ys H hi p=>?_⟩
 obtain⟨e1,e3⟩:=hD i ys H hi p
 refine⟨e1,?_⟩
 by_cases hlt:i < n
 .refine .inr ⟨hlt,hlt,by lia,fun x H' y=>?_⟩
  obtain⟨e,y⟩:=y
  subst e y
  exact hs i ys _ hlt p
 .have e:i=n:=by lia
  subst e
  exact .inl ⟨C0 _,hd ys H p⟩
theorem Same.step{H0 H H':Hp}(S:Same H0 H)(n:H0 D=none)(s:a2j D H H'):Same H0 H':=fun b o e=>s b o (a5u e n) (S b o e)
theorem h6f{H0 H:Hp}(g:V->V)(n0:H0 D=none)(S:Same H0 H)(hD:H D=some (.lst []))(hS:SqL K H0 a xs)(hsz:xs.length<=Cb)
  (hs:∀ (i:Nat) x H' (Q':VK),xs[i]? = some x->Same H0 H'->Q' (g x) H'->te (some x :: O) H' Q') (q:∀ H',Same H0 H'->H' D=some (.lst (xs.map g))->Q (.ref D) H'):f0z (Itl K a) te D O H Q ⟨⟩:=by
 refine b1i (fun i ys H'=>Same H0 H'/\H' D=some (.lst ys)/\ys=(xs.take i).map g) ⟨S,hD,by simp⟩ hsz (fun i ys H' hi p=>?_) (fun i x ys H' hx p=>?_) (fun ys H' p=>?_)
 .refine⟨p.2.1,p.1.seq hS,?_⟩
  rw [p.2.2,Bv,D9]
  lia
 .refine hs i x H' _ hx p.1 ⟨p.2.1,fun H3 s3 h3=>⟨p.1.step n0 s3,h3,?_⟩⟩
  have hi:i < xs.length:=(Bu.mp hx).1
  rw [p.2.2,Cu,hx,Co]
  rfl
 .refine q H' p.1 ?_
  rw [p.2.1,p.2.2,Dg]
theorem d6z{lo:Int}{H0 H:Hp}(g:Nat->V)(n0:H0 D=none)(S:Same H0 H)(hD:H D=some (.lst []))(hsz:n<=Cb)
  (hs:∀ (i:Nat) H' (Q':VK),i < n->Same H0 H'->Q' (g i) H'->te (some (.int (lo+i)) :: O) H' Q') (q:∀ H',Same H0 H'->H' D=some (.lst ((Cz n).map g))->Q (.ref D) H'):f0z (Itr lo n) te D O H Q ⟨⟩:=by
 refine d4g (fun i ys H'=>Same H0 H'/\H' D=some (.lst ys)/\ys=(Cz i).map g) ⟨S,hD,by simp⟩ hsz (fun i ys H' hi p=>?_) (fun i ys H' hx p=>?_) (fun ys H' p=>?_)
 .refine⟨p.2.1,?_⟩
  rw [p.2.2,Bv,Ga]
 .refine hs i H' _ hx p.1 ⟨p.2.1,fun H3 s3 h3=>⟨p.1.step n0 s3,h3,?_⟩⟩
  rw [p.2.2,No,Co]
  rfl
 .refine q H' p.1 ?_
  rw [p.2.1,p.2.2]
noncomputable def i4u(sc scope:Fg)(x:Str)(N:List Str):Bool :=
 (scope.kind == .function) && scope.names.all (fun y=>y.2 != .cell) && scope.names.all (fun y=>y.2 != .local || scope.names.lookup y.1 == some .local) && (scope.names.lookup x == some .local) &&
 scope.names.all (fun y=>y.2 != .free || (sc.names.lookup y.1 == some .cell || sc.names.lookup y.1 == some .free)) && decide ((x :: mask x N).Nodup) && scope.names.all (fun y=>y.1 != "") && (mask x N).all (fun y=>scope.names.lookup y != some .local)
theorem c5w{X:Cx}{scope:Fg}{x:Str}(hsc:X.env.scope=sc)(hN:X.N=N)(h:i4u sc scope x N=true):c5v X scope x:=by
 subst hN hsc
 unfold i4u at h
 simp only [Ec,Fv,beq_iff_eq,Ls,bne_iff_ne,ne_eq,decide_eq_true_eq] at h
 obtain⟨⟨⟨⟨⟨⟨⟨h1,h2⟩,h3⟩,h4⟩,h5⟩,h6⟩,h7⟩,h8⟩:=h
 exact⟨h1,h2,fun y hy e=>(h3 y hy).resolve_left fun z=>z e,h4,fun y hy e=>(h5 y hy).resolve_left fun z=>z e,h6,h7,h8⟩
noncomputable def j9z:V->Hp->Bool:=fun x H=>match x with
 | .ref l=>(match H l with
  | some (.lst _)=>true
  | _=>false)
 | _=>false
noncomputable def i4v:V->Hp->Bool:=fun x _=>match x with
 | .str _=>true
 | _=>false
theorem b1j:∀ x H,j9z x H=true->tyV K "list" x H:=fun x H h=>by
 cases x with
 | ref l =>
  have h':(match H l with
   | some (.lst _)=>true
   | _=>false)=true:=h
  split at h'
  .rename_i xs e
   exact .inl ⟨rfl,xs,SqL.of e⟩
  .cases h'
 | _=>cases h
theorem c2l:∀ x H,i4v x H=true->tyV K "str" x H:=fun x H h=>by
 cases x with
 | str z=>exact rfl
 | _=>cases h
def k0a(chk:V->Hp->Bool)(r:V->List V->Hp->VK->Prop)(to:TE)(t:TA):TE:=fun O H Q=>to O H fun x H1=>chk x H1=true/\t O H1 fun xs H2=>r x xs H2 Q
section
variable {X:Cx}{o e:Expr}{es:List Expr}{to:TE}{t:TA}{name:Str}{apos cpos:Pos}{T id:String}{r r':V->List V->Hp->VK->Prop}{chk:V->Hp->Bool}
theorem MtR.weak(h:MtR X id r)(q:∀ x xs H Q,r' x xs H Q->r x xs H Q):MtR X id r':=fun pins s O H x xs v us Q I rx rs hr=>h pins s O H x xs v us Q I rx rs (q x xs H Q hr)
theorem b5r(hchk:∀ x H,chk x H=true->tyV X.K T x H)(pa:PlainAttrs T)(slot:Slot T name id)(hty:typeOf (.builtin id)=pure (.type "method_descriptor"))(hm:MtR X id r)(ho:PE X o to)(ha:PA X (e :: es) t)
  (hbase:Fb o name X.env (eval o X.env)=eval o X.env:=by rfl)
  (hfew:((Ew cpos (Cs (e :: es) X.env)).all (fun x=>!x.1) && (Gc cpos (Et [] X.env)).all (fun x=>x.1.isSome)
   && decide ((e :: es).length+([] : List Jw).length+(if ([] : List Jw).isEmpty then 0 else 1) < 30))=true:=by rfl)
  (hline:(apos.endLine == cpos.line)=true:=by rfl) (hs:Cs (e :: es) X.env=(false,eval e X.env) :: Cs es X.env:=by rfl) (hplain:(Ew cpos (Cs es X.env)).any (·.1)=false:=by rfl) :
  PE X (.Call (.Attribute o name apos) (e :: es) [] cpos) (k0a chk r to t):=by
 intro pins s O H Q I h
 refine wpAny_Call_method_late hbase hfew hline rfl (thn (ho pins s O H _ I h) fun v s1 ⟨x,H1,I1,r1,ty,q1⟩=>?_)
 obtain⟨h1,h2⟩:=h5l I1 r1 (hchk x H1 ty)
 refine⟨T,id,pa,slot,hty,h1,h2,?_⟩
 have hA:=ha cpos pins s1 O H1 _ I1 q1
 rw [hs] at hA ⊢
 refine Je (by show (false || (Ew cpos (Cs es X.env)).any (·.1))=false; rw [hplain] <;> rfl) (Calls.evalArgs_plain ?_)
 exact thn hA fun us s2 ⟨vs,H2,I2,r2,q2⟩=>hm pins s2 O H2 x vs v us Q I2 r1 r2 q2
noncomputable def k0b:V->List V->Hp->VK->Prop:=fun x vs H Q=>match x,vs with
 | .ref l,[y]=>(match H l with
  | some (.lst xs)=>xs.length < Cb/\All (fun v H1=>v = .non/\a2j l H H1/\H1 l=some (.lst (xs++[y]))) Q ⟨⟩ ⟨⟩
  | _=>False)
 | _,_=>False
theorem a5v:MtR X "list.append" k0b:=MtR.weak (r:=h5m) f2j fun x vs H Q h=>by
 obtain⟨l,rfl⟩:∃ l,x = .ref l:=by cases x <;> first | exact⟨_,rfl⟩ | exact Bq h
 obtain _ | ⟨y,vs⟩:=vs
 .exact Bq h
 obtain rfl:vs = []:=by
  cases vs with
  | nil=>rfl
  | cons _ _=>exact Bq h
 .have h':(match H l with
   | some (.lst xs)=>xs.length < Cb/\All (fun v H1=>v = .non/\a2j l H H1/\H1 l=some (.lst (xs++[y]))) Q ⟨⟩ ⟨⟩
   | _=>False):=h
  split at h'
  .rename_i xs e
   exact⟨l,xs,y,rfl,rfl,e,h'.1,h'.2 _ _ ⟨rfl,a2j.upd,a2v⟩⟩
  .exact h'.elim
end
noncomputable def f1m{α:Type}(xs:List α)(lo hi:Option Int):List α:=(xs.drop (HT.sIx xs.length 0 lo)).take (HT.sIx xs.length xs.length hi - HT.sIx xs.length 0 lo)
theorem f9w{α β:Type}(f:α->β)(xs:List α)(lo hi:Option Int):f1m (xs.map f) lo hi=(f1m xs lo hi).map f:=by
 unfold f1m
 rw [Bv,List.map_take,Np]
theorem c5y(ns:List Int)(lo hi:Option Int):f0y (ns.map V.int) lo hi=(f1m ns lo hi).map V.int:=f9w V.int ns lo hi
theorem i1n{α:Type}{xs:List α}{lo hi:Option Int}{x:α}(h:x∈f1m xs lo hi):x∈xs:=Ir (Eu h)
theorem i1o{α:Type}(xs:List α)(lo hi:Option Int):(f1m xs lo hi).length<=xs.length:=by
 unfold f1m
 rw [D9,Ev]
 omega
theorem a7g{α:Type}(xs:List α)(a:Nat):f1m xs (some (a:Int)) none=xs.drop a:=by
 unfold f1m
 rw [HT.f2g,HT.g9o]
 by_cases h:a<=xs.length
 .rw [Ie h,Ef (by rw [Ev] <;> exact C0 _)]
 .rw [Go (by lia),Q0,Hd (by lia)]
  simp
theorem g3p{α:Type}(xs:List α)(a l:Nat):f1m xs (some (a:Int)) (some ((a:Int)+(l:Int)))=(xs.drop a).take l:=by
 unfold f1m
 rw [show ((a:Int)+(l:Int))=((a+l:Nat):Int) by lia,HT.f2g,HT.f2g]
 by_cases h:a<=xs.length
 .rw [Ie h]
  by_cases h2:a+l<=xs.length
  .rw [Ie h2,Nat.add_sub_cancel_left]
  .rw [Go (by lia),Ef (by rw [Ev]; exact C0 _),Ef (by rw [Ev]; lia)]
 .have e1:min a xs.length=xs.length:=Go (by lia)
  have e2:min (a+l) xs.length=xs.length:=Go (by lia)
  rw [e1,e2,Q0,Hd (show xs.length<=a by lia)]
  simp
theorem d0i{α:Type}(xs:List α)(a:Nat):f1m xs none (some (a:Int))=xs.take a:=by
 unfold f1m
 rw [HT.f2g,HT.g9o,List.drop_zero,Kz]
 by_cases h:a<=xs.length
 .rw [Ie h]
 .rw [Go (by lia),Dg,Ef (by lia)]
theorem b9o(F:Nat->St->Hp->Prop):∃ Pv:Nat->St->Hp->Prop,(∀ i O H,F i O H->Pv i O H)/\∀ i O H,Pv i O H->F i O H:=⟨F,fun _ _ _ h=>h,fun _ _ _ h=>h⟩
theorem g3q(F:St->Hp->Prop):∃ Pv:St->Hp->Prop,(∀ O H,F O H->Pv O H)/\∀ O H,Pv O H->F O H:=⟨F,fun _ _ h=>h,fun _ _ h=>h⟩
open PySem.Builtin.Int (intBits)
section
variable {X:Cx}
noncomputable def rSumF:List V->Hp->VK->Prop:=fun xs H Q=>match xs with
 | [.ref p]=>(match H p with
  | some (.lst ys)=>∃ ns:List Int,ys=ns.map V.int/\Q (.int ns.sum) H
  | _=>False)
 | _=>False
end
def Stop(p:Prop)(_:Tag p):Prop:=p
theorem Stop.go{p:Prop}{t:Tag p}(h:p):Stop p t:=h
def k4a(t u:TS):TS:=fun D O H=>t { D with nx:=fun Aa H'=>Stop (u D Aa H') ⟨⟩ } O H
def Hs(H:Hp)(fs:List (Addr×HO)):Prop:=(fs.map (·.1)).Nodup/\∀ p∈fs,H p.1=some p.2
theorem Hs.nil:Hs H []:=⟨nodup_nil,fun _ h=>nomatch h⟩
theorem g3r(h:i < ns.length):atI (ns.map V.int) (i:Int)=some (.int (ns.getD i 0)):=by
 refine c0j ?_
 rw [C9,By h,C3,By h]
 rfl
def k4b(H:Hp)(cs:List Addr)(bs:List (List Int)):Prop:=cs.length=bs.length/\∀ (i:Nat) c b,cs[i]? = some c->bs[i]? = some b->H c=some (.lst (b.map V.int))
theorem k4b.two{a b:Addr}{x y:List Int}(ha:H a=some (.lst (x.map V.int)))(hb:H b=some (.lst (y.map V.int))):k4b H [a,b] [x,y]:=by
 refine⟨rfl,fun i c d e1 e2=>?_⟩
 match i,e1,e2 with
 | 0,e1,e2=>cases e1; cases e2; exact ha
 | 1,e1,e2=>cases e1; cases e2; exact hb
 | i+2,e1,e2=>simp at e1
def d5k(H:Hp)(xs:List V)(v:V)(H':Hp):Prop:=∃ b,v = .ref b/\H b=none/\Same H H'/\H' b=some (.lst xs)
def d9g(H:Hp)(xs:List V)(v:V)(H':Hp):Prop:=∃ b,v = .ref b/\H b=none/\Same H H'/\H' b=some (.tup xs)
noncomputable def d5l(q:Rat):List V:=[.int q.num,.int (q.den:Nat)]
theorem i1p(n:Nat)(x:Int):(D0 n [V.int x]).flatten=(D0 n x).map V.int:=by
 induction n with
 | zero=>rfl
 | succ n ih=>rw [Gr,Jz,ih,Gr,Es]; rfl
noncomputable def k0c(o:Obj):Option Br:=match o.data with
 | .fields vs=>vs[2]?
 | _=>none
def Kd(e:Addr)(d:Option Addr×Option Br)(h:Heap):Prop:=∃ o,h.get? e=some o/\o.dict=d.1/\k0c o=d.2
theorem Kd.upd{e:Addr}{d:Option Addr×Option Br}{h:Heap}{f:Obj->Obj}(x:Kd e d h)(hf:∀ o:Obj,o.isFreed=false->(f o).isFreed=false/\(f o).dict=o.dict/\k0c (f o)=k0c o):Kd e d (h.update a f):=by
 obtain⟨u,q,b⟩:=x
 have y:=hf u (Heap.get?_some_iff.mp q).2
 by_cases hb:a=e
 .subst hb
  exact⟨_,Nk f q y.1,y.2.1.trans b.1,y.2.2.trans b.2⟩
 .exact⟨u,(N2 h f hb).trans q,b⟩
section
variable {M:Model}{A:Ds}{E:Br->Bx->Prop}{s:Bx}{base:Heap}{env:Env}{outer l:List Env}{L e:Addr}{cls a0:Br}{dx:Option Addr×Option Br}{Q:Unit->Bx->Prop}
end
noncomputable def CXF(st:Bool)(P:Dc)(w:E2):CXT:=fun outer H s E e s'=>∃ (a:Addr) (C a0:Br) (B:Heap) (H':Hp),e = .ref a/\Heap.FlyingW B outer a C a0 s'.heap/\s'.os=s.os/\Ji s'.gens /\
 (∀ h',B.StaysIn h'->s'.heap.UpToSlots h'->Un (frs outer) [] H H' s.heap h'/\HOk P w H' h')/\H' a=none/\s.heap.get? a=none/\∃ dx cx,Kd a (dx,cx) s'.heap/\(st=true->cx=some .none)/\E C dx H'
noncomputable abbrev CXE(P:Dc)(w:E2):CXT:=CXF false P w
section
variable {X:Cx}{pins:List (Addr×Obj)}{O:St}{H:Hp}{s:Bx}
theorem Inv.track{o:HO}(I:Inv X pins O H s)(h1:X.s₀.heap.get? a=none)(h2:a≠X.env.locals)(h3:∀ x c,X.env.cells.lookup x=some c->c≠a)(h4:∀ p∈X.pn++pins,p.1≠a)(hH:H a=none)
  (new:b3k X.prog X.w (upd H a o) s.heap a o):Inv X pins O (upd H a o) s:=by
 refine⟨I.ok,I.os,I.bare,⟨I.base.keep,I.base.slot,fun b u q n hx=>?_,I.base.there,fun b xs q=>?_,fun b u xs q=>?_,fun b ps q=>?_⟩,I.loc,I.cell,?_,fun x c e=>?_,fun p hp=>?_,fun b u e=>?_,I.len⟩
 .rw [a3w (fun z=>by rw [z,h1] at q; cases q)]
  exact I.base.free b u q n hx
 .have z:=I.base.tups b xs q
  rw [a3w (a5u z hH)]
  exact z
 .have z:=I.base.g6m b u xs q
  rw [a3w (a5u z hH)]
  exact z
 .obtain⟨m,z⟩:=I.base.g9i b ps q
  exact⟨m,by rw [a3w (a5u z hH)]; exact z⟩
 .rw [a3w h2.symm]
  exact I.free
 .rw [a3w (h3 x c e)]
  exact I.f0u x c e
 .obtain⟨e,n,ne,nf,d⟩:=I.pin p hp
  exact⟨e,by rw [a3w (h4 p hp)]; exact n,ne,nf,d⟩
 .by_cases hb:b=a
  .subst hb
   rw [a2v] at e
   cases e
   exact new
  .rw [a3w hb] at e
   exact (I.hok b u e).stay (fun _ _ _ q=>q) (fun c q=>by rw [a3w (a5u q hH)]; exact q) fun c xs q=>by rw [a3w (a5u q hH)]; exact q
end
section
variable {P:Dc}{w:E2}{K:Bw}{mg:Str->Option Br}{base:Heap}{N:List Str}{qual:Str}{scope:Fg}{f:Addr}{cd:Br}{A:Ds}{outer:List Env}{s:Bx}{H:Hp}{E:XK}
end
abbrev vE:List Br:=[.type "ValueError",.type "Exception",.type "BaseException",.type "object"]
structure Exc(K:Bw)(C:Addr):Prop where
 ok:W.excIn K C vE "ValueError.__new__"=true
section
variable {X:Cx}{Az:Expr}{rest:List Expr}{t:TA}{x:Str}{C:Addr}{E:XK}{np cpos pos:Pos}
def k4c(C:Addr)(E:XK)(t:TA):TS:=fun _ O H=>t O H fun vs H1=>vs.length<=Cb/\E (.ref C) none H1
end
structure ExcQ(K:Bw)(C:Addr):Prop where
 ga:Dk K (.ref C) "__getattribute__"=some (some (.builtin "BaseException.__getattribute__"))
 cl:Dk K (.ref C) "__class__"=some (some (.builtin "object.__class__"))
 ng:Dk K (.ref C) "__getattr__"=some none
 so:Ql K (.ref C) (.type "object")=some true
 sb:Ql K (.ref C) (.type "BaseException")=some true
 ty:W.typeIn K (.ref C)=some (.type "type")
 ic:W.isClsIn K C=true
 ss:Ql K (.ref C) (.ref C)=some true
section
variable {prog:Dc}{w:E2}{A:Ds}{E:Br->Bx->Prop}{h:Heap}{g:Array Nl}{d:Rw}{t:Nat}{os:Rt}{a C:Addr}{o:Obj}{K:Bw}
end
noncomputable def excO(a:Addr)(C:Br):HO:=.ext fun h=>∃ o,h.get? a=some o/\o.cls=C
noncomputable def excD(a:Addr)(C:Br)(d:Addr):HO:=.ext fun h=>∃ o,h.get? a=some o/\o.cls=C/\o.dict=some d/\∃ vs,o.data = .fields vs
noncomputable def excA(a:Addr)(C:Br):Option Addr->HO
 | none=>excO a C
 | some d=>excD a C d
section
variable {X:Cx}
end
def XPo(X:Cx)(pins:List (Addr×Obj))(O:St)(E:XK)(e:Br)(s':Bx):Prop:=∃ H1 s1,Inv X pins O H1 s1/\CXE X.prog X.w X.stack H1 s1 E e s'
def PEX(X:Cx)(e:Expr)(t:TE)(E:XK):Prop :=
 ∀ (pins:List (Addr×Obj)) (s:Bx) (O:St) (H:Hp) (Q:VK),Inv X pins O H s->t O H Q->Ch (model X.prog X.w) X.A (eval e X.env) (EP X pins O Q) (XPo X pins O E) s
def PSX(X:Cx)(st:Stmt)(t:TS)(E:XK):Prop :=
 ∀ (pins:List (Addr×Obj)) (s:Bx) (O:St) (H:Hp) (D:Ends),Inv X pins O H s->t D O H->Ch (model X.prog X.w) X.A (exec st X.env) (SP X pins D) (XPo X pins O E) s
section
variable {X:Cx}{k:Nat}{f C:Addr}{fd:C8}{ps:List Str}{sp:Sp}{dvs:List V}{ds:List Br}{E:XK}{x m:Str}{p pos apos:Pos}{e o:Expr}{es:List Expr}{ta:TE}{t:TA}
end
section
variable {X:Cx}{pins:List (Addr×Obj)}{O:St}{H:Hp}{s:Bx}
end
def hAs(K:Bw)(D:Addr)(i:Nat)(th:TS)(Dn:Ends)(O:St):XK:=fun C dx H'=>∃ c,C = .ref c/\Ql K (.ref c) (.ref D)=some true /\
 ∀ e H2,H' e=none->Same H' H2->H2 e=some (excA e (.ref c) dx)->th { nx:=fun Af H3=>Dn.nx (Af.set i none) H3,rt:=Dn.rt,bk:=fun Af H3=>Dn.bk (Af.set i none) H3,ct:=fun Af H3=>Dn.ct (Af.set i none) H3 } (O.set i (some (.ref e))) H2
def k4d(K:Bw)(D:Addr)(i:Nat)(tb:XK->TS)(th:TS):TS:=fun Dn O H=>tb (hAs K D i th Dn O) Dn O H
section
variable {X:Cx}{D:Addr}{dn n:Str}{i:Nat}{st Bi:Stmt}{suite:List Stmt}{tb:XK->TS}{th:TS}{np hpos pos:Pos}
end
def j3z:TE:=fun _ H Q=>New H (.dK []) Q ⟨⟩
variable {pos:Pos}
theorem d2y{X:Cx}:PE X (.Dict [] [] pos) j3z:=PE.weak i1h fun _ _ _ h=>h.raw
variable {P:Dc}{tb:TS}{e:Expr}
section
variable {X:Cx}{tg:Expr}
noncomputable def j4a(g:Str->Str->V):V->List V->Hp->VK->Prop:=fun x vs H Q=>match x,vs with
 | .str z,[.str y]=>Q (g z y) H
 | _,_=>False
theorem d5m:MtR X "str.startswith" (j4a fun z y=>.bl (Hg z y)):=by
 intro pins s O H x xs v us Q I rx rs h
 obtain⟨z,rfl⟩:∃ z,x = .str z:=by cases x <;> first | exact⟨_,rfl⟩ | exact Bq h
 obtain _ | ⟨zz,xs⟩:=xs
 .exact Bq h
 obtain⟨y,rfl⟩:∃ y,zz = .str y:=by cases zz <;> first | exact⟨_,rfl⟩ | exact Bq h
 obtain rfl:xs = []:=by
  cases xs with
  | nil=>rfl
  | cons _ _=>exact Bq h
 have q:=h
 .obtain⟨t,rfl⟩:=rx
  obtain⟨u,rfl,t',rfl⟩:=vals1 rs
  exact call_gives Hy (J8 _ _ _) F.entry_str_startswith (F.args_str_startswith_2 _ _) (gives_str_startswith z y t t') ⟨.bl (Hg z y),H,I,rfl,q⟩
noncomputable def Its(x:Str):It:=⟨fun i _=>i < x.cps.size,fun i H v H'=>H'=H/\∃ c,x.cps[i]? = some c/\v = .str ⟨#[c]⟩,fun i _=>i=x.cps.size⟩
theorem i1q{w:E2}(it:Addr)(x:Str)(t:Tok){n:String}(hn : ["enumerate","zip","dict_itemiterator","dict_reverseitemiterator","odict_iterator","itertools.zip_longest","itertools.pairwise"].contains n=false)
  (W:∀ A':Ds,A'.handled=none->Walks P w A' it [it] [it] x.cps.size (SignAt x) (fun i h=>h.IsStrIter it n x t i))
  (S:∀ (A:Ds) (i:Nat) (s:Bx) (Q:Br->Bx->Prop) (E:Br->Bx->Prop),s.heap.IsStrIter it n x t i->Q (.ref it) s->Ch (model P w) A (Pg (.ref it)) Q E s):Turn P w K tg (Its x) [it] it (fun i h=>h.IsStrIter it n x t i) where
 mem:=by simp
 obj:=fun i h st b hb=>by
  have e:b=it:=by simpa using hb
  subst e
  obtain⟨o,e,c,d⟩:=st
  exact⟨o,e,fun v z=>by rw [d] at z; cases z⟩
 keep:=fun i h h' st k=>let ⟨o,ho,r⟩:=st; ⟨o,k it (by simp) o ho,r⟩
 item:=by
  intro X hP hw hK hc i pins s O H E I hf st hg
  subst hP hw hK
  obtain⟨f0,f1,f2,f3,f4,f5⟩:=hf it (by simp)
  refine (W _ (I.ok.hd hc)).item i s _ _ hg st fun v h' tk hv st' kk=>?_
  obtain⟨c,u,hc',rfl⟩:=hv
  have I1:Inv X pins O H { s with heap:=h',toks:=tk }:=I.turned (fun b o hb e=>kk b o (by simpa using hb) e) f0 f1 f3 f4 f5
  obtain⟨o,e1,c1,d1⟩:=id st'
  exact⟨_,rfl,i0u (s:={ s with heap:=h',toks:=tk }) e1 c1 d1 hn ⟨.str ⟨#[c]⟩,H,I1,⟨u,rfl⟩,⟨rfl,c,hc',rfl⟩,st',fun b hb=>(hf b hb).1⟩⟩
 done:=by
  intro X hP hw hK hc i pins s O H E I hf st hg
  subst hP hw hK
  obtain⟨f0,f1,f2,f3,f4,f5⟩:=hf it (by simp)
  have hi:i=x.cps.size:=hg
  subst hi
  exact (W _ (I.ok.hd hc)).done s _ _ st fun h' tk kk=>⟨rfl,I.turned (t':=tk) (fun b o hb e=>kk b o (by simpa using hb) e) f0 f1 f3 f4 f5⟩
 self:=S
def iStr(tl:TE):TI:=fun O H R=>tl O H fun x H1=>match x with
 | .str z=>R (Its z) H1
 | _=>False
theorem i4w{l:Expr}(hl:PE X l tl):PI X tg l (iStr tl):=by
 intro pins s O H R I h
 refine c9u (hl pins s O H _ I h) fun v s1 x H1 I1 r1 q1=>?_
 cases x with
 | str z =>
  obtain⟨t,rfl⟩:=r1
  have fin:∀ (o:Obj) (n:String),["enumerate","zip","dict_itemiterator","dict_reverseitemiterator","odict_iterator","itertools.zip_longest","itertools.pairwise"].contains n=false->(s1.heap.push o).IsStrIter s1.heap.objs.size n z t 0 ->
    (∀ A':Ds,A'.handled=none->Walks X.prog X.w A' s1.heap.objs.size [s1.heap.objs.size] [s1.heap.objs.size] z.cps.size (SignAt z) (fun i h=>h.IsStrIter s1.heap.objs.size n z t i)) ->
    (∀ (A:Ds) (i:Nat) (s:Bx) (Q:Br->Bx->Prop) (E:Br->Bx->Prop),s.heap.IsStrIter s1.heap.objs.size n z t i->Q (.ref s1.heap.objs.size) s->Ch (model X.prog X.w) A (Pg (.ref s1.heap.objs.size)) Q E s) ->
    PIE X pins O tg R (.ref s1.heap.objs.size) { s1 with heap:=s1.heap.push o }:=fun o n hn st W S=>by
   refine⟨s1.heap.objs.size,[s1.heap.objs.size],_,_,H1,rfl,I1.kept (t':=s1.toks) fun b o e=>Bt _ e,i1q _ z t hn W S,st,fun b hb=>?_,q1⟩
   have e:b=s1.heap.objs.size:=by simpa using hb
   subst e
   exact I1.i0m (C0 _) (I1.hok.fresh (C0 _))
  cases ha:z.cps.all (· < 128)
  .exact wpAny_pyIter_wide ha (fin _ "str_iterator" (by decide) ⟨_,Cg _ rfl,rfl,rfl⟩ (fun A' hA=>Walks.strWide hA _ z t) fun _ _ _ _ _ st hQ=>wpAny_pyIter_striter_wide st hQ)
  .exact wpAny_pyIter_ascii ha (fin _ "str_ascii_iterator" (by decide) ⟨_,Cg _ rfl,rfl,rfl⟩ (fun A' hA=>Walks.strAscii hA _ z t) fun _ _ _ _ _ st hQ=>wpAny_pyIter_striter_ascii st hQ)
 | _=>exact Bq q1
theorem i1r{x:Str}{g:TG}{D:Ends}(Pv:Nat->St->Hp->Prop)(h0:Pv 0 O H)
  (hs:∀ i c O H,x.cps[i]? = some c->Pv i O H->g (.str ⟨#[c]⟩) O H fun Af H2=>tb { D with nx:=Pv (i+1),ct:=Pv (i+1),bk:=D.nx } Af H2) (hd:∀ O H,Pv x.cps.size O H->D.nx O H):j0w (Its x) g tb D O H:=by
 refine⟨fun i m O H=>m=x.cps.size - i/\i<=x.cps.size/\Pv i O H,⟨x.cps.size,by simp,Dx _,h0⟩,?_⟩
 rintro i m O H ⟨rfl,hi,p⟩
 by_cases hlt:i < x.cps.size
 .refine .inr ⟨hlt,Pv (i+1),fun Aa H' p'=>⟨x.cps.size - (i+1),by omega,rfl,hlt,p'⟩,fun v H' y=>?_⟩
  obtain⟨e,c,hc,e2⟩:=y
  subst e e2
  exact hs i c O _ hc p
 .have e:i=x.cps.size:=by omega
  subst e
  exact .inl ⟨rfl,hd O H p⟩
noncomputable def rSlA:V->Option Int->Option Int->Hp->VK->Prop:=fun x lo hi H Q=>match x with
 | .ref a=>(match H a with
  | some (.lst xs)=>New H (.lst (f0y xs lo hi)) Q ⟨⟩
  | _=>False)
 | .str z=>z.length<=Cb/\Q (.str (Q7 z lo hi)) H
 | _=>False
theorem g3s:SlR X rSlA:=by
 intro pins s O H x v vl vu lo hi sl Q I rx hs pl pu h
 cases x with
 | ref a=>exact sl_M pins s O H _ v vl vu lo hi sl Q I rx hs pl pu h
 | str z =>
  obtain⟨t,rfl⟩:=rx
  obtain⟨hz,q⟩:=h
  have fin:∀ t' k,EP X pins O Q (.str (Q7 z lo hi) t') { s with toks:=k }:=fun t' k=>⟨.str _,H,I.tok k,⟨_,rfl⟩,q⟩
  refine⟨"str",_,F.slot_str_getitem.lookup,J8 _ _ _,?_⟩
  cases pl with
  | none =>
   cases pu with
   | none=>exact Hj (l:=none) (u:=none) (st:=none) hs rfl (K2 ⟨Bz (Ku z _ _) hz,fin⟩)
   | int j uj=>exact Hj (l:=none) (u:=some (j,uj)) (st:=none) hs rfl (K2 ⟨Bz (Ku z _ _) hz,fin⟩)
  | int i ui =>
   cases pu with
   | none=>exact Hj (l:=some (i,ui)) (u:=none) (st:=none) hs rfl (K2 ⟨Bz (Ku z _ _) hz,fin⟩)
   | int j uj=>exact Hj (l:=some (i,ui)) (u:=some (j,uj)) (st:=none) hs rfl (K2 ⟨Bz (Ku z _ _) hz,fin⟩)
 | _=>exact Bq h
noncomputable def k0d:List V->Hp->VK->Prop:=fun xs H Q=>match xs with
 | [.int i]=>Q (.int i) H
 | [.bl k]=>Q (.int (if k then 1 else 0)) H
 | [.str z]=>∃ n,Q3 z=some n/\z.length<=640/\Q (.int n) H
 | _=>False
theorem d5n:b0z X (.type "int") k0d:=by
 intro pins s O H xs us Q I r h
 obtain _ | ⟨zz,xs⟩:=xs
 .exact Bq h
 obtain rfl:xs = []:=by
  cases xs with
  | nil=>rfl
  | cons _ _=>cases zz <;> exact Bq h
 cases zz <;> first | exact Bq h | skip
 case int i => exact g2w pins s O H _ us Q I r (.inl ⟨i, rfl, h⟩)
 case bl k => exact g2w pins s O H _ us Q I r (.inr ⟨k, rfl, h⟩)
 case str z =>
  obtain⟨n,hn,hl,q⟩:=h
  obtain⟨u,rfl,t,rfl⟩:=vals1 r
  exact W.KIN.call_text hn hl ⟨.int n,H,I.tok _,⟨_,rfl⟩,q⟩
noncomputable def k0f:List V->Hp->VK->Prop:=fun xs H Q=>match xs with
 | [.int i]=>i.natAbs.log2 < 1920/\Q (.str (toString i)) H
 | _=>False
theorem b9p:b0z X (.type "str") k0f:=g2x.weak fun xs H Q h=>by
 obtain _ | ⟨zz,xs⟩:=xs
 .exact Bq h
 obtain⟨i,rfl⟩:∃ i,zz = .int i:=by cases zz <;> first | exact⟨_,rfl⟩ | exact Bq h
 obtain rfl:xs = []:=by
  cases xs with
  | nil=>rfl
  | cons _ _=>exact Bq h
 obtain⟨a,b⟩:=h
 .exact⟨i,rfl,a,b⟩
def tFmt(te:TE):TE:=fun O H Q=>te O H fun x H1=>match x with
 | .int i=>i.natAbs.log2 < 1920/\Q (.str (toString i)) H1
 | .str y=>y.length<=Cb/\Q (.str y) H1
 | _=>False
theorem c3w(he:PE X e te):PE X (.FormattedValue e (-1) none pos) (tFmt te):=by
 intro pins s O H Q I h
 refine wpAny_FormattedValue_plain (c9u (he pins s O H _ I h) fun v s1 x H1 I1 r1 q1=>?_)
 cases x with
 | int i =>
  obtain⟨t,rfl⟩:=r1
  exact wpAny_formatField_int q1.1 ⟨.str (toString i),H1,I1.tok _,⟨_,rfl⟩,q1.2⟩
 | str y =>
  obtain⟨t,rfl⟩:=r1
  exact wpAny_formatField_str (hx:=q1.1) ⟨.str y,H1,I1,⟨_,rfl⟩,q1.2⟩ ⟨.str y,H1,I1.tok _,⟨_,rfl⟩,q1.2⟩
 | _=>exact Bq q1
noncomputable abbrev TJ:=Str->St->Hp->(Str->Hp->Prop)->Prop
def PJ(X:Cx)(es:List Expr)(t:TJ):Prop:=∀ (pins:List (Addr×Obj)) (acc:Str) (s:Bx) (O:St) (H:Hp) (Q:Str->Hp->Prop) (Q':Str->Bx->Prop),Inv X pins O H s->t acc O H Q->(∀ out H1 s1,Inv X pins O H1 s1->Q out H1->Q' out s1) ->
 Joins (model X.prog X.w) X.A X.xe (evalEach es X.env) acc Q' s
noncomputable def k0g:TJ:=fun acc _ H Q=>Q acc H
def j4b(te:TE)(tr:TJ):TJ:=fun acc O H Q=>te O H fun x H1=>match x with
 | .str y=>acc.length+y.length<=Cb/\tr (acc++y) O H1 Q
 | _=>False
theorem d9h:PJ X [] k0g:=fun pins acc s O H Q Q' I h k=>k acc H s I h
variable {es:List Expr}
theorem a4i{tr:TJ}(he:PE X e te)(hr:PJ X es tr)(hs:evalEach (e :: es) X.env=eval e X.env :: evalEach es X.env:=by rfl):PJ X (e :: es) (j4b te tr):=by
 intro pins acc s O H Q Q' I h k
 rw [hs]
 refine c9u (he pins s O H _ I h) fun v s1 x H1 I1 r1 q1=>?_
 cases x with
 | str y =>
  obtain⟨t,rfl⟩:=r1
  exact⟨y,t,rfl,by rw [E6]; exact q1.1,hr pins (acc++y) s1 O H1 Q Q' I1 q1.2 k⟩
 | _=>exact Bq q1
def k0h(tj:TJ):TE:=fun O H Q=>tj F6 O H fun out H1=>out.length<=Cb/\Q (.str out) H1
theorem b9q{Ax Ay:Expr}{tj:TJ}(h:PJ X (Ax :: Ay :: es) tj):PE X (.JoinedStr (Ax :: Ay :: es) pos) (k0h tj):=by
 intro pins s O H Q I hq
 exact wpAny_JoinedStr (h pins F6 s O H _ _ I hq fun out H1 s1 I1 q=>⟨q.1,.str out,H1,I1.tok _,⟨_,rfl⟩,q.2⟩)
noncomputable def b9r(x y:Str):List Str:=if (decide (x.length < y.length) || decide (E9 x < E9 y))=true then [x] else if (Eb x y 0 x.length (x.length+1)).isEmpty=true then [x] else Kx x (Eb x y 0 x.length (x.length+1)) y.length
noncomputable def j4c:V->List V->Hp->VK->Prop:=fun x vs H Q=>match x,vs with
 | .str z,[.str y]=>(y.length == 0)=false/\z.length<=Cb/\(b9r z y).length<=Cb/\New H (.lst ((b9r z y).map V.str)) Q ⟨⟩
 | _,_=>False
theorem g3t:∀ (l:List Str) (k:Nat),Vals (l.map V.str) (strsFrom k l)
 | [],_=>.nil
 | x :: l,k=>.cons ⟨_,rfl⟩ (g3t l (k+1))
theorem f1n:MtR X "str.split" j4c:=by
 intro pins s O H x xs v us Q I rx rs h
 obtain⟨z,rfl⟩:∃ z,x = .str z:=by cases x <;> first | exact⟨_,rfl⟩ | exact Bq h
 obtain _ | ⟨zz,xs⟩:=xs
 .exact Bq h
 obtain⟨y,rfl⟩:∃ y,zz = .str y:=by cases zz <;> first | exact⟨_,rfl⟩ | exact Bq h
 obtain rfl:xs = []:=by
  cases xs with
  | nil=>rfl
  | cons _ _=>exact Bq h
 obtain⟨hy,hz,hn,q⟩:=h
 .obtain⟨t,rfl⟩:=rx
  obtain⟨u,rfl,t',rfl⟩:=vals1 rs
  have fr:H s.heap.objs.size=none:=I.hok.fresh (C0 _)
  have itself:b9r z y = [z]->EP X pins O Q (.ref s.heap.objs.size) { s with heap:=s.heap.push { cls:=.type "list",data:=.seq [J9 z t].toArray } }:=fun e=>by
   rw [e] at q
   exact⟨.ref _,_,I.laid (o:=.lst ([z].map V.str)) (t':=s.toks) (fun b u e=>Bt _ e) (C0 _) ⟨show 1<=Cb by decide,[J9 z t],0,.cons ⟨t,rfl⟩ .nil,Cg _ rfl⟩,rfl,q.raw _ fr⟩
  by_cases h1:(decide (z.length < y.length) || decide (E9 z < E9 y))=true
  .exact Ia El (J8 _ _ _) Lm (Kw _ _) (meets_str_split_cannot_occur z y t t' h1) (itself (by unfold b9r; rw [if_pos h1]))
  .have h1':=Ks.mpr h1
   by_cases h2:(Eb z y 0 z.length (z.length+1)).isEmpty=true
   .exact Ia El (J8 _ _ _) Lm (Kw _ _) (meets_str_split_not_found z y t t' h1' hy h2) (itself (by unfold b9r; rw [if_neg h1,if_pos h2]))
   .have h2':=Ks.mpr h2
    have e:b9r z y=Kx z (Eb z y 0 z.length (z.length+1)) y.length:=by unfold b9r; rw [if_neg h1,if_neg h2]
    refine Ia El (J8 _ _ _) Lm (Kw _ _) (meets_str_split_sep z y t t' h1' hy h2' hz (by rw [<- e]; exact hn)) ?_
    rw [<- e]
    refine⟨.ref _,_,I.laid (o:=.lst ((b9r z y).map V.str)) (t':=s.toks+(b9r z y).length) (fun b u e=>Bt _ e) (C0 _) ⟨by rw [Bv]; exact hn,strsFrom s.toks (b9r z y),0,g3t _ _,Cg _ rfl⟩,rfl,q.raw _ fr⟩
noncomputable def i7f(z y:Str):Bool:=!(Eb z y 0 z.length 1).isEmpty
def j8n(neg:Bool):R2:=fun x y H Q=>match y with
 | .str z=>(match x with
  | .str y=>Q (.bl (i7f z y != neg)) H
  | _=>False)
 | .ref p=>(match H p with
  | some (.lst xs)=>c0s x=true/\xs.all c0s=true/\Q (.bl (inV x xs != neg)) H
  | some (.tup xs)=>c0s x=true/\xs.all c0s=true/\Q (.bl (inV x xs != neg)) H
  | _=>False)
 | _=>False
theorem g3u:OpR X (Dl .In) (j8n false):=by
 intro pins s O H x y v u Q I rx ry h
 cases y with
 | str z =>
  cases x with
  | str y =>
   have h:Q (.bl (i7f z y != false)) H:=h
   rw [Mc] at h
   exact h4z pins s O H _ _ v u Q I rx ry ⟨y,z,rfl,rfl,h⟩
  | _=>exact Bq h
 | ref p =>
  have h:(match H p with
   | some (.lst xs)=>c0s x=true/\xs.all c0s=true/\Q (.bl (inV x xs != false)) H
   | some (.tup xs)=>c0s x=true/\xs.all c0s=true/\Q (.bl (inV x xs != false)) H
   | _=>False):=h
  split at h
  .rename_i xs e
   rw [Mc] at h
   exact g3d pins s O H _ _ v u Q I rx ry ⟨p,xs,rfl,.inl (SqL.of e),h.1,h.2.1,by simpa using h.2.2⟩
  .rename_i xs e
   rw [Mc] at h
   exact g3d pins s O H _ _ v u Q I rx ry ⟨p,xs,rfl,.inr (SqT.of e),h.1,h.2.1,by simpa using h.2.2⟩
  .exact h.elim
 | _=>exact Bq h
theorem d0j:OpR X (Dl .NotIn) (j8n true):=by
 intro pins s O H x y v u Q I rx ry h
 cases y with
 | str z =>
  cases x with
  | str y =>
   have h:Q (.bl (i7f z y != true)) H:=h
   rw [J7] at h
   exact g3e pins s O H _ _ v u Q I rx ry ⟨y,z,rfl,rfl,h⟩
  | _=>exact Bq h
 | ref p =>
  have h:(match H p with
   | some (.lst xs)=>c0s x=true/\xs.all c0s=true/\Q (.bl (inV x xs != true)) H
   | some (.tup xs)=>c0s x=true/\xs.all c0s=true/\Q (.bl (inV x xs != true)) H
   | _=>False):=h
  split at h
  .rename_i xs e
   rw [J7] at h
   exact d8y pins s O H _ _ v u Q I rx ry ⟨p,xs,rfl,.inl (SqL.of e),h.1,h.2.1,by simpa using h.2.2⟩
  .rename_i xs e
   rw [J7] at h
   exact d8y pins s O H _ _ v u Q I rx ry ⟨p,xs,rfl,.inr (SqT.of e),h.1,h.2.1,by simpa using h.2.2⟩
  .exact h.elim
 | _=>exact Bq h
end
def Wr(H:Hp)(a:Addr)(o:HO)(k:Hp->Prop)(_:Tag k):Prop:=∀ H1,a2j a H H1->H1 a=some o->k H1
section
variable {X:Cx}{e o value:Expr}{f m x:Str}{pos pos' apos:Pos}{ta tv:TE}{t:TA}{C:Addr}{es:List Expr}
def h6g(K:Bw)(ta:TE)(f:Str):TE:=fun O H Q=>ta O H fun x H1=>match x with
 | .ref a=>(match H1 a with
  | some (.ins C dx fs)=>Cls K C/\a2i K C f/\(match fs.lookup f with
   | some v=>Q v H1
   | none=>False)
  | _=>False)
 | _=>False
theorem i7g(he:PE X e ta)(hb:Fb e f X.env (eval e X.env)=eval e X.env):PE X (.Attribute e f pos) (h6g X.K ta f):=by
 intro pins s O H Q I h
 refine (j2i he hb) pins s O H Q I ?_
 unfold k3g
 unfold h6g at h
 have q:(fun (x:V) (H1:Hp)=>(match x with
   | .ref a=>(match H1 a with
    | some (.ins C dx fs)=>Cls X.K C/\a2i X.K C f/\(match fs.lookup f with
     | some v=>Q v H1
     | none=>False)
    | _=>False)
   | _=>False:Prop))=fun x H1=>∃ a C dx fs v,x = .ref a/\H1 a=some (.ins C dx fs)/\Cls X.K C/\a2i X.K C f/\fs.lookup f=some v/\Q v H1:=by
  funext x H1
  refine propext ⟨fun z=>?_,fun⟨a,C,dx,fs,v,e1,e2,c,n,l,q⟩=>?_⟩
  .cases x with
   | ref a =>
    dsimp only at z
    split at z
    .rename_i C dx fs e1
     obtain⟨c,n,z⟩:=z
     split at z
     .rename_i v e2
      exact⟨a,C,dx,fs,v,rfl,e1,c,n,e2,z⟩
     .exact z.elim
    .exact z.elim
   | _=>exact Bq z
  .subst e1
   dsimp only
   rw [e2]
   dsimp only
   rw [l]
   exact⟨c,n,q⟩
 rw [q] at h
 exact h
def i7h(K:Bw)(ta tv:TE)(f:Str):TS:=fun D O H=>tv O H fun y H1=>ta O H1 fun x H2=>match x with
 | .ref a=>(match H2 a with
  | some (.ins C dx fs)=>Cls K C/\a2i K C f/\fs.length < 1000/\Wr H2 a (.ins C dx (f1l f y fs)) (D.nx O) ⟨⟩
  | _=>False)
 | _=>False
theorem i7i(ha:PE X o ta)(hv:PE X value tv)(hs:J3 value (some (.Attribute o f pos')) pos.line X.env=pure false):PS X (.Assign [.Attribute o f pos'] value pos) (i7h X.K ta tv f):=by
 intro pins s O H D I h
 refine plainObj_wpAny_Assign_Attribute (c9u (hv pins s O H _ I h) fun u s1 y H1 I1 ry q=>c9u (ha pins s1 O H1 _ I1 q) fun ov s2 x H2 I2 rx z=>?_) hs
 cases x with
 | ref a =>
  obtain rfl:ov=Do a:=rx
  dsimp only at z
  split at z
  .rename_i C dx fs e1
   obtain⟨c,n,l,k⟩:=z
   exact h1r I2 e1 c n l ry fun s3 I3=>⟨O,_,I3,k _ a2j.upd a2v⟩
  .exact z.elim
 | _=>exact Bq z
end
def a8r(C:Addr)(m:Str)(sp:Sp)(dvs:List V)(E:XK)(ta:TE)(t:TA):TE:=fun O H Q=>ta O H fun x H1=>match x with
 | .ref a=>(match H1 a with
  | some (.ins C' dx fs)=>C'=C/\fs.lookup m=none/\t O H1 fun vs H2=>sp (x :: (vs++dvs)) H2 Q E
  | _=>False)
 | _=>False
variable {v:V}
section
variable {X:Cx}{CX:CXT}{k:Nat}{f C:Addr}{fd:C8}{ps:List Str}{sp:Sp}{dvs:List V}{ds:List Br}{E:XK}{x m:Str}{p pos apos:Pos}{e o:Expr}{es:List Expr}{ta:TE}{t:TA}
theorem a4r{pl:Sem Bool}(he:PE X o ta)(c:Cls X.K C)(hm:Meth X.K C m f)(F:a1j X.prog X.w X.K X.mg X.base CX k f fd ps sp)(hr:b2u k X.A)(hb:Binds X.K fd ps ds)(hd:Vals dvs ds)(hx:Passes CX X E)(ha:PA X (e :: es) t)
  (hst:Cs (e :: es) X.env=(false,eval e X.env) :: Cs es X.env:=by rfl) (hpl:(Ew pos (Cs es X.env)).any (·.1)=false:=by rfl)
  (ht:eval (.Call (.Attribute o m apos) (e :: es) [] pos) X.env=(do
   let ov <- eval o X.env
   Pf apos.atName
   let (f,first) <- holding [ov] (On ov m pl)
   Nc pos f first (Ew pos (Cs (e :: es) X.env)) (Gc pos (Et [] X.env))):=by rfl) :
  PE X (.Call (.Attribute o m apos) (e :: es) [] pos) (a8r C m sp dvs E ta t):=by
 intro pins s O H Q I h
 refine Ro (pl:=pl) (c9u (he pins s O H _ I h) fun u s1 x H1 I1 rx z=>?_) ht
 cases x with
 | ref a =>
  obtain rfl:u=Do a:=rx
  dsimp only at z
  split at z
  .rename_i C' dx fs ea
   obtain⟨rfl,l,q⟩:=z
   refine f7u I1 ea c hm l ?_
   refine Lh (first:=[.ref a]) (h₀:=X.base) I.ok.mod.kin hm.kp (h1j (ha pos pins s1 O H1 _ I1 q) fun us s2 vs H2 I2 r q2=>⟨I2.kIn,?_⟩) hst hpl
   exact g9l (us:=.ref a :: us) (vs:=.ref a :: vs) F hr hb hd hx I2 (.cons rfl r) q2
  .exact z.elim
 | _=>exact Bq z
theorem a2k{pl:Sem Bool}(he:PE X o ta)(c:Cls X.K C)(hm:Meth X.K C m f)(F:a1j X.prog X.w X.K X.mg X.base CX k f fd ps sp)(hr:b2u k X.A)(hb:Binds X.K fd ps ds)(hd:Vals dvs ds)(hx:Passes CX X E)
  (ht:eval (.Call (.Attribute o m apos) [] [] pos) X.env=(do
   let ov <- eval o X.env
   Pf apos.atName
   let (f,first) <- holding [ov] (On ov m pl)
   Nc pos f first (Ew pos (Cs [] X.env)) (Gc pos (Et [] X.env))):=by rfl) :
  PE X (.Call (.Attribute o m apos) [] [] pos) (a8r C m sp dvs E ta f7v):=by
 intro pins s O H Q I h
 refine Ro (pl:=pl) (c9u (he pins s O H _ I h) fun u s1 x H1 I1 rx z=>?_) ht
 cases x with
 | ref a =>
  obtain rfl:u=Do a:=rx
  dsimp only at z
  split at z
  .rename_i C' dx fs ea
   obtain⟨rfl,l,q⟩:=z
   refine f7u I1 ea c hm l ?_
   exact W.callWith_K0 (first:=[.ref a]) I1.kIn hm.kp (g9l (us:=[.ref a]) (vs:=[.ref a]) F hr hb hd hx I1 (.cons rfl .nil) q)
  .exact z.elim
 | _=>exact Bq z
def j4d(H:Hp)(C:Addr)(k:Addr->Hp->Prop)(_:Tag k):Prop:=∀ x dx H1,H x=none->H dx=none->dx≠x->Same H H1->H1 dx=some (.own x)->H1 x=some (.ins C dx [])->k x H1
def i7j(x:Addr)(Q:VK):VK:=fun v H2=>v = .non/\Q (.ref x) H2
theorem asNew{x:Addr}{H2:Hp}:i7j x Q v H2=(v = .non/\Q (.ref x) H2):=rfl
def h6h(C:Addr)(sp:Sp)(dvs:List V)(E:XK)(t:TA):TE:=fun O H Q=>t O H fun vs H1=>j4d H1 C (fun x H2=>sp (.ref x :: (vs++dvs)) H2 (i7j x Q) E) ⟨⟩
theorem j4d.raw{k:Addr->Hp->Prop}{t:Tag k}(h:j4d H C k t):∀ x dx,H x=none->H dx=none->dx≠x->k x (upd (upd H dx (.own x)) x (.ins C dx [])):=fun x dx ex ed ne =>
 h x dx _ ex ed ne ((Same.upd ed).trans (Same.upd (by rw [a3w ne.symm]; exact ex))) (by rw [a3w ne]; exact a2v) a2v
theorem c3y(M:Mk X.K C f)(F:a1j X.prog X.w X.K X.mg X.base CX k f fd ps sp)(hr:b2u (k+1) X.A)(hg:Gl X x)(hm:X.mg x=some (.ref C))(hb:Binds X.K fd ps ds)(hd:Vals dvs ds)(hx:Passes CX X E)
  (ha:PA X (e :: es) t) (hdb:(x == ("__debug__":Str))=false:=by decide) (he:Cs (e :: es) X.env=(false,eval e X.env) :: Cs es X.env:=by rfl) (hpl:(Ew pos (Cs es X.env)).any (·.1)=false:=by rfl) :
  PE X (.Call (.Name x p) (e :: es) [] pos) (h6h C sp dvs E t):=by
 intro pins s O H Q I h
 refine G7 (f9m I hg hm ?_ hdb)
 refine Lh (h₀:=X.base) I.ok.mod.kin M.kp (h1j (ha pos pins s O H _ I h) fun us s1 vs H1 I1 r q=>⟨I1.kIn,?_⟩) he hpl
 exact g9m M F hr hb hd hx I1 r q.raw
theorem h6i(M:Mk X.K C f)(F:a1j X.prog X.w X.K X.mg X.base CX k f fd ps sp)(hr:b2u (k+1) X.A)(hg:Gl X x)(hm:X.mg x=some (.ref C))(hb:Binds X.K fd ps ds)(hd:Vals dvs ds)(hx:Passes CX X E)
  (hdb:(x == ("__debug__":Str))=false:=by decide):PE X (.Call (.Name x p) [] [] pos) (h6h C sp dvs E f7v):=by
 intro pins s O H Q I h
 refine G7 (f9m I hg hm ?_ hdb)
 exact W.callWith_K0 I.kIn M.kp (g9m (us:=[]) M F hr hb hd hx I .nil (j4d.raw (t:=⟨⟩) h))
end
def j8o(K:Bw)(ta tv:TE)(rd:V->V->Hp->VK->Prop)(f:Str):TS:=fun D O H=>ta O H fun x H1=>match x with
 | .ref a=>(match H1 a with
  | some (.ins C dx fs)=>Cls K C/\a2i K C f/\(match fs.lookup f with
   | some v=>tv O H1 fun y H2=>rd v y H2 fun z H3=>(match H3 a with
    | some (.ins C' dx' fs')=>C'=C/\fs'.length < 1000/\Wr H3 a (.ins C dx' (f1l f z fs')) (D.nx O) ⟨⟩
    | _=>False)
   | none=>False)
  | _=>False)
 | _=>False
section
variable {X:Cx}{o e value:Expr}{f:Str}{pos pos' tpos:Pos}{ta tv:TE}
end
noncomputable def k4e(g:Int->Int->Int):V->V->Hp->VK->Prop:=fun x y H Q=>match x,y with
 | .int i,.int j=>Q (.int (g i j)) H
 | _,_=>False
def j4e(i:Nat)(te:TE)(ti:TIp):TS:=fun D O H=>match O[i]? with
 | some (some x)=>te O H fun y H1=>ti x y H1 fun z H2=>D.nx (O.set i (some z)) H2
 | _=>False
section
variable {X:Cx}{pos:Pos}
theorem i7k:k3h X .Add (k4e fun i j=>i+j):=by
 intro pins s O H x y u v Q I rx ry h
 cases x <;> cases y <;> try exact Bq h
 exact j2j pins s O H _ _ u v Q I rx ry ⟨_,_,rfl,rfl,h⟩
theorem i7l:PIp X .Add (k4e fun i j=>i+j):=fun pins s O H x y u v Q I rx ry h=>i7k pins s O H x y u v Q I rx ry h
theorem i7m{x:Str}{op:Nj}{ti:TIp}{pos':Pos}(hN:X.N.Nodup)(hi:X.N[i]? = some x)(hx:Loc X.env.scope x)(he:PE X e te)(ho:PIp X op ti)(hf:X.fn x=true\/X.env.scope.names.lookup x=some .local:=by first | exact .inl rfl | exact .inr rfl | assumption) :
  PS X (.AugAssign (.Name x pos') op e pos) (j4e i te ti):=by
 intro pins s O H D I h
 refine j1x hN hi hx he ho hf pins s O H D I ?_
 unfold j4e at h
 split at h
 .rename_i v e1
  exact⟨v,e1,h⟩
 .exact h.elim
end
variable {f:Str}{r:List (Str×V)}
theorem lookup_same:Gg f ((f,v) :: r)=some v:=by rw [G6,beq_self_eq_true]
theorem j4f{v x:V}:f1l f v ((f,x) :: r)=(f,v) :: r:=by rw [f1l,if_pos rfl]
theorem j8p:f1l f v [] = [(f,v)]:=rfl
theorem d9i{g:Str}(h:(f == g)=false):Gg f ((g,v) :: r)=r.lookup f:=by rw [G6,h]
theorem j0z{g:Str}{v x:V}(h:(f == g)=false):f1l f v ((g,x) :: r)=(g,x) :: f1l f v r:=by rw [f1l,if_neg fun e=>by rw [e,beq_self_eq_true] at h; exact Bool.noConfusion h]
theorem noxK{X:Cx}:X.nox.K=X.K:=rfl
structure j4g(k:Nat)(A:Ds):Prop where
 dp:A.depth+3*k+5 < Na
 un:A.units+16*k+200 < Im
theorem b2u.h{k:Nat}{A:Ds}(r:b2u k A):j4g k A:=⟨r.dp,r.un⟩
structure FnOkH(P:Dc)(w:E2)(K:Bw)(mg:Str->Option Br)(base:Heap)(k:Nat)(f:Addr)(fd:C8)(ps:List Str)(sp:Sp):Prop where
 len:∀ vs H Q E,sp vs H Q E->vs.length=ps.length
 run:∀ (A:Ds) (outer:List Env) (s:Bx) (H:Hp) (args:Args) (us:List Br) (vs:List V) (Q:VK) (E:XK),j4g k A->i4m P w K mg base A outer s H->M3 s fd args (ps.zip us)->Vals vs us->sp vs H Q E ->
  J1 (model P w) A (.call (.ref f) args) (CR CX0 outer P w H s Q E) s
section
variable {X:Cx}{k:Nat}{f:Addr}{fd:C8}{ps:List Str}{sp:Sp}{dvs:List V}{ds:List Br}{x:Str}{p pos:Pos}{e:Expr}{es:List Expr}{t:TA}
end
open PySem.Builtin.Str (occurrences subAt partsBetween strSub)
noncomputable abbrev sg(x:Str):List Nat:=x.cps.toList
theorem c3z{x y:Str}(h:sg x=sg y):x=y:=Str.ext' (by
 have:=congrArg List.toArray h
 simpa using this)
theorem a3k(x y:Str):sg (x++y)=sg x++sg y:=by unfold sg; rw [Str.cps_append]; simp
theorem d0k(x:Str):(sg x).length=x.length:=by simp [Str.length]
theorem i4x{x:Str}{c i:Nat}:Nh x ⟨#[c]⟩ x.length i ↔ (sg x)[i]? = some c:=Nv x c i
theorem f2q{c:Nat}:(⟨#[c]⟩:Str).length=1:=rfl
theorem i4y(x:Str)(i j:Nat):sg (strSub x i j)=((sg x).drop i).take (j - i):=StrLaws.strSub_toList x i j
theorem i1s{x:Str}{c:Nat}{a b:List Nat}(hk:c < 128)(h:sg x=a++c :: b)(ha:c∉a)(hb:c∉b):b9r x ⟨#[c]⟩ = [⟨a.toArray⟩,⟨b.toArray⟩]:=by
 have hl:x.length=a.length+(b.length+1):=by rw [<- d0k,h]; simp
 have k1:¬ ((decide (x.length < (⟨#[c]⟩:Str).length) || decide (E9 x < E9 ⟨#[c]⟩))=true):=by
  have e:E9 ⟨#[c]⟩=1:=by
   unfold E9
   rw [if_pos (by simp; lia)]
  have g:1<=E9 x:=by
   unfold E9
   split
   .decide
   .split <;> decide
  rw [e,f2q]
  simp only [Ls,decide_eq_true_eq]
  lia
 have only:∀ i,Nh x ⟨#[c]⟩ x.length i->i=a.length:=by
  intro i hi
  have hi:=i4x.mp hi
  rw [h] at hi
  rcases Nat.lt_trichotomy i a.length with q | q | q
  .rw [Cm q] at hi
   exact absurd (Ca hi) ha
  .exact q
  .rw [Df (Jl q)] at hi
   obtain⟨j,hj⟩:∃ j,i - a.length=j+1:=⟨i - a.length - 1,by lia⟩
   rw [hj,D7] at hi
   exact absurd (Ca hi) hb
 have there:Nh x ⟨#[c]⟩ x.length a.length:=i4x.mpr (by rw [h,Df (C0 _),Nat.sub_self]; rfl)
 obtain⟨f,ch⟩:=StrLaws.occ_chain x ⟨#[c]⟩ (x.length+1)
 have ho:occurrences x ⟨#[c]⟩ 0 x.length (x.length+1) = [a.length]:=by
  rcases StrLaws.occ_head x ⟨#[c]⟩ (x.length+1) (by lia) with ⟨h0,hn⟩ | ⟨i,r,h0,hi,hn⟩
  .exact absurd there (hn _)
  .rw [h0] at ch ⊢
   have e:=only i hi
   subst e
   cases r with
   | nil=>rfl
   | cons j r =>
    obtain⟨_,_,q1,q2,_⟩:=ch
    have:=only j q2
    rw [f2q] at q1
    lia
 unfold b9r
 rw [if_neg k1,ho,if_neg (by simp)]
 simp only [partsBetween,Es,N6,Fd,Ex,List.zip_cons_cons,List.zip_nil_right,J4,and_true]
 constructor
 .refine c3z ?_
  rw [i4y,h]
  simp
 .refine c3z ?_
  rw [i4y,f2q,h,hl]
  have e:(a++c :: b).drop (a.length+1)=b:=by rw [List.drop_append]; simp
  rw [e,Ef (by lia)]
open PySem.NumText (AllDigits digitsVal digitsVal_snoc)
noncomputable def dg(n:Nat):List Nat:=(Ky 10 n).map Ma
theorem g9v(n:Nat):digitsVal (dg n)=n:=W.KIN.val_back n
theorem g6x(h:n < 10):dg n = [n+48]:=by
 have:∀ d,d < 10->dg d = [d+48]:=by decide
 exact this n h
theorem f2r{m c:Nat}(hm:0 < m)(hc:c < 10):dg (10*m+c)=dg m++[c+48]:=by
 have t:Ky 10 m++Ky 10 c=Ky 10 (10*m+c):=Nat.toDigits_append_toDigits (by decide) hm hc
 unfold dg
 rw [<- t,Co]
 have:=g6x hc
 unfold dg at this
 rw [this]
theorem h6j(n:Nat):dg n≠[]:=by
 by_cases h:n < 10
 .rw [g6x h]; simp
 .have e:n=10*(n / 10)+n % 10:=by lia
  rw [e,f2r (by lia) (by lia)]
  simp
theorem d3n(n:Nat):AllDigits (dg n):=by
 induction n using M5 with
 | _ n ih =>
  by_cases h:n < 10
  .rw [g6x h]
   intro c hc
   simp at hc
   lia
  .have e:n=10*(n / 10)+n % 10:=by lia
   rw [e,f2r (by lia) (by lia)]
   intro c hc
   rcases De.mp hc with q | q
   .exact ih (n / 10) (by lia) c q
   .simp at q
    lia
theorem k0i{n:Nat}(h:0 < n):∃ c r,dg n=c :: r/\c≠48:=by
 induction n using M5 with
 | _ n ih =>
  by_cases q:n < 10
  .exact⟨n+48,[],g6x q,by omega⟩
  .obtain⟨c,r,e,hc⟩:=ih (n / 10) (by omega) (by omega)
   have e2:n=10*(n / 10)+n % 10:=by omega
   refine⟨c,r++[n % 10+48],?_,hc⟩
   conv=>lhs; rw [e2]
   rw [f2r (by omega) (by omega),e]
   rfl
theorem i4z:∀ {ds:List Nat},AllDigits ds->digitsVal ds < 10 ^ ds.length:=by
 intro ds
 generalize hn:ds.length=n
 induction n generalizing ds with
 | zero=>intro _; rw [Fh.mp hn]; decide
 | succ n ih =>
  intro hd
  have hne:ds≠[]:=fun e=>by rw [e] at hn; cases hn
  have e:ds=ds.dropLast++[ds.getLast hne]:=(List.dropLast_concat_getLast hne).symm
  generalize ds.dropLast=cs at e
  generalize ds.getLast hne=c at e
  subst e
  have hc:=hd c (by simp)
  have:=ih (ds:=cs) (by simp at hn; exact hn) fun d hd'=>hd d (by simp [hd'])
  rw [digitsVal_snoc,L0]
  omega
noncomputable def txt(t:Int):List Nat:=if t < 0 then 45 :: dg t.natAbs else dg t.natAbs
theorem c9m(t:Int):sg (B0 (toString t))=txt t:=by
 unfold txt
 match t with
 | .ofNat m=>exact W.KIN.signs_num m
 | .negSucc m =>
  rw [if_pos (Int.negSucc_lt_zero m)]
  unfold sg
  rw [signs_ofString]
  show (("-"++Nat.repr (m+1)).toList.map Ma)=_
  rw [String.toList_append,Co,Nat.toList_repr]
  rfl
theorem d7g{x:Str}{t:Int}(h:sg x=txt t)(hl:x.length<=4300):Q3 x=some t:=by
 unfold txt at h
 split at h
 .rename_i ht
  have:=intText_neg h (d3n _) (h6j _) hl
  rw [g9v] at this
  rw [this]
  congr 1
  lia
 .rename_i ht
  have:=intText_digits (x:=x) (by rw [show x.cps.toList=sg x from rfl,h]; exact d3n _) (by rw [show x.cps.toList=sg x from rfl,h]; exact h6j _) hl
  rw [show x.cps.toList=sg x from rfl,h,g9v] at this
  rw [this]
  congr 1
  lia
theorem j4h(n:Nat):(dg n).length<=n.log2+1:=by
 induction n using M5 with
 | _ n ih =>
  by_cases h:n < 10
  .rw [g6x h]; simp
  .have e:n=10*(n / 10)+n % 10:=by lia
   have i:=ih (n / 10) (by lia)
   have k:(n / 10).log2+1<=n.log2:=by
    rw [Nat.le_log2 (by lia),L0]
    have:=Nat.log2_self_le (n:=n / 10) (by lia)
    lia
   have z:=f2r (m:=n / 10) (c:=n % 10) (by lia) (by lia)
   rw [<- e] at z
   rw [z]
   rw [C1]
   simp only [Cq,Jb]
   lia
theorem g6y(t:Int):(txt t).length<=t.natAbs.log2+2:=by
 have:=j4h t.natAbs
 unfold txt
 split
 .rw [Cq]; lia
 .lia
noncomputable def i1t(t b:Int):List Nat:=txt t++47 :: txt b
structure Good(x:List Nat)(t b:Int):Prop where
 eq:x=i1t t b
 pos:0 < b
 low:Cv t b=1
 l1:(dg t.natAbs).length<=9
 l2:(dg b.natAbs).length<=9
noncomputable def h6k(l:List Nat):Bool:=l.all (fun c=>decide (48<=c) && decide (c<=57)) && !l.isEmpty
theorem f9y{l:List Nat}:h6k l=true ↔ AllDigits l/\l≠[]:=by
 unfold h6k AllDigits
 simp
theorem i7n(c:Nat):i7f "0123456789" ⟨#[c]⟩=(decide (48<=c) && decide (c<=57)):=by
 unfold i7f
 rw [Ny]
 have e:(B0 "0123456789").cps.toList = [48,49,50,51,52,53,54,55,56,57]:=by decide +kernel
 rw [e]
 by_cases h:48<=c/\c<=57
 .rw [show (decide (48<=c) && decide (c<=57))=true by simp [h]]
  rw [decide_eq_true_eq]
  simp
  lia
 .rw [show (decide (48<=c) && decide (c<=57))=false by simp; lia]
  rw [decide_eq_false_iff_not]
  simp
  omega
theorem d3o{t:Int}{c:Nat}(h1:c≠45)(h2:c < 48\/57 < c):c∉txt t:=by
 unfold txt
 intro h
 split at h
 .rcases Db.mp h with q | q
  .exact h1 q
  .have:=d3n _ c q; lia
 .have:=d3n _ c h; lia
theorem j4i(t:Int):(txt t).length<=(dg t.natAbs).length+1:=by
 unfold txt
 split
 .rw [Cq]; exact C0 _
 .exact Jx _
theorem i5a(x:Str)(c:Nat):Hg x ⟨#[c]⟩=decide ((sg x)[0]? = some c):=by
 unfold Hg
 rw [Gv,Ec,decide_eq_true_eq,decide_eq_true_eq]
 exact Nv x c 0
theorem j4j{x:Str}{t:Int}(h:sg x=txt t):Hg x ⟨#[45]⟩=decide (t < 0):=by
 rw [i5a,h]
 unfold txt
 split
 .rename_i q
  simp [q]
 .rename_i q
  rw [decide_eq_false q,decide_eq_false_iff_not]
  intro e
  have:=d3n _ 45 (Ca e)
  omega
theorem i7o{x:Str}(h:i<=x.length):sg (Q7 x (some (i:Int)) none)=(sg x).drop i:=by
 rw [slice_from_eq (b:=(x.length:Int)) (by omega) (by omega) rfl]
 simp only [sg,Dy]
 rw [Ef]
 rw [Ev]
 have:=d0k x
 unfold sg at this
 omega
section
variable {X:Cx}
noncomputable def j4k(K:Bw):List V->Hp->VK->Prop:=fun xs H Q=>match xs with
 | [.ref p]=>(match H p with
  | some (.lst ys)=>New H (.tup ys) Q ⟨⟩
  | some (.tup ys)=>Q (.ref p) H
  | _=>False)
 | _=>False
theorem d5o:b0z X (.type "tuple") (j4k X.K):=f9t.weak fun xs H Q h=>by
 obtain _ | ⟨zz,xs⟩:=xs
 .exact Bq h
 obtain⟨p,rfl⟩:∃ p,zz = .ref p:=by cases zz <;> first | exact⟨_,rfl⟩ | exact Bq h
 obtain rfl:xs = []:=by
  cases xs with
  | nil=>rfl
  | cons _ _=>exact Bq h
 .unfold j4k at h
  dsimp only at h
  split at h
  .rename_i ys e
   exact⟨p,ys,rfl,.inl ⟨SqL.of e,h.raw⟩⟩
  .rename_i ys e
   exact⟨p,ys,rfl,.inr ⟨SqT.of e,h⟩⟩
  .exact h.elim
end
section
variable {X:Cx}
structure InsQ(K:Bw)(C:Addr):Prop where
 ha:Dk K (.ref C) "__class__"=some (some (.builtin "object.__class__"))
 hn:Ip K (.builtin "object.__class__") "__get__"=some (some (.builtin "getset_descriptor.__get__"))
 htk:Oq K (.builtin "object.__class__")=some true
 hm:Pu K C (.type "object")=some true
noncomputable def rIsI(K:Bw):List V->Hp->VK->Prop:=fun xs H Q=>match xs with
 | [.ref a,.ref D]=>(match H a with
  | some (.ins C dx fs)=>Cls K C/\InsQ K C/\(match W.kitOne K (.ref C) (.ref D) with
   | some b=>Q (.bl b) H
   | none=>False)
  | _=>False)
 | _=>False
end
section
variable {X:Cx}{pos:Pos}
noncomputable def k0j:List V->Hp->VK->Prop:=fun xs H Q=>match xs with
 | [.int i,.int j]=>(0 < j/\j < 1073741824)/\New H (.tup [.int (i / j),.int (i % j)]) Q ⟨⟩
 | _=>False
noncomputable def j4l:TGs:=fun vs O H Q=>match vs with
 | []=>Q O H
 | _=>False
def i5b(t:TG)(u:TGs):TGs:=fun vs O H Q=>match vs with
 | v :: r=>t v O H fun Aa H'=>u r Aa H' Q
 | _=>False
def j4m(n:Nat)(t:TGs):TG:=fun v O H Q=>match v with
 | .ref a=>(match H a with
  | some (.tup xs)=>xs.length=n/\t xs O H Q
  | _=>False)
 | _=>False
theorem d2z:PGs X [] j4l:=by
 intro pins s O H vs us Q I r h
 refine h4q pins s O H vs us Q I r ?_
 unfold j4l at h
 split at h
 .exact⟨rfl,h⟩
 .exact h.elim
variable {es:List Expr}
theorem a8s{t:TG}{u:TGs}(h1:PG X e t)(h2:PGs X es u)
  (hs:(Hf (e :: es) X.env).map (·.2)=assign e X.env :: (Hf es X.env).map (·.2):=by rfl):PGs X (e :: es) (i5b t u):=by
 intro pins s O H vs us Q I r h
 refine f9p h1 h2 hs pins s O H vs us Q I r ?_
 unfold i5b at h
 split at h
 .exact⟨_,_,rfl,h⟩
 .exact h.elim
theorem d7h{k:Nat}{t:TGs}(hc:X.calm=true)(h:PGs X es t)
  (hn:(Hf es X.env).length=n:=by rfl) (hst:(Hf es X.env).findIdx? (·.1)=none:=by rfl):PG X (.Tuple es k pos) (j4m n t):=by
 intro pins s O H v u Q I r hw
 refine i4j hc h hn hst pins s O H v u Q I r ?_
 unfold j4m at hw
 cases v with
 | ref a =>
  dsimp only at hw
  split at hw
  .rename_i xs e
   exact⟨a,xs,rfl,SqT.of e,hw.1,hw.2⟩
  .exact hw.elim
 | _=>exact Bq hw
end
def j4n(wi:TI)(tc:TT)(te:TE):TE:=fun O H Q=>wi O H fun J H1=>∀ D H2,H1 D=none->Same H1 H2->H2 D=some (.lst [])->g9u J tc te D O H2 Q ⟨⟩
section
variable {X:Cx}{scope:Fg}{x:Str}{pins:List (Addr×Obj)}{O:St}{elt iter cnd:Expr}{px pos:Pos}{wi:TI}{te:TE}{tc:TT}
theorem g9w(hi:PI X (.Name x px) iter wi)(hcnd:∀ cl C Ab Ag fp,PT (c0r X scope cl C Ab Ag fp x) cnd tc)(he:∀ cl C Ab Ag fp,PE (c0r X scope cl C Ab Ag fp x) elt te)(S:c5v X scope x)(hc:X.calm=true)
  (hs:∀ x,Ez iter X.env x=pure x:=by intro _; rfl):PE X (.ListComp elt [⟨.Name x px,iter,[cnd],0⟩] scope pos) (j4n wi tc te):=by
 intro pins s O H Q I h
 obtain⟨cl,hclos,hcl,hcl2⟩:=c5t (env:=X.env) (sc:=scope) fun y hy=>I.ok.has y (S.free _ hy rfl)
 rw [O7]
 refine Fw (use:=none) rfl hs hclos S.kind S.loc ?_
 refine thn (hi pins s O H _ I h) fun v s1 h1=>thn h1 fun itv s2 h2=>?_
 obtain⟨it,fp,tn,J,H2,e,I2,T,st2,f2,hW⟩:=h2
 subst e
 exact d3z (RR:=fun acc C=>Nb (model X.prog X.w) X.A X.xe none (EP X pins O Q) acc C) S hc (fun _ _ _ _ _=>.one (hcnd _ _ _ _ _)) he hcl hcl2 I2 T st2 f2 hW fun D C s' H' hm hI _ hq =>
  hm.elim fun m hn=>⟨m,hn,fun h' hs'=>⟨.ref D,H',hI h' hs',rfl,hq⟩⟩
end
theorem d5p{tc:TT}{H0 H:Hp}(p:V->Bool)(g:V->V)(n0:H0 D=none)(S:Same H0 H)(hD:H D=some (.lst []))(hS:SqL K H0 a xs)(hsz:xs.length<=Cb)
  (hc:∀ (i:Nat) x H' (Q':Bool->Hp->Prop),xs[i]? = some x->Same H0 H'->Q' (p x) H'->tc (some x :: O) H' Q')
  (he:∀ (i:Nat) x H' (Q':VK),xs[i]? = some x->p x=true->Same H0 H'->Q' (g x) H'->te (some x :: O) H' Q')
  (q:∀ H',Same H0 H'->H' D=some (.lst ((xs.filter p).map g))->Q (.ref D) H'):g9u (Itl K a) tc te D O H Q ⟨⟩:=by
 refine⟨xs.length,fun i ys H'=>Same H0 H'/\H' D=some (.lst ys)/\ys=((xs.take i).filter p).map g,⟨S,hD,by simp⟩,fun i ys H' hi w=>?_⟩
 obtain⟨S',h',e⟩:=w
 refine⟨h',?_⟩
 have e2:SqL K H' a xs:=S'.seq hS
 by_cases hlt:i < xs.length
 .have hyl:ys.length<=i:=by
   rw [e,Bv]
   exact Bz (Hl _ _) (by rw [D9]; lia)
  refine .inr ⟨hlt,⟨xs,xs[i],e2,by simp [hlt]⟩,by lia,fun x H2 y=>?_⟩
  obtain⟨e',y⟩:=y
  subst e'
  have hx:=y xs e2
  have et:xs.take (i+1)=xs.take i++[x]:=by rw [Cu,hx]; rfl
  refine hc i x _ _ hx S' ?_
  cases hp:p x with
  | true =>
   rw [if_pos rfl]
   refine he i x _ _ hx hp S' ⟨h',fun H3 s3 h3=>⟨S'.step n0 s3,h3,?_⟩⟩
   rw [et,Oy,Co,<- e,Gs,if_pos hp]
   rfl
  | false =>
   rw [if_neg Cd]
   refine⟨S',h',?_⟩
   rw [et,Oy,Co,<- e,Gs,if_neg (by rw [hp]; exact Cd)]
   simp
 .have ei:i=xs.length:=by lia
  subst ei
  refine .inl ⟨⟨xs,e2,C0 _⟩,q H' S' ?_⟩
  rw [h',e,Dg]
section
variable {X:Cx}{k:Nat}{f C:Addr}{fd:C8}{ps:List Str}{sp:Sp}{dvs:List V}{ds:List Br}{E:XK}{x m:Str}{p pos apos:Pos}{e o:Expr}{es:List Expr}{ta:TE}{t:TA}
end
noncomputable def rSl3:V->Option Int->Hp->VK->Prop:=fun x st H Q=>match x with
 | .ref a=>(match H a with
  | some (.lst xs)=>st≠some 0/\∀ ys:List V,ys.length<=xs.length->(∀ y∈ys,y∈xs)->New H (.lst ys) Q ⟨⟩
  | _=>False)
 | _=>False
def tSl3(te:TE)(tl th ts:TO):TE:=fun O H Q=>te O H fun x H1=>tl O H1 fun _ H2=>th O H2 fun _ H3=>ts O H3 fun st H4=>rSl3 x st H4 Q
section
variable {X:Cx}
end
section
variable {prog:Dc}{w:E2}{A:Ds}{E:Br->Bx->Prop}{s:Bx}
end
noncomputable def rSetM:V->V->V->Hp->(Hp->Prop)->Prop:=fun o i v H Q=>match o,i with
 | .ref p,.int k=>(match H p with
  | some (.lst xs)=>(0<=k/\k < xs.length)/\∀ H1,a2j p H H1->H1 p=some (.lst (xs.set k.toNat v))->Q H1
  | _=>False)
 | _,_=>False
theorem f9z{H0 H:Hp}(zs:List V)(hz:zs.length=xs.length)(n0:H0 D=none)(S:Same H0 H)(hD:H D=some (.lst []))(hS:SqL K H0 a xs)(hsz:xs.length<=Cb)
  (hs:∀ (i:Nat) x z H' (Q':VK),xs[i]? = some x->zs[i]? = some z->Same H0 H'->Q' z H'->te (some x :: O) H' Q') (q:∀ H',Same H0 H'->H' D=some (.lst zs)->Q (.ref D) H'):f0z (Itl K a) te D O H Q ⟨⟩:=by
 refine b1i (fun i ys H'=>Same H0 H'/\H' D=some (.lst ys)/\ys=zs.take i) ⟨S,hD,by simp⟩ hsz (fun i ys H' hi p=>?_) (fun i x ys H' hx p=>?_) (fun ys H' p=>?_)
 .refine⟨p.2.1,p.1.seq hS,?_⟩
  rw [p.2.2,D9]
  lia
 .have hi:i < zs.length:=by rw [hz]; exact (Bu.mp hx).1
  have hzi:zs[i]? = some zs[i]:=By hi
  refine hs i x _ H' _ hx hzi p.1 ⟨p.2.1,fun H3 s3 h3=>⟨p.1.step n0 s3,h3,?_⟩⟩
  rw [p.2.2,Cu,hzi]
  rfl
 .refine q H' p.1 ?_
  rw [p.2.1,p.2.2,<- hz,Dg]
section
variable {X:Cx}{pins:List (Addr×Obj)}{O:St}{H:Hp}{s:Bx}
theorem Inv.g0a{t':Nat}(I:Inv X pins O H s)(k:∀ b o,b∉fp->s.heap.get? b=some o->h'.get? b=some o)(hf:∀ b∈fp,f9q X pins H b):Inv X pins O H { s with heap:=h',toks:=t' }:=by
 have nit:∀ b u,H b=some u->b∉fp:=fun b u e z=>by rw [(hf b z).1] at e; cases e
 refine I.call' (s':={ s with heap:=h',toks:=t' }) (ch:=fp) rfl ⟨fun b o e n hb hx=>k b o hx e,fun b o e n hb hx=>⟨o.slots,k b o hx e⟩,fun _ _ _ n _=>n,fun b o e hx=>⟨o,k b o hx e⟩,fun _ _ q=>q,fun _ _ _ q=>q,fun _ ps q=>⟨#[],by rw [q]; simp⟩⟩ ?_ I.bare fun b hb=>⟨(hf b hb).2.2.2.1,(hf b hb).2.1,(hf b hb).2.2.2.2.1,(hf b hb).2.2.2.2.2⟩
 intro b u e
 refine (I.hok b u e).stay (fun c v hc q=>k c v ?_ q) (fun _ q=>q) fun _ _ q=>q
 rcases hc with z | z
 .rw [z]; exact nit b u e
 .exact nit c _ z
end
def ItB(b:Bool)(h:Heap)(it l:Addr)(i:Nat):Prop:=∃ o,h.get? it=some o/\o.cls = .type (cond b "list_iterator" "tuple_iterator")/\o.data = .fields #[.ref l,.int i 0]
def SqB(b:Bool)(h:Heap)(l:Addr)(items:Array Br):Prop:=∃ o,h.get? l=some o/\o.cls = .type (cond b "list" "tuple")/\∃ n,o.data = .seq items n
variable {l:Addr}
theorem ItB.at{b:Bool}{h h':Heap}(x:ItB b h it l i)(k:∀ o,h.get? it=some o->h'.get? it=some o):ItB b h' it l i:=let ⟨o,e,r⟩:=x; ⟨o,k o e,r⟩
variable {items:Array Br}
theorem SqB.at{b:Bool}{h h':Heap}(x:SqB b h l items)(k:∀ o,h.get? l=some o->h'.get? l=some o):SqB b h' l items:=let ⟨o,e,r⟩:=x; ⟨o,k o e,r⟩
variable {b1 b2:Bool}{l1 l2:Addr}
section
variable {prog:Dc}{w:E2}{A:Ds}{E:Br->Bx->Prop}{s:Bx}
variable {Q:Br->Bx->Prop}
theorem g6z{it t:Addr}{x:Br}(hit:s.heap.IsTupleIter it t i)(ht:s.heap.IsTuple t items)(hx:items[i]? = some x)
  (hQ:∀ h',h'.IsTupleIter it t (i+1)->E7 it s.heap h'->Q x { s with heap:=h' }):Ch (model prog w) A (Dj (.ref it)) Q E s:=by
 obtain⟨o,ho,hc,hd⟩:=id hit
 obtain⟨ol,hol,_,nl,hdl⟩:=ht
 unfold Dj
 refine Bp (En (name:=B0 "__next__") hit.typeIs Gm
  (Fe Gm hit.typeIs Mo ?_ (Mh _)))
 show Ch _ _ (field (.ref it) 0 >>= _) _ _ s
 refine Bp (E1 ho hd (x:=.ref t) rfl ?_)
 show Ch _ _ (if (Do t == Ge)=true then _ else _) _ _ s
 rw [if_neg (show ¬ ((Do t == Ge)=true) from Cd)]
 show Ch _ _ (field (.ref it) 1 >>= _) _ _ s
 refine Bp (E1 ho hd (x:=.int i 0) rfl ?_)
 show Ch _ _ (seqItems? (.ref t) >>= _) _ _ s
 refine Bp (Fz hol hdl ?_)
 simp only [Dy,hx]
 refine Bp (wpAny_setField ho hd (by simp) (Cf ⟨x,rfl,Cf (hQ _ ?_ (Lz ..))⟩))
 exact⟨_,Nk _ ho (Obj.isFreed_of_fields (Pk hd _)),(Obj.cls_mapFields ..).trans hc,by
  rw [Pk hd]; simp [Ke]⟩
theorem h2c{it t:Addr}(hh:A.handled=none)(hit:s.heap.IsTupleIter it t i)(ht:s.heap.IsTuple t items)(hx:items[i]? = none)
  (hE:∀ h' e,Lj it s.heap h'->(∃ o,h'.get? e=some o/\o.cls = .type "StopIteration")->E (.ref e) { s with heap:=h' }):Ch (model prog w) A (Dj (.ref it)) Q E s:=by
 obtain⟨o,ho,hc,hd⟩:=id hit
 obtain⟨ol,hol,_,nl,hdl⟩:=ht
 unfold Dj
 refine Bp (En (name:=B0 "__next__") hit.typeIs Gm
  (Fe Gm hit.typeIs Mo ?_ (Mh _)))
 show Ch _ _ (field (.ref it) 0 >>= _) _ _ s
 refine Bp (E1 ho hd (x:=.ref t) rfl ?_)
 show Ch _ _ (if (Do t == Ge)=true then _ else _) _ _ s
 rw [if_neg (show ¬ ((Do t == Ge)=true) from Cd)]
 show Ch _ _ (field (.ref it) 1 >>= _) _ _ s
 refine Bp (E1 ho hd (x:=.int i 0) rfl ?_)
 show Ch _ _ (seqItems? (.ref t) >>= _) _ _ s
 refine Bp (Fz hol hdl ?_)
 simp only [Dy,hx]
 refine Bp (N8 (Bp (wpAny_setField ho hd (by simp) ?_)))
 show Ch _ _ (newExc (.type "StopIteration") [] >>= _) _ _ _
 refine Bp ?_
 simp only [newExc,newTuple]
 refine Bp (Ey ?_ (by size_fits))
 refine Bp (m:=firstArgMember _ _) (wpAny_of_eq (a:=Ge) (by first | rfl | (simp only [firstArgMember]; rfl)) ?_)
 refine Ey ?_ (by size_fits)
 simp only [raiseNew]
 refine Bp (wpAny_handled ?_)
 first | rw [show A.in1.handled=none from hh] | rw [hh]
 refine Bp (Cf (wpAny_throw ?_))
 exact hE _ _ (((Lz ..).extBut.push _).push _) ⟨_,Cg _ rfl,rfl⟩
theorem g7a{b:Bool}{x:Br}(hit:ItB b s.heap it l i)(hl:SqB b s.heap l items)(hx:items[i]? = some x)
  (hQ:∀ h',ItB b h' it l (i+1)->E7 it s.heap h'->Q x { s with heap:=h' }):Ch (model prog w) A (Dj (.ref it)) Q E s:=by
 cases b with
 | true=>exact Pc hit hl hx hQ
 | false=>exact g6z hit hl hx hQ
theorem i5c{b:Bool}(hh:A.handled=none)(hit:ItB b s.heap it l i)(hl:SqB b s.heap l items)(hx:items[i]? = none)
  (hE:∀ h' e,Lj it s.heap h'->(∃ o,h'.get? e=some o/\o.cls = .type "StopIteration")->E (.ref e) { s with heap:=h' }):Ch (model prog w) A (Dj (.ref it)) Q E s:=by
 cases b with
 | true=>exact Pr hh hit hl hx hE
 | false=>exact h2c hh hit hl hx hE
noncomputable def itO(b:Bool)(l:Addr):Obj:={ cls:=.type (cond b "list_iterator" "tuple_iterator"),data:=.fields #[.ref l,.int 0 0] }
theorem j4o{b:Bool}(hl:SqB b s.heap l items)(hQ:Q (.ref s.heap.objs.size) { s with heap:=s.heap.push (itO b l) }):Ch (model prog w) A (Pg (.ref l)) Q E s:=by
 cases b with
 | true=>exact Gj hl hQ
 | false=>exact Qt hl hQ
variable {xs ys:Array Br}{Q:Option Br->Bx->Prop}
theorem h6l{z TI TO i1 i2 l1 l2:Addr}{k:Nat}{x y a b:Br}(D:Q5 z TI TO i1 i2 l1 l2)
  (hz:Kj s.heap z TI TO .none) (hTI:Hh s.heap TI (.ref i1) (.ref i2)) (hTO:Hh s.heap TO a b)
  (h1:ItB b1 s.heap i1 l1 k) (h2:ItB b2 s.heap i2 l2 k) (hl1:SqB b1 s.heap l1 xs) (hl2:SqB b2 s.heap l2 ys) (hx:xs[k]? = some x) (hy:ys[k]? = some y)
  (hQ:∀ h',Kj h' z TI TO (Ke s.heap.objs.size)->Hh h' TO x y->ItB b1 h' i1 l1 (k+1)->ItB b2 h' i2 l2 (k+1)->Hh h' s.heap.objs.size x y ->
   (∀ c o,c≠z->c≠TO->c≠i1->c≠i2->s.heap.get? c=some o->h'.get? c=some o)->Q (some (.ref s.heap.objs.size)) { s with heap:=h' }) :
  Ch (model prog w) A (Kf (.ref z)) Q E s:=by
 have hT:s.TypeIs (.ref z) "zip":=⟨_,hz,rfl⟩
 unfold Kf
 refine Bp (Le (En (name:=B0 "__next__") hT Jv (Fe Jv hT Re ?_ (Qn _))))
 show Ch _ _ (field (.ref z) 2 >>= _) _ _ _
 refine Bp (E1 hz rfl (x:=.bool false) rfl ?_)
 show Ch _ _ (field (.ref z) 3 >>= _) _ _ _
 refine Bp (E1 hz rfl (x:=.ref TI) rfl ?_)
 refine Bp (Fz hTI rfl ?_)
 show Ch _ _ (Dw (.ref z) >>= _) _ _ _
 refine Bp ?_
 unfold Dw
 refine Bp (E1 hz rfl (x:=.none) rfl (Cf ?_))
 simp only [if_true]
 refine Bp (N8 ?_)
 refine Bp (E1 hz rfl (x:=.ref TO) rfl ?_)
 refine Bp (Ea hz (by simp) fun g1 hz1 s1=>?_)
 replace hz1:Kj g1 z TI TO .ellipsis:=hz1
 refine Bp ?_
 simp only [Pz,Qd,Nq,Qp]
 refine Bp (Bp (Lb ?_))
 show Ch _ _ (Dj (.ref i1) >>= _) _ _ _
 refine Bp (g7a (h1.at fun o e=>s1.extBut _ _ D.i1z e) (hl1.at fun o e=>s1.extBut _ _ D.l1z e) hx fun g2 h12 s2=>Cf ?_)
 have j4p:Hh g2 TO a b:=s2.extBut _ _ D.TOi1 (s1.extBut _ _ D.TOz hTO)
 refine Bp (Fz j4p rfl ?_)
 refine Bp (Kc j4p fun g3 hTO3 s3=>?_)
 replace hTO3:Hh g3 TO x b:=hTO3
 refine Bp (Ml (Cf ?_))
 refine Bp (Bp (Lb ?_))
 show Ch _ _ (Dj (.ref i2) >>= _) _ _ _
 refine Bp (g7a (h2.at fun o e=>s3.extBut _ _ D.TOi2.symm (s2.extBut _ _ D.i12.symm (s1.extBut _ _ D.i2z e))) (hl2.at fun o e=>s3.extBut _ _ D.l2TO (s2.extBut _ _ D.l2i1 (s1.extBut _ _ D.l2z e))) hy fun g4 h24 s4=>Cf ?_)
 have k4f:Hh g4 TO x b:=s4.extBut _ _ D.TOi2 hTO3
 refine Bp (Fz k4f rfl ?_)
 refine Bp (Kc k4f fun g5 hTO5 s5=>?_)
 replace hTO5:Hh g5 TO x y:=hTO5
 refine Bp (Ml (Cf (Cf ?_)))
 refine Bp (Fz hTO5 rfl ?_)
 refine Bp (wpAny_newTuple ?_)
 have hsz:g5.objs.size=s.heap.objs.size:=by rw [s5.1,s4.1,s3.1,s2.1,s1.1]
 have hz5:Kj g5 z TI TO .ellipsis:=s5.extBut _ _ D.TOz.symm (s4.extBut _ _ D.i2z.symm (s3.extBut _ _ D.TOz.symm (s2.extBut _ _ D.i1z.symm hz1)))
 have h15:ItB b1 g5 i1 l1 (k+1):=h12.at fun o e=>s5.extBut _ _ D.TOi1.symm (s4.extBut _ _ D.i12 (s3.extBut _ _ D.TOi1.symm e))
 have h25:ItB b2 g5 i2 l2 (k+1):=h24.at fun o e=>s5.extBut _ _ D.TOi2.symm e
 have hzlt:z < g5.objs.size:=Cc hz5
 show Ch _ _ (Er (.ref z) (.ref g5.objs.size) >>= _) _ _ _
 refine Bp ?_
 unfold Er
 have hz6:Kj (g5.push { cls:=.type "tuple",data:=.seq #[x,y] }) z TI TO .ellipsis:=Bt _ hz5
 refine Bp (Ea hz6 (by simp) fun g7 hz7 s7=>?_)
 replace hz7:Kj g7 z TI TO (Ke g5.objs.size):=hz7
 refine Ea hz7 (by simp) fun g8 hz8 s8=>?_
 replace hz8:Kj g8 z TI TO (Ke g5.objs.size):=hz8
 have up:∀ c o,c≠z->g5.get? c=some o->g8.get? c=some o:=fun c o c1 e=>s8.extBut _ _ c1 (s7.extBut _ _ c1 (Bt _ e))
 have hT8:Hh g8 g5.objs.size x y:=s8.extBut _ _ (Gn hzlt) (s7.extBut _ _ (Gn hzlt) (Cg _ rfl))
 rw [hsz] at hz8 hT8
 refine Cf ⟨_,rfl,Cf ?_⟩
 show Q (some (.ref g5.objs.size)) _
 rw [hsz]
 exact hQ g8 hz8 (up _ _ D.TOz hTO5) (h15.at fun o e=>up _ o D.i1z e) (h25.at fun o e=>up _ o D.i2z e) hT8 fun c o c1 c2 c3 c4 e =>
  up c o c1 (s5.extBut _ _ c2 (s4.extBut _ _ c4 (s3.extBut _ _ c2 (s2.extBut _ _ c3 (s1.extBut _ _ c1 e)))))
theorem i1u{z TI TO i1 i2 l1 l2:Addr}{k:Nat}{a b:Br}(hh:A.handled=none)(D:Q5 z TI TO i1 i2 l1 l2)
  (hz:Kj s.heap z TI TO .none) (hTI:Hh s.heap TI (.ref i1) (.ref i2)) (hTO:Hh s.heap TO a b)
  (h1:ItB b1 s.heap i1 l1 k) (h2:ItB b2 s.heap i2 l2 k) (hl1:SqB b1 s.heap l1 xs) (hl2:SqB b2 s.heap l2 ys) (hend:xs[k]? = none\/ys[k]? = none)
  (hQ:∀ h',(∀ c o,c≠z->c≠TO->c≠i1->c≠i2->s.heap.get? c=some o->h'.get? c=some o)->Q none { s with heap:=h' }):Ch (model prog w) A (Kf (.ref z)) Q E s:=by
 have hT:s.TypeIs (.ref z) "zip":=⟨_,hz,rfl⟩
 unfold Kf
 have fin:∀ (h':Heap) (e:Addr),(∀ c o,c≠z->c≠TO->c≠i1->c≠i2->s.heap.get? c=some o->h'.get? c=some o)->(∃ o,h'.get? e=some o/\o.cls = .type "StopIteration") ->
   Ch (model prog w) A (isInstance (.ref e) (.type "StopIteration") >>= fun b=>if b=true then pure none else throw (.ref e)) Q E { s with heap:=h' }:=fun h' e hk he=>by
  obtain⟨o,ho,hc⟩:=he
  refine Bp (wpAny_isInstance (T:="StopIteration") (b:=true) ⟨o,ho,hc⟩ isSubtype_stop ?_)
  exact Cf (hQ _ hk)
 refine Bp (Le (En (name:=B0 "__next__") hT Jv (Fe Jv hT Re ?_ (Qn _))))
 show Ch _ _ (field (.ref z) 2 >>= _) _ _ _
 refine Bp (E1 hz rfl (x:=.bool false) rfl ?_)
 show Ch _ _ (field (.ref z) 3 >>= _) _ _ _
 refine Bp (E1 hz rfl (x:=.ref TI) rfl ?_)
 refine Bp (Fz hTI rfl ?_)
 show Ch _ _ (Dw (.ref z) >>= _) _ _ _
 refine Bp ?_
 unfold Dw
 refine Bp (E1 hz rfl (x:=.none) rfl (Cf ?_))
 simp only [if_true]
 refine Bp (N8 ?_)
 refine Bp (E1 hz rfl (x:=.ref TO) rfl ?_)
 refine Bp (Ea hz (by simp) fun g1 hz1 s1=>?_)
 replace hz1:Kj g1 z TI TO .ellipsis:=hz1
 refine Bp ?_
 simp only [Pz,Qd,Nq,Qp]
 refine Bp (Bp (Lb ?_))
 show Ch _ _ (Dj (.ref i1) >>= _) _ _ _
 cases hx:xs[k]? with
 | none =>
  refine Bp (i5c hh (h1.at fun o e=>s1.extBut _ _ D.i1z e) (hl1.at fun o e=>s1.extBut _ _ D.l1z e) hx fun g2 e s2 he=>?_)
  obtain⟨oe,hoe,hce⟩:=he
  have hz2:Kj g2 z TI TO .ellipsis:=s2 _ _ D.i1z.symm hz1
  have hez:e≠z:=fun x=>by subst x; rw [hz2] at hoe; cases hoe; simp at hce
  exact Ea hz2 (by simp) fun g3 _ s3=>fin g3 e (fun c o c1 _ c3 _ x=>s3.extBut _ _ c1 (s2 _ _ c3 (s1.extBut _ _ c1 x))) ⟨oe,s3.extBut _ _ hez hoe,hce⟩
 | some x =>
  have hy:ys[k]? = none:=by
   rcases hend with h | h
   .rw [hx] at h; cases h
   .exact h
  refine Bp (g7a (h1.at fun o e=>s1.extBut _ _ D.i1z e) (hl1.at fun o e=>s1.extBut _ _ D.l1z e) hx fun g2 h12 s2=>Cf ?_)
  have j4p:Hh g2 TO a b:=s2.extBut _ _ D.TOi1 (s1.extBut _ _ D.TOz hTO)
  refine Bp (Fz j4p rfl ?_)
  refine Bp (Kc j4p fun g3 hTO3 s3=>?_)
  refine Bp (Ml (Cf ?_))
  refine Bp (Bp (Lb ?_))
  show Ch _ _ (Dj (.ref i2) >>= _) _ _ _
  refine Bp (i5c hh (h2.at fun o e=>s3.extBut _ _ D.TOi2.symm (s2.extBut _ _ D.i12.symm (s1.extBut _ _ D.i2z e))) (hl2.at fun o e=>s3.extBut _ _ D.l2TO (s2.extBut _ _ D.l2i1 (s1.extBut _ _ D.l2z e))) hy fun g4 e s4 he=>?_)
  obtain⟨oe,hoe,hce⟩:=he
  have hz4:Kj g4 z TI TO .ellipsis:=s4 _ _ D.i2z.symm (s3.extBut _ _ D.TOz.symm (s2.extBut _ _ D.i1z.symm hz1))
  have hez:e≠z:=fun x=>by subst x; rw [hz4] at hoe; cases hoe; simp at hce
  exact Ea hz4 (by simp) fun g5 _ s5=>fin g5 e (fun c o c1 c2 c3 c4 x=>s5.extBut _ _ c1 (s4 _ _ c4 (s3.extBut _ _ c2 (s2.extBut _ _ c3 (s1.extBut _ _ c1 x))))) ⟨oe,s5.extBut _ _ hez hoe,hce⟩
noncomputable abbrev zB1(b1:Bool)(h:Heap)(l1:Addr):Heap:=h.push (itO b1 l1)
noncomputable abbrev zB2(b1 b2:Bool)(h:Heap)(l1 l2:Addr):Heap:=(zB1 b1 h l1).push (itO b2 l2)
noncomputable abbrev zB3(b1 b2:Bool)(h:Heap)(l1 l2:Addr):Heap:=(zB2 b1 b2 h l1 l2).push { cls:=.type "tuple",data:=.seq #[.ref h.objs.size,.ref (zB1 b1 h l1).objs.size] }
noncomputable abbrev zB4(b1 b2:Bool)(h:Heap)(l1 l2:Addr):Heap:=(zB3 b1 b2 h l1 l2).push { cls:=.type "tuple",data:=.seq #[.none,.none] }
noncomputable abbrev zB5(b1 b2:Bool)(h:Heap)(l1 l2:Addr):Heap:=(zB4 b1 b2 h l1 l2).push { cls:=.type "zip",data:=.fields #[.none,.bool false,.bool false,.ref (zB2 b1 b2 h l1 l2).objs.size,.ref (zB3 b1 b2 h l1 l2).objs.size] }
theorem h2d(b1 b2:Bool)(l1 l2:Addr)(xs ys:Array Br) :
  Meets (Pl.«zip.__new__» ⟨[.type "zip", .ref l1, .ref l2], []⟩) (fun _ R s => SqB b1 s.heap l1 xs ∧ SqB b2 s.heap l2 ys ∧
   R (.ok (.ret (.ref (zB4 b1 b2 s.heap l1 l2).objs.size))) { s with heap:=zB5 b1 b2 s.heap l1 l2 }) :=
 .of_wp fun prog w A R s h=>by
  obtain⟨hp,g,d,tk,os⟩:=s; obtain⟨hl1,hl2,h⟩:=h
  have hsub:=sub_zip
  have hL1:SqB b1 (Mz ⟨hp,g,d,tk,os⟩) l1 xs:=hl1
  have hL2:SqB b2 (Mz ⟨hp.push (itO b1 l1),g,d,tk,os⟩) l2 ys:=hl2.at fun o e=>Bt _ e
  wp_walk using j4o hL1,j4o hL2
  exact⟨_,rfl,h⟩
theorem i1v{Q:Br->Bx->Prop}(hl1:SqB b1 s.heap l1 xs)(hl2:SqB b2 s.heap l2 ys)
  (h:∀ h',Kj h' (s.heap.objs.size+4) (s.heap.objs.size+2) (s.heap.objs.size+3) .none->Hh h' (s.heap.objs.size+2) (.ref s.heap.objs.size) (.ref (s.heap.objs.size+1)) ->
   Hh h' (s.heap.objs.size+3) .none .none->ItB b1 h' s.heap.objs.size l1 0->ItB b2 h' (s.heap.objs.size+1) l2 0 ->
   (∀ c o,s.heap.get? c=some o->h'.get? c=some o)->Q (.ref (s.heap.objs.size+4)) { s with heap:=h' }) :
  Ch (model prog w) A (call (.type "zip") [.ref l1,.ref l2]) Q E s:=by
 refine callType_new F.called_zip (by decide) (F.typeCall_zip_2 _ _) (F.newCall_zip_2 _ _) (fun obj=>F.args_object_init_3 obj _ _) F.entry_zip_new
  (h2d b1 b2 l1 l2 xs ys) ⟨hl1,hl2,?_⟩
 have z1:(zB1 b1 s.heap l1).objs.size=s.heap.objs.size+1:=Gf ..
 have z2:(zB2 b1 b2 s.heap l1 l2).objs.size=s.heap.objs.size+2:=by rw [Gf,z1]
 have z3:(zB3 b1 b2 s.heap l1 l2).objs.size=s.heap.objs.size+3:=by rw [Gf,z2]
 have z4:(zB4 b1 b2 s.heap l1 l2).objs.size=s.heap.objs.size+4:=by rw [Gf,z3]
 have g5:(zB5 b1 b2 s.heap l1 l2).get? (zB4 b1 b2 s.heap l1 l2).objs.size=some _:=Cg _ rfl
 have g4:(zB5 b1 b2 s.heap l1 l2).get? (zB3 b1 b2 s.heap l1 l2).objs.size=some _:=Bt _ (Cg _ rfl)
 have g3:(zB5 b1 b2 s.heap l1 l2).get? (zB2 b1 b2 s.heap l1 l2).objs.size=some _:=Bt _ (Bt _ (Cg _ rfl))
 have g2:(zB5 b1 b2 s.heap l1 l2).get? (zB1 b1 s.heap l1).objs.size=some (itO b2 l2):=Bt _ (Bt _ (Bt _ (Cg _ rfl)))
 have g1:(zB5 b1 b2 s.heap l1 l2).get? s.heap.objs.size=some (itO b1 l1):=Bt _ (Bt _ (Bt _ (Bt _ (Cg _ rfl))))
 show _/\_
 rw [z2,z3,z4] at g5
 rw [z1,z2] at g3
 rw [z3] at g4
 rw [z1] at g2
 rw [z4]
 exact⟨⟨_,g5,rfl⟩,h _ g5 g3 g4 ⟨_,g1,rfl,rfl⟩ ⟨_,g2,rfl,rfl⟩ fun c o x =>
  Bt _ (Bt _ (Bt _ (Bt _ (Bt _ x))))⟩
end
def SqK(b:Bool)(K:Bw)(H:Hp)(l:Addr)(xs:List V):Prop:=match b with
 | true=>SqL K H l xs
 | false=>SqT K H l xs
variable {pins:List (Addr×Obj)}
theorem Inv.j1a{X:Cx}{s:Bx}{b:Bool}(I:Inv X pins O H s)(h:SqK b X.K H l xs):∃ its:List Br,Vals xs its/\SqB b s.heap l its.toArray/\xs.length<=Cb:=by
 cases b with
 | true =>
  obtain⟨its,r,p,z⟩:=I.list h
  exact⟨its,r,p.isList,z⟩
 | false =>
  obtain⟨its,r,p,z⟩:=I.tuple h
  exact⟨its,r,p,z⟩
variable {ys:List V}
theorem Inv.g9x{X:Cx}{s:Bx}{b:Bool}(I:Inv X pins O H s)(h:SqK b X.K H l xs)(h':SqK b X.K H l ys):xs=ys:=by
 cases b with
 | true=>exact I.f9o h h'
 | false=>exact I.g2t h h'
noncomputable def Itz(K:Bw)(b1 b2:Bool)(l1 l2:Addr):It :=
 ⟨fun i H=>∃ xs ys x y,SqK b1 K H l1 xs/\SqK b2 K H l2 ys/\xs[i]? = some x/\ys[i]? = some y,
  fun i H v H'=>∃ p x y,v = .ref p ∧ H p=none ∧ H'=upd H p (.tup [x,y]) ∧ (∀ xs,SqK b1 K H l1 xs → xs[i]? = some x) ∧ ∀ ys,SqK b2 K H l2 ys → ys[i]? = some y,
  fun i H=>∃ xs ys,SqK b1 K H l1 xs ∧ SqK b2 K H l2 ys ∧ (xs.length ≤ i ∨ ys.length ≤ i)⟩
variable {elts:List Expr}{kk:Nat}{tpos:Pos}
theorem i1w{w:E2}{z TI TO i1 i2 l1 l2:Addr}(D:Q5 z TI TO i1 i2 l1 l2) :
  Turn P w K (.Tuple elts kk tpos) (Itz K b1 b2 l1 l2) [z,TI,TO,i1,i2] z (fun i h=>Kj h z TI TO .none/\Hh h TI (.ref i1) (.ref i2)/\(∃ a b,Hh h TO a b)/\ItB b1 h i1 l1 i/\ItB b2 h i2 l2 i) where
 mem:=by simp
 obj:=fun i h st b hb=>by
  obtain⟨hz,hTI,⟨a,c,hTO⟩,⟨o1,e1,_,d1⟩,⟨o2,e2,_,d2⟩⟩:=st
  simp only [Db,Eo,or_false] at hb
  rcases hb with rfl | rfl | rfl | rfl | rfl
  .exact⟨_,hz,fun v z=>by cases z⟩
  .exact⟨_,hTI,fun v z=>by cases z⟩
  .exact⟨_,hTO,fun v z=>by cases z⟩
  .exact⟨_,e1,fun v z=>by rw [d1] at z; cases z⟩
  .exact⟨_,e2,fun v z=>by rw [d2] at z; cases z⟩
 keep:=fun i h h' st k=>by
  obtain⟨hz,hTI,⟨a,c,hTO⟩,h1,h2⟩:=st
  exact⟨k z (by simp) _ hz,k TI (by simp) _ hTI,⟨a,c,k TO (by simp) _ hTO⟩,h1.at fun o e=>k i1 (by simp) o e,h2.at fun o e=>k i2 (by simp) o e⟩
 item:=by
  intro X hP hw hK hc i pins s O H E I hf st hg
  subst hP hw hK
  obtain⟨xs,ys,x,y,hq1,hq2,hx,hy⟩:=hg
  obtain⟨us,r1,p1,_⟩:=I.j1a hq1
  obtain⟨ws,r2,p2,_⟩:=I.j1a hq2
  obtain⟨u,hu,ru⟩:=r1.get hx
  obtain⟨v,hv,rv⟩:=r2.get hy
  obtain⟨hz,hTI,⟨a,b,hTO⟩,h1,h2⟩:=st
  refine h6l D hz hTI hTO h1 h2 p1 p2 (x:=u) (y:=v) (by simpa using hu) (by simpa using hv) fun h' z' TO' h1' h2' pT kk'=>?_
  refine⟨.ref s.heap.objs.size,rfl,wpAny_letOwnedTupleGo_zip (s:={ s with heap:=h' }) z' fun h'' z'' sb=>?_⟩
  replace sb:E7 z h' h'':=sb
  have k2:∀ c o,c∉[z,TI,TO,i1,i2]->s.heap.get? c=some o->h''.get? c=some o:=fun c o hc e=>by
   simp only [Db,Eo,or_false,not_or] at hc
   exact sb.extBut _ _ hc.1 (kk' c o hc.1 hc.2.2.1 hc.2.2.2.1 hc.2.2.2.2 e)
  have I1:Inv X pins O H { s with heap:=h'' }:=I.g0a (t':=s.toks) k2 hf
  have zlt:z < s.heap.objs.size:=Cc hz
  have pT2:Hh h'' s.heap.objs.size u v:=sb.extBut _ _ (Gn zlt) pT
  have fo:=I.i0m (b:=s.heap.objs.size) (C0 _) (I.hok.fresh (C0 _))
  have nT:H s.heap.objs.size=none:=I.hok.fresh (C0 _)
  have I2:Inv X pins O (upd H s.heap.objs.size (.tup [x,y])) { s with heap:=h'' }:=by
   refine I1.track ?_ fo.2.1 fo.2.2.2.2.1 fo.2.2.2.2.2 nT ⟨two_line,[u,v],.cons ru (.cons rv .nil),⟨_,pT2,rfl,0,rfl⟩⟩
   cases q:X.s₀.heap.get? s.heap.objs.size with
   | none=>rfl
   | some o=>exact absurd (Cr (Cc q) I.sz) (Fk _)
  have ne:∀ b∈[z,TI,TO,i1,i2],b≠s.heap.objs.size:=fun b hb e=>by
   have lt:b < s.heap.objs.size:=by
    simp only [Db,Eo,or_false] at hb
    rcases hb with rfl | rfl | rfl | rfl | rfl
    .exact zlt
    .exact Cc hTI
    .exact Cc hTO
    .obtain⟨_,e,_⟩:=h1; exact Cc e
    .obtain⟨_,e,_⟩:=h2; exact Cc e
   exact D2 lt e
  refine⟨.ref s.heap.objs.size,_,I2,rfl,⟨_,x,y,rfl,nT,rfl,fun xs' h=>by rw [I.g9x h hq1]; exact hx,fun ys' h=>by rw [I.g9x h hq2]; exact hy⟩,
   ⟨z'',sb.extBut _ _ D.TIz (kk' _ _ D.TIz D.TITO D.TIi1 D.TIi2 hTI),⟨_,_,sb.extBut _ _ D.TOz TO'⟩,h1'.at fun o e=>sb.extBut _ _ D.i1z e,h2'.at fun o e=>sb.extBut _ _ D.i2z e⟩,fun b hb=>by rw [a3w (ne b hb)]; exact (hf b hb).1⟩
 done:=by
  intro X hP hw hK hc i pins s O H E I hf st hg
  subst hP hw hK
  obtain⟨xs,ys,hq1,hq2,hle⟩:=hg
  obtain⟨us,r1,p1,_⟩:=I.j1a hq1
  obtain⟨ws,r2,p2,_⟩:=I.j1a hq2
  obtain⟨hz,hTI,⟨a,b,hTO⟩,h1,h2⟩:=st
  have l1':=r1.length
  have l2':=r2.length
  refine i1u (I.ok.hd hc) D hz hTI hTO h1 h2 p1 p2 (by rcases hle with h | h <;> simp <;> lia) fun h' kk'=>⟨rfl,I.g0a (t':=s.toks) (fun c o hc e=>?_) hf⟩
  simp only [Db,Eo,or_false,not_or] at hc
  exact kk' c o hc.1 hc.2.2.1 hc.2.2.2.1 hc.2.2.2.2 e
 self:=fun _ _ _ _ _ st h=>wpAny_pyIter_zip st.1 h
def k0k(K:Bw)(ta:TA):TI:=fun O H R=>ta O H fun vs H1=>match vs with
 | [.ref l1,.ref l2]=>(match H1 l1,H1 l2 with
  | some (.lst _),some (.lst _)=>R (Itz K true true l1 l2) H1
  | some (.lst _),some (.tup _)=>R (Itz K true false l1 l2) H1
  | some (.tup _),some (.lst _)=>R (Itz K false true l1 l2) H1
  | some (.tup _),some (.tup _)=>R (Itz K false false l1 l2) H1
  | _,_=>False)
 | _=>False
theorem f7z{X:Cx}{a b:Expr}{ta:TA}{p:Pos}(hg:Gl X "zip")(hm:X.mg "zip"=none)(ha:PA X [a,b] ta)(hs:Cs [a,b] X.env = [(false,eval a X.env),(false,eval b X.env)]:=by rfl)(hs2:Cs [b] X.env = [(false,eval b X.env)]:=by rfl) :
  PI X (.Tuple elts kk tpos) (.Call (.Name "zip" p) [a,b] [] pos) (k0k X.K ta):=by
 intro pins s O H R I h
 refine Call_ (f1t I hg hm boot_zip (Fx (h1j (ha pos pins s O H _ I h) fun us s1 vs H1 I1 r1 q1=>?_) (by rw [hs,hs2]) (by rw [hs2]; rfl)))
 obtain _ | ⟨zz,vs⟩:=vs
 .exact Bq q1
 obtain⟨l1,rfl⟩:∃ l1,zz = .ref l1:=by cases zz <;> first | exact⟨_,rfl⟩ | exact Bq q1
 obtain _ | ⟨zz,vs⟩:=vs
 .exact Bq q1
 obtain⟨l2,rfl⟩:∃ l2,zz = .ref l2:=by cases zz <;> first | exact⟨_,rfl⟩ | exact Bq q1
 obtain rfl:vs = []:=by
  cases vs with
  | nil=>rfl
  | cons _ _=>exact Bq q1
 .obtain⟨u,u',e0,e,e'⟩:=r1.two
  cases e
  cases e'
  subst e0
  have q:∃ (b1 b2:Bool) (xs ys:List V),SqK b1 X.K H1 l1 xs/\SqK b2 X.K H1 l2 ys/\R (Itz X.K b1 b2 l1 l2) H1:=by
   have q1':(match H1 l1,H1 l2 with
    | some (.lst _),some (.lst _)=>R (Itz X.K true true l1 l2) H1
    | some (.lst _),some (.tup _)=>R (Itz X.K true false l1 l2) H1
    | some (.tup _),some (.lst _)=>R (Itz X.K false true l1 l2) H1
    | some (.tup _),some (.tup _)=>R (Itz X.K false false l1 l2) H1
    | _,_=>False):=q1
   split at q1'
   .rename_i e1 e2
    exact⟨true,true,_,_,SqL.of e1,SqL.of e2,q1'⟩
   .rename_i e1 e2
    exact⟨true,false,_,_,SqL.of e1,SqT.of e2,q1'⟩
   .rename_i e1 e2
    exact⟨false,true,_,_,SqT.of e1,SqL.of e2,q1'⟩
   .rename_i e1 e2
    exact⟨false,false,_,_,SqT.of e1,SqT.of e2,q1'⟩
   .exact q1'.elim
  obtain⟨b1,b2,xs,ys,hq1,hq2,q⟩:=q
  obtain⟨us,rr1,p1,_⟩:=I1.j1a hq1
  obtain⟨ws,rr2,p2,_⟩:=I1.j1a hq2
  have L1:l1 < s1.heap.objs.size:=by obtain⟨_,e,_⟩:=p1; exact Cc e
  have L2:l2 < s1.heap.objs.size:=by obtain⟨_,e,_⟩:=p2; exact Cc e
  refine i1v p1 p2 fun h' hz hTI hTO h1 h2 hk=>?_
  refine wpAny_pyIter_zip (s:={ s1 with heap:=h' }) hz ?_
  have D:Q5 (s1.heap.objs.size+4) (s1.heap.objs.size+2) (s1.heap.objs.size+3) s1.heap.objs.size (s1.heap.objs.size+1) l1 l2:=by
   generalize s1.heap.objs.size=n at L1 L2
   replace L1:Nat.lt l1 n:=L1
   replace L2:Nat.lt l2 n:=L2
   constructor <;> (intro e; have:(n:Nat)=n:=rfl; simp only [Nat.lt_eq] at L1 L2; first | (have e':(_:Nat)=_:=e; lia))
  refine⟨_,[s1.heap.objs.size+4,s1.heap.objs.size+2,s1.heap.objs.size+3,s1.heap.objs.size,s1.heap.objs.size+1],_,_,H1,rfl,I1.kept (t':=s1.toks) hk,i1w D,⟨hz,hTI,⟨_,_,hTO⟩,h1,h2⟩,fun b hb=>?_,q⟩
  have hb':s1.heap.objs.size<=b:=by
   simp only [Db,Eo,or_false] at hb
   rcases hb with rfl | rfl | rfl | rfl | rfl
   .exact Hr _ _
   .exact Hr _ _
   .exact Hr _ _
   .exact C0 _
   .exact Hr _ _
  exact I1.i0m hb' (I1.hok.fresh hb')
theorem d5q{g:TG}{D:Ends}(Pv:Nat->St->Hp->Prop)(h0:Pv 0 O H)(hl:∀ i O H,Pv i O H->SqK b1 K H l1 xs/\SqK b2 K H l2 ys)
  (hs:∀ i x y O H p H',xs[i]? = some x->ys[i]? = some y->Pv i O H->H p=none->Same H H'->H' p=some (.tup [x,y])->g (.ref p) O H' fun Af H2=>tb { D with nx:=Pv (i+1),ct:=Pv (i+1),bk:=D.nx } Af H2)
  (hd:∀ O H,Pv (min xs.length ys.length) O H->D.nx O H):j0w (Itz K b1 b2 l1 l2) g tb D O H:=by
 refine⟨fun i m O H=>m=min xs.length ys.length - i/\i<=min xs.length ys.length/\Pv i O H,⟨min xs.length ys.length,by simp,Dx _,h0⟩,?_⟩
 rintro i m O H ⟨rfl,hi,p⟩
 obtain⟨e1,e2⟩:=hl i O H p
 by_cases hlt:i < min xs.length ys.length
 .have hx : xs[i]? = some (xs[i]'(by lia)) := By _
  have hy : ys[i]? = some (ys[i]'(by lia)) := By _
  refine .inr ⟨⟨xs,ys,_,_,e1,e2,hx,hy⟩,Pv (i+1),fun Aa H' p'=>⟨min xs.length ys.length - (i+1),by lia,rfl,hlt,p'⟩,fun v H' y=>?_⟩
  obtain⟨q,x,y,rfl,nq,rfl,k1,k2⟩:=y
  exact hs i x y O H q _ (k1 _ e1) (k2 _ e2) p nq (Same.upd nq) a2v
 .have e:i=min xs.length ys.length:=by lia
  subst e
  exact .inl ⟨⟨xs,ys,e1,e2,by lia⟩,hd O H p⟩
noncomputable def b3m(X:Cx)(scope:Fg)(cl:List (Str×Addr))(C:Addr)(Ab:Bx)(Ag:Hp)(fp:List Addr)(x y:Str):Cx where
 prog:=X.prog
 w:=X.w
 K:=X.K
 mg:=X.mg
 base:=X.base
 A:=X.A
 N:=x :: y :: mask x X.N
 s₀:=Ab
 H₀:=Ag
 env:=Jr scope cl C X.env
 outer:=X.stack
 stack:=X.stack
 ex:=fp
 fn:=fun _=>false
 calm:=X.calm
 pn:=[]
 xe:=fun _ _=>False
structure c5z(X:Cx)(scope:Fg)(x y:Str):Prop where
 kind:scope.kind = .function
 d8z:∀ y∈scope.names,y.2≠.cell
 loc:∀ y∈scope.names,y.2 = .local->scope.names.lookup y.1=some .local
 own:scope.names.lookup x=some .local
 k0l:scope.names.lookup y=some .local
 free:∀ y∈scope.names,y.2 = .free->X.env.kindOf y.1=some .cell\/X.env.kindOf y.1=some .free
 nd:(x :: y :: mask x X.N).Nodup
 noe:∀ y∈scope.names,y.1≠""
 vis:∀ y∈mask x X.N,scope.names.lookup y≠some .local
def g3v(J:It)(te:TE)(D:Addr)(O:St)(H:Hp)(Q:VK)(_:Tag Q):Prop:=∃ (n:Nat) (W:Nat->List V->Hp->Prop),W 0 [] H/\∀ i ys H,i<=n->W i ys H->H D=some (.lst ys) /\
 ((J.stop i H/\Q (.ref D) H)\/(i < n/\J.go i H/\ys.length < Cb/\∀ x H',J.yld i H x H'->∃ p u v,x = .ref p/\H' p=some (.tup [u,v])/\te (some u :: some v :: O) H' fun y H2=>H2 D=some (.lst ys) /\
  ∀ H3,a2j D H2 H3->H3 D=some (.lst (ys++[y]))->W (i+1) (ys++[y]) H3))
def i5d(wi:TI)(te:TE):TE:=fun O H Q=>wi O H fun J H1=>∀ D H2,H1 D=none->Same H1 H2->H2 D=some (.lst [])->g3v J te D O H2 Q ⟨⟩
section
variable {X:Cx}{scope:Fg}{x y:Str}{cl:List (Str×Addr)}{pins:List (Addr×Obj)}{O:St}{H:Hp}{s Ai:Bx}{fp:List Addr}
theorem Inv.k0m(S:c5z X scope x y)(I:Inv X pins O H s)(hcl:∀ y c,cl.lookup y=some c->(y,Cy)∈scope.names/\X.env.cells.lookup y=some c)(hcl2:∀ y,(y,Cy)∈scope.names->cl.lookup y=X.env.cells.lookup y)
  (hfp:∀ b∈fp,f9q X pins H b) (hlt:∀ b∈fp,b < s.heap.objs.size) {m:Str->Option Br} (hns:Ai.heap.Ns s.heap.objs.size m) (hk:∀ b o,s.heap.get? b=some o->Ai.heap.get? b=some o) (hos:Ai.os=s.os) (hg:Ai.gens=s.gens) :
  Inv (b3m X scope cl s.heap.objs.size s H fp x y) [] (none :: none :: O) H Ai:=by
 refine⟨⟨I.ok.mod,?_,I.ok.glob,I.ok.blt,C0 _,fun y z c h1 h2=>I.ok.inj y z c (hcl y c h1).2 (hcl z c h2).2,fun y hy=>?_,(fun y c h=>nomatch h),I.ok.hd,I.ok.frames,.inl rfl,fun b hb=>⟨D2 (hlt b hb),fun y c e=>(hfp b hb).2.2.2.2.1 y c (hcl y c e).2⟩,
  fun b o e=>I.bs b o e,Bz I.ok.bsz I.sz,fun b o e hb=>?_,fun b hb hf=>?_,I.stack,I.g6n⟩,
  hos,by rw [hg]; exact I.bare,Un.kept hk,⟨m,hns,fun i y v h1 h2 h3=>?_⟩,fun y c e=>?_,I.hok.fresh (C0 _),fun y c e=>I.f0u y c (hcl y c e).2,fun p hp=>absurd (show p∈([] : List (Addr×Obj)) from hp) (by simp),I.hok.kept hk,by show (none :: none :: O).length=(x :: y :: mask x X.N).length; rw [Cq,Cq,Cq,Cq,mask,Bv,I.len]⟩
 .exact S.kind
 .rcases b8v (env:=X.env) (sc:=scope) (x:=y) hy with z | z
  .obtain⟨c,hc⟩:=I.ok.has y (S.free _ z rfl)
   exact⟨c,(hcl2 y z).trans hc⟩
  .exact absurd rfl (S.d8z _ z)
 .rcases (hfp b hb).2.2.2.1 with z | z
  .exact I.ok.j0u b o e z
  .exact absurd (Cr (Cc (I.ok.bs b o e).1) z) (Fk _)
 .rcases Db.mp (I.f7t b hf) with z | z
  .exact (hfp b hb).2.1 z
  .exact (hfp b hb).2.2.1 z
 .match i,h1,h2 with
  | 0,h1,h2=>cases h2
  | 1,h1,h2=>cases h2
  | i+2,h1,h2 =>
   have h1m:(mask x X.N)[i]? = some y:=by simpa [b3m] using h1
   have h2':O[i]? = some (some v):=by simpa using h2
   have hyN:y∈mask x X.N:=Ca h1m
   have hc:(relabel scope X.env).names.lookup y=some .cell\/(relabel scope X.env).names.lookup y=some .free:=by
    rcases h3 with z | z | z
    .exfalso
     rcases c5u (env:=X.env) scope.names _ z with q | ⟨q,_⟩
     .exact S.vis y hyN q
     .cases q
    .exact .inl z
    .exact .inr z
   have hfr:(y,Cy)∈scope.names:=by
    rcases b8v hc with z | z
    .exact z
    .exact absurd rfl (S.d8z _ z)
   have h1':X.N[i]? = some y:=by
    rw [mask,C9] at h1m
    obtain⟨z,hz,e⟩:=C7.mp h1m
    by_cases hzx:z=x
    .rw [if_pos hzx] at e
     exact absurd e.symm (S.noe _ hfr)
    .rw [if_neg hzx] at e
     rw [hz,e]
   obtain⟨mX,hnX,hl⟩:=I.loc
   have hk2:=S.free _ hfr rfl
   have j9y:Vis X.env.scope y:=by
    rcases hk2 with z | z
    .exact .inr (.inl z)
    .exact .inr (.inr z)
   obtain⟨u,ru,lk⟩:=hl i y v h1' h2' j9y
   refine⟨u,ru,.inr ⟨hc,?_⟩⟩
   rcases lk with ⟨z,_⟩ | ⟨_,c,ec,o,ho,hd⟩
   .rcases hk2 with q | q
    .rw [q] at z; cases z
    .rw [q] at z; cases z
   .exact⟨c,(hcl2 y hfr).trans ec,o,hk c o ho,hd⟩
 .obtain⟨v,o,ho,hd⟩:=I.cell y c (hcl y c e).2
  exact⟨v,o,hk c o ho,hd⟩
theorem Inv.i7p{Aa:St}{H':Hp}{s':Bx}(I:Inv X pins O H s)(hfp:∀ b∈fp,f9q X pins H b)(J:Inv (b3m X scope cl s.heap.objs.size s H fp x y) [] Aa H' s')(hs:E7 s.heap.objs.size s'.heap h') :
  Inv X pins O H' { s' with heap:=h' }:=by
 have ne:∀ {b:Addr} {o:Obj},s.heap.get? b=some o->b≠s.heap.objs.size:=fun e=>D2 (Cc e)
 have u:=J.base
 have u':Un (frs X.stack) fp H H' s.heap h':=⟨fun b o e n hb hx=>hs.extBut b o (ne e) (u.keep b o e n hb hx),fun b o e n hb hx=>(u.slot b o e n hb hx).elim fun sl q=>⟨sl,hs.extBut b _ (ne e) q⟩,u.free,
  fun b o e hx=>(u.there b o e hx).elim fun o' q=>⟨o',hs.extBut b o' (ne e) q⟩,u.tups,u.g6m,u.g9i⟩
 have nC:∀ {b:Addr} {o:HO},H' b=some o->b≠s.heap.objs.size:=fun {b o} e z=>by
  have f:H' s.heap.objs.size=none:=J.free
  rw [z,f] at e; cases e
 have ok:HOk X.prog X.w H' h':=fun b o e=>(J.hok b o e).stay (fun c v hc q=>hs.extBut c v (by
  rcases hc with z | z
  .rw [z]; exact nC e
  .exact nC z) q) (fun _ q=>q) fun _ _ q=>q
 exact I.call' (s':={ s' with heap:=h' }) (ch:=fp) J.os u' ok J.bare fun b hb=>⟨(hfp b hb).2.2.2.1,(hfp b hb).2.1,(hfp b hb).2.2.2.2.1,(hfp b hb).2.2.2.2.2⟩
end
section
variable {X:Cx}{scope:Fg}{x y:Str}{pins:List (Addr×Obj)}{O:St}{elt iter:Expr}{px py tpos pos:Pos}{kk:Nat}{wi:TI}{te:TE}
theorem f2s{Ac:Bx}{H1:Hp}{RR:Br->Addr->Result->Bx->Prop}{E:Br->Bx->Prop}{cl:List (Str×Addr)}
  (S:c5z X scope x y) (hc:X.calm=true) (he:∀ cl C Ab Ag fp,PE (b3m X scope cl C Ab Ag fp x y) elt te)
  (hcl:∀ y c,cl.lookup y=some c->(y,Cy)∈scope.names/\X.env.cells.lookup y=some c) (hcl2:∀ y,(y,Cy)∈scope.names->cl.lookup y=X.env.cells.lookup y)
  (I2:Inv X pins O H1 Ac) (T:Turn X.prog X.w X.K (.Tuple [.Name x px,.Name y py] kk tpos) J fp it tn) (st2:tn 0 Ac.heap) (f2:∀ b∈fp,f9q X pins H1 b) (h:∀ D H2,H1 D=none->Same H1 H2->H2 D=some (.lst [])->g3v J te D O H2 Q ⟨⟩)
  (hRR:∀ (D C:Addr) (s':Bx) (H':Hp),(∃ m,s'.heap.Ns C m)->(∀ h' ,E7 C s'.heap h'->Inv X pins O H' { s' with heap:=h' })->f9q X pins H' C->Q (.ref D) H'->RR (.ref D) C (.ok .next) s') :
  Ch (model X.prog X.w) X.A (Rm []) (fun acc Ab=>Ch (model X.prog X.w) X.A (Kg scope X.env.globals cl [] X.env.qual none .none (some X.env)) (fun cenv Ai =>
   J1 (model X.prog X.w) X.A (.compStart (.ListComp elt [⟨.Tuple [.Name x px,.Name y py] kk tpos,iter,[],0⟩] scope pos) 0 (.ref it) acc { cenv with scope:=relabel scope X.env }) (RR acc cenv.locals) Ai) E Ab) E Ac:=by
 have hfr:H1 Ac.heap.objs.size=none:=I2.hok.fresh (C0 _)
 have hCW:=h Ac.heap.objs.size _ hfr (Same.upd hfr) a2v
 refine Ey ?_
 have I3:Inv X pins O (upd H1 Ac.heap.objs.size (.lst [])) { Ac with heap:=Ac.heap.push { cls:=.type "list",data:=.seq ([] : List Br).toArray },toks:=Ac.toks } :=
  I2.laid (t':=Ac.toks) (fun b u e=>Bt _ e) (C0 _) ⟨Dx _,[],0,.nil,Cg _ rfl⟩
 have nD:∀ b∈fp,b≠Ac.heap.objs.size:=fun b hb=>by
  obtain⟨o,e,_⟩:=T.obj 0 _ st2 b hb
  exact D2 (Cc e)
 have f3:∀ b∈fp,f9q X pins (upd H1 Ac.heap.objs.size (.lst [])) b:=fun b hb=>⟨by rw [a3w (nD b hb)]; exact (f2 b hb).1,(f2 b hb).2⟩
 generalize hH3:upd H1 Ac.heap.objs.size (.lst [])=H3 at *
 have st3:tn 0 (Ac.heap.push { cls:=.type "list",data:=.seq ([] : List Br).toArray }):=T.keep _ _ _ st2 fun b _ o e=>Bt _ e
 have i7e:∀ b∈fp,b < (Ac.heap.push { cls:=.type "list",data:=.seq ([] : List Br).toArray }).objs.size:=fun b hb=>by
  obtain⟨o,e,_⟩:=T.obj 0 _ st3 b hb
  exact Cc e
 show Ch (model X.prog X.w) X.A (Kg scope X.env.globals cl [] X.env.qual none .none (some X.env)) _ E { Ac with heap:=Ac.heap.push { cls:=.type "list",data:=.seq ([] : List Br).toArray },toks:=Ac.toks }
 generalize hs3:({ Ac with heap:=Ac.heap.push { cls:=.type "list",data:=.seq ([] : List Br).toArray },toks:=Ac.toks }:Bx)=Ab at *
 have eh:Ab.heap=Ac.heap.push { cls:=.type "list",data:=.seq ([] : List Br).toArray }:=by rw [<- hs3]
 rw [<- eh] at st3 i7e
 generalize Ac.heap.objs.size=D at *
 refine Q1 S.d8z (by intro y hy; simp at hy) (fun Ak Ao Ar=>?_) S.kind
 have hk1:∀ b o,Ab.heap.get? b=some o->Ak.get? b=some o:=fun b o e=>Ar.extBut b o (D2 (Cc e)) (Bt _ e)
 have J0:Inv (b3m X scope cl Ab.heap.objs.size Ab H3 fp x y) [] (none :: none :: O) H3 { Ab with heap:=Ak,toks:=Ab.toks+([] : List (Str×Br)).length }:=I3.k0m S hcl hcl2 f3 i7e Ao hk1 rfl rfl
 obtain⟨n0,W,w0,turn⟩:=hCW
 have loop:J1 (model X.prog X.w) X.A (.compLoop (.ListComp elt [⟨.Tuple [.Name x px,.Name y py] kk tpos,iter,[],0⟩] scope pos) 0 (.ref it) (.ref D) (Jr scope cl Ab.heap.objs.size X.env)) (RR (.ref D) Ab.heap.objs.size) { Ab with heap:=Ak,toks:=Ab.toks+([] : List (Str×Br)).length }:=by
  refine codeAny_loop rfl (fun n s'=>∃ i ys o o' H',Inv (b3m X scope cl Ab.heap.objs.size Ab H3 fp x y) [] (o :: o' :: O) H' s'/\tn i s'.heap/\(∀ b∈fp,H' b=none)/\W i ys H'/\i<=n0/\n=n0 - i) (fun n s5 hI=>?_) n0
   ⟨0,[],none,none,H3,J0,T.keep _ _ _ st3 (fun b _ o e=>hk1 b o e),fun b hb=>(f3 b hb).1,w0,Dx _,rfl⟩
  obtain⟨i,ys,o5,o5',H5,I5,st5,fr5,w5,hin,hnn⟩:=hI
  have stat:∀ {H':Hp},(∀ b∈fp,H' b=none)->∀ b∈fp,f9q (b3m X scope cl Ab.heap.objs.size Ab H3 fp x y) [] H' b:=fun hn b hb =>
   ⟨hn b hb,D2 (i7e b hb),fun z=>(Db.mp (I3.f7t b z)).elim (fun q=>(f3 b hb).2.1 q) fun q=>(f3 b hb).2.2.1 q,.inl hb,fun y c e=>(f3 b hb).2.2.2.2.1 y c (hcl y c e).2,fun p hp=>absurd (show p∈([] : List (Addr×Obj)) from hp) (by simp)⟩
  show Ch _ X.A ((compTurn (.ListComp elt [⟨.Tuple [.Name x px,.Name y py] kk tpos,iter,[],0⟩] scope pos) 0 (.ref it) (.ref D) (Jr scope cl Ab.heap.objs.size X.env)).onRaise (fun x=>do noteFrame x (Jr scope cl Ab.heap.objs.size X.env); theTreesLotGoes x)) _ _ s5
  refine wpAny_noted ?_
  rw [compTurn_list1]
  refine Bp (Ik (Bp ?_))
  obtain⟨hD5,alt⟩:=turn i ys H5 hin w5
  rcases alt with ⟨stop,q⟩ | ⟨hlt,go,hsz,step⟩
  .refine Dv (T.done (b3m X scope cl Ab.heap.objs.size Ab H3 fp x y) rfl rfl rfl hc i [] s5 _ H5 _ I5 (stat fr5) st5 stop) (fun r s6 ⟨hr,I6⟩=>?_) fun _ _ z=>z
   subst hr
   refine Cf ?_
   obtain⟨m6,hn6,_⟩:=I6.loc
   exact hRR D Ab.heap.objs.size s6 H5 ⟨m6,hn6⟩ (fun h' hs'=>I3.i7p f3 I6 hs') (I3.i0m (C0 _) I6.free) q
  .refine Dv (T.item (b3m X scope cl Ab.heap.objs.size Ab H3 fp x y) rfl rfl rfl hc i [] s5 _ H5 _ I5 (stat fr5) st5 go) (fun r s6 ⟨u,hr,h6⟩=>?_) fun _ _ z=>z
   subst hr
   refine Bp (Dv h6 (fun _ s7 ⟨v,H7,I7,r7,y7,st7,fr7⟩=>?_) fun _ _ z=>z)
   have I7':=I7.pinned (stat fr7) (T.obj _ _ st7)
   obtain⟨p7,u1,u2,e7,t7,step7⟩:=step v H7 y7
   subst e7
   have G1:=f1u (X:=b3m X scope cl Ab.heap.objs.size Ab H3 fp x y) (pos:=px) (i:=0) (x:=x) S.nd rfl (.inl (Fs S.own)) (.inr (Fs S.own))
   have G2:=f1u (X:=b3m X scope cl Ab.heap.objs.size Ab H3 fp x y) (pos:=py) (i:=1) (x:=y) S.nd rfl (.inl (Fs S.k0l)) (.inr (Fs S.k0l))
   have G:=i4j (X:=b3m X scope cl Ab.heap.objs.size Ab H3 fp x y) (pos:=tpos) (k:=kk) (n:=2) hc (f9p G1 (f9p G2 h4q)) rfl rfl
   refine Bp (Dv (G _ s7 _ H7 (.ref p7) u (fun Aa H'=>Aa=some u1 :: some u2 :: O/\H'=H7) I7' r7 ⟨p7,[u1,u2],rfl,SqT.of t7,rfl,_,_,rfl,_,_,rfl,rfl,rfl,rfl⟩) (fun _ s8 hs8=>?_) fun _ _ z=>Bq z)
   obtain⟨Au,H8,I8,rfl,rfl⟩:=hs8
   refine Bp (Bp (Dv (he cl Ab.heap.objs.size Ab H3 fp _ s8 _ _ _ I8 step7) (fun yv s9 hs9=>?_) fun _ _ z=>Bq z))
   obtain⟨y',H9,I9,r9,hD9,k9⟩:=hs9
   refine Bp (Dv (f2j (X:=b3m X scope cl Ab.heap.objs.size Ab H3 fp x y) _ s9 _ H9 (.ref D) [y'] (.ref D) [yv] (fun _ H'=>H'=upd H9 D (.lst (ys++[y']))) I9 rfl (.cons r9 .nil) ⟨D,ys,y',rfl,rfl,hD9,hsz,rfl⟩) (fun _ sA hsA=>?_) fun _ _ z=>Bq z)
   obtain⟨_,HA,IA,_,rfl⟩:=hsA
   refine Cf ?_
   have wA:=k9 _ a2j.upd a2v
   refine Cf ⟨rfl,n0 - (i+1),by omega,i+1,ys++[y'],some u1,some u2,_,IA.d2w (pins:=[]) (pl:=f1v fp s7.heap),T.keep _ _ _ st7 (fun b hb o e=>(IA.pin (b,o) (Cj _ (Cj _ (b3y hb e)))).1),fun b hb=>?_,wA,hlt,rfl⟩
   obtain⟨o,e,d⟩:=T.obj _ _ st7 b hb
   exact (IA.pin (b,o) (Cj _ (Cj _ (b3y hb e)))).2.1
 exact Ph loop (T.self _ 0 _ _ _ (T.keep _ _ _ st3 fun b _ o e=>hk1 b o e) loop)
theorem g9y(hi:PI X (.Tuple [.Name x px,.Name y py] kk tpos) iter wi)(he:∀ cl C Ab Ag fp,PE (b3m X scope cl C Ab Ag fp x y) elt te)(S:c5z X scope x y)(hc:X.calm=true)
  (hs:∀ x,Ez iter X.env x=pure x:=by intro _; rfl):PE X (.ListComp elt [⟨.Tuple [.Name x px,.Name y py] kk tpos,iter,[],0⟩] scope pos) (i5d wi te):=by
 intro pins s O H Q I h
 obtain⟨cl,hclos,hcl,hcl2⟩:=c5t (env:=X.env) (sc:=scope) fun y hy=>I.ok.has y (S.free _ hy rfl)
 rw [O7]
 refine Fw (use:=none) rfl hs hclos S.kind S.loc ?_
 refine thn (hi pins s O H _ I h) fun v s1 h1=>thn h1 fun itv s2 h2=>?_
 obtain⟨it,fp,tn,J,H2,e,I2,T,st2,f2,hW⟩:=h2
 subst e
 exact f2s (RR:=fun acc C=>Nb (model X.prog X.w) X.A X.xe none (EP X pins O Q) acc C) S hc he hcl hcl2 I2 T st2 f2 hW fun D C s' H' hm hI _ hq =>
  hm.elim fun m hn=>⟨m,hn,fun h' hs'=>⟨.ref D,H',hI h' hs',rfl,hq⟩⟩
theorem i1x{y':Str}{py':Pos}(hN:X.N.Nodup)(hyi:X.N[i]? = some y')(hy:X.env.scope.names.lookup y'=some .local)(hi:PI X (.Tuple [.Name x px,.Name y py] kk tpos) iter wi)(he:∀ cl C Ab Ag fp,PE (b3m X scope cl C Ab Ag fp x y) elt te)(S:c5z X scope x y)(hc:X.calm=true)
  (hsw:J3 (.ListComp elt [⟨.Tuple [.Name x px,.Name y py] kk tpos,iter,[],0⟩] scope pos) (some (.Name y' py')) spos.line X.env=pure true:=by rfl)
  (hs:∀ x,Ez iter X.env x=pure x:=by intro _; rfl):PS X (.Assign [.Name y' py'] (.ListComp elt [⟨.Tuple [.Name x px,.Name y py] kk tpos,iter,[],0⟩] scope pos) spos) (i4k (i5d wi te) (g2u i)):=by
 intro pins s O H D I h
 obtain⟨cl,hclos,hcl,hcl2⟩:=c5t (env:=X.env) (sc:=scope) fun y hy=>I.ok.has y (S.free _ hy rfl)
 rw [Pt _ _ _ _ hsw]
 refine Bp (Ik (Bp ?_))
 show Ch _ X.A (do let _ <- comprehension (.ListComp elt [⟨.Tuple [.Name x px,.Name y py] kk tpos,iter,[],0⟩] scope pos) scope X.env _ (Rm []) false (eval iter X.env) (some (assign (.Name y' py') X.env))) _ _ s
 refine Bp (Dv (Fw (use:=some (assign (.Name y' py') X.env)) (Q:=fun _ s'=>SP X pins D .next s') rfl hs hclos S.kind S.loc ?_) (fun _ s' hq=>Cf (Cf hq)) fun _ _ e=>e)
 refine thn (hi pins s O H _ I h) fun v s1 h1=>thn h1 fun itv s2 h2=>?_
 obtain⟨it,fp,tn,J,H2,e,I2,T,st2,f2,hW⟩:=h2
 subst e
 refine f2s (Q:=fun v H'=>D.nx (O.set i (some v)) H') (RR:=fun acc C=>Nb (model X.prog X.w) X.A X.xe (some (assign (.Name y' py') X.env)) (fun _ s'=>SP X pins D .next s') acc C) S hc he hcl hcl2 I2 T st2 f2 hW fun L C s' H' hm hI hfp hq=>?_
 obtain⟨m,hn⟩:=hm
 have I':Inv X pins O H' s':=hI s'.heap (Mg ..)
 show Ch _ X.A (assign (.Name y' py') X.env (.ref L)) _ _ s'
 refine Lv (f1s (v:=.ref L) I' hN hyi (.inl hy) rfl (fun s'' I'' hsb=>?_) (.inr hy))
 obtain⟨a,hsame,ha⟩:=hsb
 have nea:C≠a:=by
  rcases ha with z | z
  .rw [z]; exact hfp.2.1
  .exact fun q=>hfp.2.2.2.2.1 y' a z q.symm
 refine⟨m,hn.sameBut hsame nea,fun h' hs'=>⟨_,H',I''.turned (t':=s''.toks) (it:=C) (fun b o hb e=>hs'.extBut b o hb e) hfp.1 hfp.2.1 hfp.2.2.2.1 hfp.2.2.2.2.1 hfp.2.2.2.2.2,hq⟩⟩
end
noncomputable def h6m(sc scope:Fg)(x y:Str)(N:List Str):Bool :=
 (scope.kind == .function) && scope.names.all (fun y=>y.2 != .cell) && scope.names.all (fun y=>y.2 != .local || scope.names.lookup y.1 == some .local) && (scope.names.lookup x == some .local) && (scope.names.lookup y == some .local) &&
 scope.names.all (fun y=>y.2 != .free || (sc.names.lookup y.1 == some .cell || sc.names.lookup y.1 == some .free)) && decide ((x :: y :: mask x N).Nodup) && scope.names.all (fun y=>y.1 != "") && (mask x N).all (fun y=>scope.names.lookup y != some .local)
variable {X:Cx}
theorem h6n{scope:Fg}{x y:Str}(hsc:X.env.scope=sc)(hN:X.N=N)(h:h6m sc scope x y N=true):c5z X scope x y:=by
 subst hN hsc
 unfold h6m at h
 simp only [Ec,Fv,beq_iff_eq,Ls,bne_iff_ne,ne_eq,decide_eq_true_eq] at h
 obtain⟨⟨⟨⟨⟨⟨⟨⟨h1,h2⟩,h3⟩,h4⟩,h5⟩,h6⟩,h7⟩,h8⟩,h9⟩:=h
 exact⟨h1,h2,fun y hy e=>(h3 y hy).resolve_left fun z=>z e,h4,h5,fun y hy e=>(h6 y hy).resolve_left fun z=>z e,h7,h8,h9⟩
theorem h2e(Pv:Nat->List V->Hp->Prop)(h0:Pv 0 [] H)(hsz:xs.length<=Cb)
  (hD:∀ i zs H,i<=min xs.length ys.length->Pv i zs H->H D=some (.lst zs)/\SqK b1 K H l1 xs/\SqK b2 K H l2 ys/\zs.length=i)
  (hs:∀ i x y zs H p H',xs[i]? = some x->ys[i]? = some y->Pv i zs H->H p=none->Same H H'->H' p=some (.tup [x,y])->te (some x :: some y :: O) H' fun z H2=>H2 D=some (.lst zs)/\∀ H3,a2j D H2 H3->H3 D=some (.lst (zs++[z]))->Pv (i+1) (zs++[z]) H3)
  (hd:∀ zs H,Pv (min xs.length ys.length) zs H->Q (.ref D) H):g3v (Itz K b1 b2 l1 l2) te D O H Q ⟨⟩:=by
 refine⟨min xs.length ys.length,Pv,h0,fun i zs H hi p=>?_⟩
 obtain⟨e1,e2,e3,e4⟩:=hD i zs H hi p
 refine⟨e1,?_⟩
 by_cases hlt:i < min xs.length ys.length
 .have hx : xs[i]? = some (xs[i]'(by lia)) := By _
  have hy : ys[i]? = some (ys[i]'(by lia)) := By _
  refine .inr ⟨hlt,⟨xs,ys,_,_,e2,e3,hx,hy⟩,by lia,fun v H' q=>?_⟩
  obtain⟨q,x,y,rfl,nq,rfl,k1,k2⟩:=q
  exact⟨q,x,y,rfl,a2v,hs i x y zs H q _ (k1 _ e2) (k2 _ e3) p nq (Same.upd nq) a2v⟩
 .have e:i=min xs.length ys.length:=by lia
  subst e
  exact .inl ⟨⟨xs,ys,e2,e3,by lia⟩,hd zs H p⟩
def j4q(K:Bw)(tl:TE):TI:=fun O H R=>tl O H fun x H1=>match x with
 | .ref a=>(match H1 a with
  | some (.tup _)=>R (Itt K a) H1
  | _=>False)
 | _=>False
theorem i7q{tg l:Expr}(hl:PE X l tl):PI X tg l (j4q X.K tl):=by
 intro pins s O H R I h
 refine c9u (hl pins s O H _ I h) fun v s1 x H1 I1 r1 q1=>?_
 cases x with
 | ref a =>
  have q':(match H1 a with
   | some (.tup _)=>R (Itt X.K a) H1
   | _=>False):=q1
  split at q'
  .rename_i xs e
   cases r1
   obtain⟨its,rv,p,hz⟩:=I1.tuple (SqT.of e)
   refine Qt (show s1.heap.IsTuple a its.toArray from p) ?_
   refine⟨s1.heap.objs.size,[s1.heap.objs.size],_,_,H1,rfl,I1.kept (t':=s1.toks) fun b o e=>Bt _ e,h1l a _,⟨_,Cg _ rfl,rfl,rfl⟩,fun b hb=>?_,q'⟩
   have e:b=s1.heap.objs.size:=by simpa using hb
   subst e
   exact I1.i0m (C0 _) (I1.hok.fresh (C0 _))
  .exact q'.elim
 | _=>exact Bq q1
noncomputable def rSlG:V->Option Int->Option Int->Hp->VK->Prop:=fun x lo hi H Q=>match x with
 | .ref a=>(match H a with
  | some (.lst xs)=>New H (.lst (f0y xs lo hi)) Q ⟨⟩
  | some (.tup xs)=>¬ (HT.sIx xs.length 0 lo=0/\HT.sIx xs.length xs.length hi=xs.length)/\New H (.tup (f0y xs lo hi)) Q ⟨⟩
  | _=>False)
 | _=>False
theorem k4g:SlR X rSlG:=by
 intro pins s O H x v vl vu lo hi sl Q I rx hs pl pu h
 cases x with
 | ref a =>
  have h':(match H a with
   | some (.lst xs)=>New H (.lst (f0y xs lo hi)) Q ⟨⟩
   | some (.tup xs)=>¬ (HT.sIx xs.length 0 lo=0/\HT.sIx xs.length xs.length hi=xs.length)/\New H (.tup (f0y xs lo hi)) Q ⟨⟩
   | _=>False):=h
  split at h'
  .rename_i xs e
   exact g6q pins s O H _ v vl vu lo hi sl Q I rx hs pl pu ⟨_,xs,rfl,SqL.of e,h'.raw⟩
  .rename_i xs e
   exact j2o pins s O H _ v vl vu lo hi sl Q I rx hs pl pu ⟨_,xs,rfl,SqT.of e,h'.1,h'.2.raw⟩
  .exact h'.elim
 | _=>exact Bq h
theorem h6o(Pv:Nat->List V->Hp->Prop)(h0:Pv 0 [] H)(hsz:xs.length<=Cb)
  (hD:∀ i ys H,i<=xs.length->Pv i ys H->H D=some (.lst ys)/\SqT K H a xs/\ys.length=i)
  (hs:∀ i x ys H,xs[i]? = some x->Pv i ys H->te (some x :: O) H fun y H2=>H2 D=some (.lst ys)/\∀ H3,a2j D H2 H3->H3 D=some (.lst (ys++[y]))->Pv (i+1) (ys++[y]) H3)
  (hd:∀ ys H,Pv xs.length ys H->Q (.ref D) H):f0z (Itt K a) te D O H Q ⟨⟩:=by
 refine⟨xs.length,Pv,h0,fun i ys H hi p=>?_⟩
 obtain⟨e1,e2,e3⟩:=hD i ys H hi p
 refine⟨e1,?_⟩
 by_cases hlt:i < xs.length
 .refine .inr ⟨hlt,⟨xs,xs[i],e2,by simp [hlt]⟩,by lia,fun x H' y=>?_⟩
  obtain⟨e,y⟩:=y
  subst e
  exact hs i x ys _ (y xs e2) p
 .have e:i=xs.length:=by lia
  subst e
  exact .inl ⟨⟨xs,e2,C0 _⟩,hd ys H p⟩
theorem i1y{ta:TE}(hK:X.K=K)(he:PE X e ta)(hb:Fb e f X.env (eval e X.env)=eval e X.env):PE X (.Attribute e f pos) (h6g K ta f):=hK▸i7g he hb
variable {T newId:String}{kw:List (Str×Br)}
section
variable {prog:Dc}{w:E2}{A:Ds}{E:Br->Bx->Prop}{s:Bx}
theorem f6r{self:Br}{rest:List Br}(hl:Qw (.type T) "__init__"=pure (some (.builtin "object.__init__")))
  (hm:Bind.madeBy (.type T)=pure (some newId)) (hne:(some newId != some "object.__new__")=true) :
  Meets (Pl.«object.__init__» ⟨self :: rest, kw⟩) (fun _ R s => s.TypeIs self T /\ R (.ok (.ret .none)) s) := by
 refine Meets.of_wp fun prog w A R s hs=>?_
 obtain⟨hT,hq⟩:=hs
 cases rest with
 | nil =>
  cases kw with
  | nil=>exact Cf ⟨_,rfl,hq⟩
  | cons a kw =>
   repeat (any_goals (first | assumption | wp_step))
   exact⟨_,rfl,hq⟩
 | cons a rest =>
  repeat (any_goals (first | assumption | wp_step))
  exact⟨_,rfl,hq⟩
theorem h6p{Bn:Pl}{args:List Br}{S:PySem.Spec}{Q:Br->Bx->Prop}(ft:TypeCalled T newId "object.__init__")
  (hne:(some newId != some "object.__new__")=true) (hct:checkTypeCall T ⟨args,kw⟩=pure ()) (hcn:checkBuiltinCall newId ⟨.type T :: args,kw⟩=pure ())
  (hok:∀ obj,argsOk "object.__init__" ⟨obj :: args,kw⟩) (entryN:entryFor table newId=some Bn) (g:Meets (Bn ⟨.type T :: args,kw⟩) S)
  (h:S A.in1 (wants (fun obj Ae=>Ae.TypeIs obj T/\Q obj Ae) E) s):Ch (model prog w) A (call (.type T) args kw) Q E s:=by
 obtain⟨c,tl,hmro⟩:=ft.mro
 have hmade:=ft.made
 have hsub:=ft.sub
 refine Qu (codeAny_of_tree ?_)
 show Ch _ _ (callAny (.type T) _) _ _ _
 refine Cf ⟨Code.quiet_builtin _ (by decide +kernel),codeAny_builtin F.entry_type_call ?_⟩
 rw [Around.under_plain (weight_type_call_type T args kw) (units_type_call_type T args kw)]
 have h1:=ft.notType
 have h2:=ft.canCreate
 repeat (any_goals (first | assumption | wp_step))
 refine Iz (Q4 ft.plain entryN (wpAny_of_eq hcn (g prog w A.in1 _ s h))) fun r Ae hr=>?_
 cases r with
 | error e=>exact hr
 | ok fl =>
  cases fl with
  | ret obj =>
   obtain⟨hT,hq⟩:=hr
   have hli:=ft.init.lookup
   have hbi:=ft.init.bind obj
   repeat (any_goals (first | assumption | wp_step))
   refine Iz (Q4 ft.init.plain F.entry_object_init (ft.init.check _ _ _ _ _ _ _ _ hT (hok obj) (f6r ft.init.lookup ft.made hne prog w A.in1 (wants (fun r Ac=>r = .none/\Q obj Ac) E) Ae ⟨hT,rfl,hq⟩))) fun Bg Ac Aq=>?_
   cases Bg with
   | error e=>exact Aq
   | ok Be =>
    cases Be with
    | ret r =>
     obtain⟨rfl,hq⟩:=Aq
     repeat (any_goals (first | assumption | wp_step))
    | _=>exact Aq.elim
  | _=>exact hr.elim
end
theorem g0b(a v:Br):checkTypeCall "enumerate" ⟨[a],[(B0 "start",v)]⟩=pure ():=by kernel_rfl
theorem g3w(a v:Br):checkBuiltinCall "enumerate.__new__" ⟨[.type "enumerate",a],[(B0 "start",v)]⟩=pure ():=by kernel_rfl
theorem h6q(a b v:Br):argsOk "object.__init__" ⟨[a,b],[(B0 "start",v)]⟩:=by
 unfold argsOk
 kernel_rfl
theorem h2f(l:Addr)(items:Array Br)(n:Int)(t:Tok)(h1 : -(2 ^ 62)<=n)(h2:n < 2 ^ 62) :
  Meets (Pl.«enumerate.__new__» ⟨[.type "enumerate", .ref l], [(B0 "start", .int n t)]⟩) (fun _ R s => s.heap.IsList l items ∧
   R (.ok (.ret (.ref (s.heap.push (itO true l)).objs.size))) { s with heap:=(s.heap.push (itO true l)).push { cls:=.type "enumerate",data:=.fields #[.none,.bool false,.ref s.heap.objs.size,Ke n,.none,.none] } }) :=
 .of_wp fun prog w A R s h=>by
  obtain⟨hp,g,d,tk,os⟩:=s; obtain⟨hl,h⟩:=h
  have hsub:=sub_enumerate
  have hfi:Jh n=true:=by
   unfold Jh
   simp
   lia
  have hL:Heap.IsList (Mz ⟨hp,g,d,tk,os⟩) l items:=hl
  wp_walk
  refine wpAny_stack_any fun st=>Cf ?_
  split
  .rename_i c _ _ _ _ _
   cases (c == Ly "enumerate")
   .wp_walk using Gj hL
    exact⟨_,rfl,h⟩
   .wp_walk using Gj hL
    exact⟨_,rfl,h⟩
  .wp_walk using Gj hL
   exact⟨_,rfl,h⟩
section
variable {prog:Dc}{w:E2}{A:Ds}{E:Br->Bx->Prop}{s:Bx}
theorem h6r{n:Int}{t:Tok}{Q:Br->Bx->Prop}(hL:s.heap.IsList l items)(h1 : -(2 ^ 62)<=n)(h2:n < 2 ^ 62)
  (h:∀ h',Li h' (s.heap.objs.size+1) s.heap.objs.size n .none->h'.IsListIter s.heap.objs.size l 0->(∀ b o,s.heap.get? b=some o->h'.get? b=some o)->Q (.ref (s.heap.objs.size+1)) { s with heap:=h' }) :
  Ch (model prog w) A (call (.type "enumerate") [.ref l] [(B0 "start",.int n t)]) Q E s:=by
 refine h6p F.called_enumerate (by decide) (g0b _ _) (g3w _ _) (fun obj=>h6q obj _ _) F.entry_enumerate_new (h2f l items n t h1 h2) ⟨hL,?_⟩
 have hz:(s.heap.push (itO true l)).objs.size=s.heap.objs.size+1:=Gf ..
 have g2:((s.heap.push (itO true l)).push { cls:=.type "enumerate",data:=.fields #[.none,.bool false,.ref s.heap.objs.size,Ke n,.none,.none] }).get? (s.heap.push (itO true l)).objs.size=some _:=Cg _ rfl
 have g1:((s.heap.push (itO true l)).push { cls:=.type "enumerate",data:=.fields #[.none,.bool false,.ref s.heap.objs.size,Ke n,.none,.none] }).get? s.heap.objs.size=some (itO true l):=Bt _ (Cg _ rfl)
 show _/\_
 rw [hz] at g2 ⊢
 exact⟨⟨_,g2,rfl⟩,h _ g2 ⟨_,g1,rfl,rfl⟩ fun b o e=>Bt _ (Bt _ e)⟩
variable {Q:Option Br->Bx->Prop}
theorem h2g{e:Addr}{n:Int}{x old:Br}(he:Li s.heap e it n old)(hit:s.heap.IsListIter it l i)(hl:s.heap.IsList l items)(hx:items[i]? = some x)(hne:e≠it)
  (hQ:∀ h',IsEnumOut h' e it (n+1) x s.heap.objs.size->h'.IsListIter it l (i+1)->h'.get? s.heap.objs.size=some { cls:=.type "tuple",data:=.seq #[.int n s.toks,x] } ->
   (∀ b o,b≠e->b≠it->s.heap.get? b=some o->h'.get? b=some o)->Q (some (.ref s.heap.objs.size)) { s with heap:=h',toks:=s.toks+1 }) :
  Ch (model prog w) A (Kf (.ref e)) Q E s:=by
 have hT:s.TypeIs (.ref e) "enumerate":=⟨_,he,rfl⟩
 unfold Kf
 refine Bp (Le (En (name:=B0 "__next__") hT Hw
  (Fe Hw hT Oe ?_ (Nz _))))
 obtain⟨hp,g,d,tk,os⟩:=s
 show Ch _ _ (field (.ref e) 2 >>= _) _ _ _
 refine Bp (E1 he rfl (x:=.ref it) rfl ?_)
 refine Bp (Pc hit hl hx fun g1 hit1 s1=>?_)
 replace s1:E7 it hp g1:=s1
 have he1:Li g1 e it n old:=(s1.2 e hne).trans he
 show Ch _ _ (field (.ref e) 3 >>= _) _ _ ⟨g1,g,d,tk,os⟩
 refine Bp (E1 he1 rfl (x:=Ke n) rfl ?_)
 show Ch _ _ (field (.ref e) 4 >>= _) _ _ ⟨g1,g,d,tk,os⟩
 refine Bp (E1 he1 rfl (x:=.none) rfl ?_)
 show Ch _ _ (mkInt n >>= _) _ _ ⟨g1,g,d,tk,os⟩
 refine Bp (wpAny_mkInt ?_)
 show Ch _ _ (setField (.ref e) 3 (Ke (n+1)) >>= _) _ _ ⟨g1,g,d,tk+1,os⟩
 refine Bp (Ea he1 (by simp) fun g2 he2 s2=>?_)
 replace s2:E7 e g1 g2:=s2
 replace he2:Li g2 e it (n+1) old:=he2
 show Ch _ _ (setField (.ref e) 4 .none >>= _) _ _ ⟨g2,g,d,tk+1,os⟩
 refine Bp (Ea he2 (by simp) fun g3 he3 s3=>?_)
 replace s3:E7 e g2 g3:=s3
 replace he3:Li g3 e it (n+1) old:=he3
 show Ch _ _ (newTuple [.int n tk,x] >>= _) _ _ ⟨g3,g,d,tk+1,os⟩
 refine Bp (wpAny_newTuple ?_)
 have he4:Li (g3.push { cls:=.type "tuple",data:=.seq #[.int n tk,x] }) e it (n+1) old:=Bt _ he3
 generalize hh4:g3.push { cls:=.type "tuple",data:=.seq #[.int n tk,x] }=g4 at he4
 have hsz:g3.objs.size=hp.objs.size:=by rw [s3.1,s2.1,s1.1]
 have hel:e < hp.objs.size:=Cc he
 have ht4:g4.get? hp.objs.size=some { cls:=.type "tuple",data:=.seq #[.int n tk,x] }:=by rw [<- hh4,<- hsz]; exact Cg _ rfl
 have hk4:∀ b o,b≠e->b≠it->hp.get? b=some o->g4.get? b=some o:=fun b o hbe hbi hb=>by
  rw [<- hh4]; exact Bt _ (s3.extBut b o hbe (s2.extBut b o hbe (s1.extBut b o hbi hb)))
 have hit4:g4.IsListIter it l (i+1):=by
  rw [<- hh4]; exact hit1.at fun o ho=>Bt _ (s3.extBut _ _ (Hk hne) (s2.extBut _ _ (Hk hne) ho))
 show Ch _ _ (Dw (.ref e) >>= _) _ _ ⟨g4,g,d,tk+1,os⟩
 rw [hsz]
 clear hh4 he3 s3 he2 s2 he1 s1 hit1 hsz g3 g2 g1
 refine Bp ?_
 unfold Dw
 refine Bp (E1 he4 rfl (x:=.none) rfl (Cf ?_))
 simp only [if_true]
 refine Bp (N8 ?_)
 refine Bp (E1 he4 rfl (x:=old) rfl ?_)
 refine Bp (Ea he4 (by simp) fun g5 he5 s5=>?_)
 replace s5:E7 e g4 g5:=s5
 replace he5:Li g5 e it (n+1) x:=he5
 show Ch _ _ (Er (.ref e) (.ref hp.objs.size) >>= _) _ _ ⟨g5,g,d,tk+1,os⟩
 refine Bp ?_
 unfold Er
 refine Bp (Ea he5 (by simp) fun g6 he6 s6=>?_)
 replace s6:E7 e g5 g6:=s6
 replace he6:IsEnumOut g6 e it (n+1) x hp.objs.size:=he6
 refine Ea he6 (by simp) fun g7 he7 s7=>?_
 replace s7:E7 e g6 g7:=s7
 replace he7:IsEnumOut g7 e it (n+1) x hp.objs.size:=he7
 refine Bp (Ml (Cf ⟨_,rfl,Cf (hQ g7 he7 ?_ ?_ ?_)⟩))
 .exact hit4.at fun o ho=>s7.extBut _ _ (Hk hne) (s6.extBut _ _ (Hk hne) (s5.extBut _ _ (Hk hne) ho))
 .exact s7.extBut _ _ (Gn hel) (s6.extBut _ _ (Gn hel) (s5.extBut _ _ (Gn hel) ht4))
 .exact fun b o hbe hbi hb=>s7.extBut b o hbe (s6.extBut b o hbe (s5.extBut b o hbe (hk4 b o hbe hbi hb)))
theorem h6s{e:Addr}{n:Int}{old:Br}(hh:A.handled=none)(he:Li s.heap e it n old)(hit:s.heap.IsListIter it l i)(hl:s.heap.IsList l items)(hx:items[i]? = none)
  (hQ:∀ h',Lj it s.heap h'->Q none { s with heap:=h' }):Ch (model prog w) A (Kf (.ref e)) Q E s:=by
 have hT:s.TypeIs (.ref e) "enumerate":=⟨_,he,rfl⟩
 unfold Kf
 refine Bp (Le (En (name:=B0 "__next__") hT Hw
  (Fe Hw hT Oe ?_ (Nz _))))
 show Ch _ _ (field (.ref e) 2 >>= _) _ _ _
 refine Bp (E1 he rfl (x:=.ref it) rfl ?_)
 refine Bp (Pr hh hit hl hx fun h' x he' hx'=>?_)
 obtain⟨o,ho,hc⟩:=hx'
 refine Bp (wpAny_isInstance (T:="StopIteration") (b:=true) ⟨o,ho,hc⟩ isSubtype_stop ?_)
 exact Cf (hQ _ he')
end
noncomputable def Ite(K:Bw)(l:Addr)(n:Int):It :=
 ⟨fun i H=>∃ xs x,SqL K H l xs/\xs[i]? = some x,
  fun i H v H'=>∃ p x,v = .ref p ∧ H p=none ∧ H'=upd H p (.tup [.int (n+(i:Int)),x]) ∧ ∀ xs,SqL K H l xs → xs[i]? = some x,
  fun i H=>∃ xs,SqL K H l xs ∧ xs.length ≤ i⟩
variable {w:E2}{n:Int}
theorem h6t{e:Addr}(hne:e≠it) :
  Turn P w K (.Tuple elts kk tpos) (Ite K l n) [e,it] e (fun i h=>(∃ old,Li h e it (n+(i:Int)) old)/\h.IsListIter it l i) where
 mem:=by simp
 obj:=fun i h st b hb=>by
  obtain⟨⟨old,he⟩,⟨o1,e1,_,d1⟩⟩:=st
  simp only [Db,Eo,or_false] at hb
  rcases hb with rfl | rfl
  .exact⟨_,he,fun v z=>by cases z⟩
  .exact⟨_,e1,fun v z=>by rw [d1] at z; cases z⟩
 keep:=fun i h h' st k=>by
  obtain⟨⟨old,he⟩,h1⟩:=st
  exact⟨⟨old,k e (by simp) _ he⟩,h1.at fun o e=>k it (by simp) o e⟩
 item:=by
  intro X hP hw hK hc i pins s O H E I hf st hg
  subst hP hw hK
  obtain⟨xs,x,hq1,hx⟩:=hg
  obtain⟨us,r1,p1,_⟩:=I.list hq1
  obtain⟨u,hu,ru⟩:=r1.get hx
  obtain⟨⟨old,he⟩,h1⟩:=st
  refine h2g he h1 p1.isList (x:=u) (by simpa using hu) hne fun h' he' h1' pT kk'=>?_
  refine⟨.ref s.heap.objs.size,rfl,wpAny_letOwnedTupleGo_enum (s:={ s with heap:=h',toks:=s.toks+1 }) he' fun h'' he'' sb=>?_⟩
  replace sb:E7 e h' h'':=sb
  have k2:∀ c o,c∉[e,it]->s.heap.get? c=some o->h''.get? c=some o:=fun c o hc q=>by
   simp only [Db,Eo,or_false,not_or] at hc
   exact sb.extBut _ _ hc.1 (kk' c o hc.1 hc.2 q)
  have I1:Inv X pins O H { s with heap:=h'',toks:=s.toks+1 }:=I.g0a (t':=s.toks+1) k2 hf
  have elt:e < s.heap.objs.size:=Cc he
  have pT2:h''.get? s.heap.objs.size=some { cls:=.type "tuple",data:=.seq #[.int (n+(i:Int)) s.toks,u] }:=sb.extBut _ _ (Gn elt) pT
  have fo:=I.i0m (b:=s.heap.objs.size) (C0 _) (I.hok.fresh (C0 _))
  have nT:H s.heap.objs.size=none:=I.hok.fresh (C0 _)
  have I2:Inv X pins O (upd H s.heap.objs.size (.tup [.int (n+(i:Int)),x])) { s with heap:=h'',toks:=s.toks+1 }:=by
   refine I1.track ?_ fo.2.1 fo.2.2.2.2.1 fo.2.2.2.2.2 nT ⟨two_line,[.int (n+(i:Int)) s.toks,u],.cons ⟨_,rfl⟩ (.cons ru .nil),⟨_,pT2,rfl,0,rfl⟩⟩
   cases q:X.s₀.heap.get? s.heap.objs.size with
   | none=>rfl
   | some o=>exact absurd (Cr (Cc q) I.sz) (Fk _)
  have ne:∀ b∈[e,it],b≠s.heap.objs.size:=fun b hb q=>by
   have lt:b < s.heap.objs.size:=by
    simp only [Db,Eo,or_false] at hb
    rcases hb with rfl | rfl
    .exact elt
    .obtain⟨_,z,_⟩:=h1; exact Cc z
   exact D2 lt q
  refine⟨.ref s.heap.objs.size,_,I2,rfl,⟨_,x,rfl,nT,rfl,fun xs' h=>by rw [I.f9o h hq1]; exact hx⟩,
   ⟨⟨_,by rw [Gx,<- Int.add_assoc]; exact he''⟩,h1'.at fun o z=>sb.extBut _ _ (Hk hne) z⟩,fun b hb=>by rw [a3w (ne b hb)]; exact (hf b hb).1⟩
 done:=by
  intro X hP hw hK hc i pins s O H E I hf st hg
  subst hP hw hK
  obtain⟨xs,hq1,hle⟩:=hg
  obtain⟨us,r1,p1,_⟩:=I.list hq1
  obtain⟨⟨old,he⟩,h1⟩:=st
  have l1':=r1.length
  refine h6s (I.ok.hd hc) he h1 p1.isList (by simp; lia) fun h' kk'=>⟨rfl,I.g0a (t':=s.toks) (fun c o hc q=>?_) hf⟩
  simp only [Db,Eo,or_false,not_or] at hc
  exact kk' c o hc.2 q
 self:=fun _ _ _ _ _ st h=>by
  obtain⟨⟨old,he⟩,_⟩:=st
  exact Rl he h
section
variable {M:Model}{A:Ds}{E:Br->Bx->Prop}{s:Bx}{env:Env}
theorem h2i{rest:List Expr}{kws:List Jw}{Q:Br->Bx->Prop}
  (h:Ch M A (spliced (Ew pos (Cs (e :: rest) env))) (fun vs Ae=>Ch M A (evalAll ((Gc pos (Et kws env)).map (·.2)))
   (fun kvs Ac=>Ch M A (call (.type T) vs (((Gc pos (Et kws env)).filterMap (·.1)).zip kvs)) Q E Ac) E Ae) E s)
  (he:Ew pos (Cs (e :: rest) env)=(false,eval e env) :: Ew pos (Cs rest env))
  (hp:(Ew pos (Cs (e :: rest) env)).any (·.1)=false)
  (ha:(Gc pos (Et kws env)).all (·.1.isSome)=true)
  (hk:(Gc pos (Et kws env)).any (·.1.isNone)=false) :
  Ch M A (Nc pos (.type T) [] (Ew pos (Cs (e :: rest) env)) (Gc pos (Et kws env))) Q E s:=by
 have g:Ch M A (evalArgs (.type T) true (Ew pos (Cs (e :: rest) env)) (Gc pos (Et kws env))) (fun a Ae=>Ch M A (call (.type T) ([]++a.pos) a.kw) Q E Ae) E s:=by
  rw [he] at h ⊢
  exact evalArgs_kwB ha h
 unfold Nc
 refine Bp (Lc (Dv g (fun a Ae Ak=>Bp (Ik ?_)) fun _ _ x=>x))
 simp only [hp,hk,Rk]
 refine Bp (Cf ?_)
 exact Bp (Dv Ak (fun r Ac hr=>Bp (Lc (wpAny_point (Cf hr)))) fun _ _ x=>x)
end
def j4r(K:Bw)(t tk:TA):TI:=fun O H R=>t O H fun vs H1=>tk O H1 fun zs H2=>match vs,zs with
 | [.ref l],[.int n]=>(match H2 l with
  | some (.lst _) => -(2 ^ 62)<=n/\n < 2 ^ 62/\R (Ite K l n) H2
  | _=>False)
 | _,_=>False
theorem i7r{d:Expr}{t tk:TA}{p kp:Pos}(hg:Gl X "enumerate")(hm:X.mg "enumerate"=none)(ha:PA X [e] t)(hk:PK X [⟨some "start",d,kp⟩] tk)
  (he:Ew pos (Cs [e] X.env)=(false,eval e X.env) :: Ew pos (Cs [] X.env):=by rfl) (hpl:(Ew pos (Cs [e] X.env)).any (·.1)=false:=by rfl) :
  PI X (.Tuple elts kk tpos) (.Call (.Name "enumerate" p) [e] [⟨some "start",d,kp⟩] pos) (j4r X.K t tk):=by
 intro pins s O H R I h
 refine G7 (f1t I hg hm boot_enumerate ?_)
 refine h2i (h1j (ha pos pins s O H _ I h) fun us s1 vs H1 I1 r q=>h1j (hk pos pins s1 O H1 _ I1 q) fun ws s2 zs H2 I2 rz q2=>?_) he hpl rfl rfl
 obtain _ | ⟨zz,vs⟩:=vs
 .exact Bq q2
 obtain⟨l,rfl⟩:∃ l,zz = .ref l:=by cases zz <;> first | exact⟨_,rfl⟩ | exact Bq q2
 obtain rfl:vs = []:=by
  cases vs with
  | nil=>rfl
  | cons _ _=>exact Bq q2
 obtain _ | ⟨zz,zs⟩:=zs
 .exact Bq q2
 obtain⟨n,rfl⟩:∃ n,zz = .int n:=by cases zz <;> first | exact⟨_,rfl⟩ | exact Bq q2
 obtain rfl:zs = []:=by
  cases zs with
  | nil=>rfl
  | cons _ _=>exact Bq q2
 .obtain⟨u,e0,ra⟩:=r.one
  obtain⟨u',e1,td,ed⟩:=rz.one
  cases ra
  subst e0 e1 ed
  have q':(match H2 l with
   | some (.lst _) => -(2 ^ 62)<=n/\n < 2 ^ 62/\R (Ite X.K l n) H2
   | _=>False):=q2
  split at q'
  .rename_i xs e
   obtain⟨b1,b2,q3⟩:=q'
   obtain⟨us,r1,p1,_⟩:=I2.list (SqL.of e)
   show Ch _ _ (call (.type "enumerate") [.ref l] [(B0 "start",.int n td)]) _ _ s2
   refine h6r p1.isList b1 b2 fun h' hz h1 hk=>?_
   refine Rl (s:={ s2 with heap:=h' }) hz ?_
   have D:s2.heap.objs.size+1≠s2.heap.objs.size:=Nat.succ_ne_self _
   refine⟨_,[s2.heap.objs.size+1,s2.heap.objs.size],_,_,H2,rfl,I2.kept (t':=s2.toks) hk,h6t D,⟨⟨_,by rw [Int.natCast_zero,F4]; exact hz⟩,h1⟩,fun b hb=>?_,q3⟩
   have hb':s2.heap.objs.size<=b:=by
    simp only [Db,Eo,or_false] at hb
    rcases hb with rfl | rfl
    .exact Hr _ _
    .exact C0 _
   exact I2.i0m hb' (I2.hok.fresh hb')
  .exact q'.elim
theorem g7b(Pv:Nat->List V->Hp->Prop)(h0:Pv 0 [] H)(hsz:xs.length<=Cb)
  (hD:∀ i zs H,i<=xs.length->Pv i zs H->H D=some (.lst zs)/\SqL K H l xs/\zs.length=i)
  (hs:∀ i x zs H p H',xs[i]? = some x->Pv i zs H->H p=none->Same H H'->H' p=some (.tup [.int (n+(i:Int)),x])->te (some (.int (n+(i:Int))) :: some x :: O) H' fun z H2=>H2 D=some (.lst zs)/\∀ H3,a2j D H2 H3->H3 D=some (.lst (zs++[z]))->Pv (i+1) (zs++[z]) H3)
  (hd:∀ zs H,Pv xs.length zs H->Q (.ref D) H):g3v (Ite K l n) te D O H Q ⟨⟩:=by
 refine⟨xs.length,Pv,h0,fun i zs H hi p=>?_⟩
 obtain⟨e1,e2,e4⟩:=hD i zs H hi p
 refine⟨e1,?_⟩
 by_cases hlt:i < xs.length
 .have hx : xs[i]? = some (xs[i]'(by lia)) := By _
  refine .inr ⟨hlt,⟨xs,_,e2,hx⟩,by lia,fun v H' q=>?_⟩
  obtain⟨q,x,rfl,nq,rfl,k1⟩:=q
  exact⟨q,_,x,rfl,a2v,hs i x zs H q _ (k1 _ e2) p nq (Same.upd nq) a2v⟩
 .have e:i=xs.length:=by lia
  subst e
  exact .inl ⟨⟨xs,e2,C0 _⟩,hd zs H p⟩
def j4s(chk:V->Hp->Bool)(r:V->List V->Hp->VK->Prop)(to:TE):TE:=fun O H Q=>to O H fun x H1=>chk x H1=true/\r x [] H1 Q
section
variable {X:Cx}{o:Expr}{to:TE}{name:Str}{apos cpos:Pos}{T id:String}{r:V->List V->Hp->VK->Prop}{chk:V->Hp->Bool}
theorem i7s(hchk:∀ x H,chk x H=true->tyV X.K T x H)(pa:PlainAttrs T)(slot:Slot T name id)(hty:typeOf (.builtin id)=pure (.type "method_descriptor"))(hm:MtR X id r)(ho:PE X o to)
  (hbase:Fb o name X.env (eval o X.env)=eval o X.env:=by rfl) (hline:(apos.endLine == cpos.line)=true:=by rfl):PE X (.Call (.Attribute o name apos) [] [] cpos) (j4s chk r to):=by
 intro pins s O H Q I h
 refine Ol hbase hline (thn (ho pins s O H _ I h) fun v s1 ⟨x,H1,I1,r1,ty,q1⟩=>?_)
 obtain⟨h1,h2⟩:=h5l I1 r1 (hchk x H1 ty)
 exact⟨T,id,pa,slot,hty,h1,h2,Je rfl (Nu (hm pins s1 O H1 x [] v [] Q I1 r1 .nil q1))⟩
noncomputable def j4t:V->List V->Hp->VK->Prop:=fun x vs H Q=>match x,vs with
 | .str z,[.ref l]=>(match H l with
  | some (.lst xs)=>∃ ys:List Str,xs=ys.map V.str/\Rc z ys=true/\Q (.str (Kv z ys)) H
  | _=>False)
 | _,_=>False
theorem f8g:∀ {ys:List Str} {us:List Br},Vals (ys.map V.str) us->∃ l:List (Str×Tok),us=strValues l/\l.map (·.1)=ys
 | [],_,h=>by
  cases h
  exact⟨[],rfl,rfl⟩
 | y :: ys,_,h=>by
  cases h with
  | cons a b =>
   obtain⟨t,rfl⟩:=a
   obtain⟨l,rfl,e⟩:=f8g b
   exact⟨(y,t) :: l,rfl,by rw [Es,e]⟩
theorem i2a:MtR X "str.join" j4t:=by
 intro pins s O H x vs v us Q I rx rv h
 obtain⟨z,rfl⟩:∃ z,x = .str z:=by cases x <;> first | exact⟨_,rfl⟩ | exact Bq h
 obtain _ | ⟨zz,vs⟩:=vs
 .exact Bq h
 obtain⟨l,rfl⟩:∃ l,zz = .ref l:=by cases zz <;> first | exact⟨_,rfl⟩ | exact Bq h
 obtain rfl:vs = []:=by
  cases vs with
  | nil=>rfl
  | cons _ _=>exact Bq h
 .have h':(match H l with
   | some (.lst xs)=>∃ ys:List Str,xs=ys.map V.str/\Rc z ys=true/\Q (.str (Kv z ys)) H
   | _=>False):=h
  split at h'
  .rename_i xs hH
   obtain⟨ys,rfl,ok,q⟩:=h'
   obtain⟨t,rfl⟩:=rx
   obtain⟨u,rfl,ru⟩:=rv.one
   cases ru
   obtain⟨its,n,r,ho,hz⟩:=I.lst hH
   obtain⟨lt,rfl,e⟩:=f8g r
   exact SC.join ⟨_,ho,rfl,_,rfl⟩ e ok fun t' k=>⟨.str _,H,I.tok k,⟨_,rfl⟩,q⟩
  .exact h'.elim
end
variable {n:Nat}
theorem joinOk_of{z:Str}{ys:List Str}(h:∀ y∈ys,y.length<=n)(hl:ys.length*(n+z.length)<=Cb):Rc z ys=true:=by
 unfold Rc
 have:∀ (ys:List Str) (a:Nat),(∀ y∈ys,y.length<=n)->ys.foldl (· + ·.length+z.length) a<=a+ys.length*(n+z.length):=by
  intro ys
  induction ys with
  | nil=>intro a _; simp
  | cons y ys ih =>
   intro a h
   have i:=ih (a+y.length+z.length) fun y hy=>h y (Ci _ hy)
   have hy:=h y (Ce ..)
   rw [Qf,Cq,Jk]
   omega
 have t:=this ys 0 h
 rw [List.foldl_toArray]
 unfold Builtin.Str.tooLong
 simp
 omega
structure k0n(K:Bw)(w:E2)(d:Addr):Prop where
 lk:∃ es n,K.lookup d=some ⟨.type "dict",none,.dict es n,#[]⟩/\W.KeysLit w.params es.toList
 ns:(d == G8)=false
def rNiD(K:Bw)(w:E2)(neg:Bool):R2:=fun x y H Q=>match x,y with
 | .str z,.ref d=>k0n K w d/\∃ r,Cp K d z=some r/\Q (.bl (r.isSome != neg)) H
 | _,_=>False
variable {ps:List Str}
section
variable {X:Cx}
theorem h6u(eK:X.K=K)(eW:X.w=w):OpR X (Dl .NotIn) (rNiD K w true):=by
 subst eK eW
 intro pins s O H x y v u Q I rx ry h
 cases x <;> cases y <;> first | exact Bq h | skip
 .rename_i z d
  obtain⟨⟨⟨es,n,hl,hk⟩,hn⟩,r,e,q⟩:=h
  obtain⟨t,rfl⟩:=rx
  cases ry
  refine wpAny_notIn_of (Pe X.prog X.w z t) hn (W.mapOf_K (prog:=X.prog) I.kIn hl (hk)) ?_
  rw [W.find_K hl e]
  rw [J7] at q
  exact⟨.bl (!r.isSome),H,I.tok _,rfl,q⟩
def rIxD(K:Bw)(w:E2):R2:=fun x y H Q=>match x,y with
 | .ref d,.str z=>k0n K w d/\∃ f,Cp K d z=some (some (.ref f))/\Q (.ref f) H
 | _,_=>False
theorem j4u(eK:X.K=K)(eW:X.w=w):IxR X (rIxD K w):=by
 subst eK eW
 intro value slice pins s O H x y v u Q I rx ry h hs
 cases x <;> cases y <;> first | exact Bq h | skip
 .rename_i d z
  obtain⟨⟨⟨es,n,hl,hk⟩,hn⟩,f,e,q⟩:=h
  obtain⟨t,rfl⟩:=ry
  cases rx
  have hm:=W.mapOf_K (prog:=X.prog) (w:=X.w) I.kIn hl (hk)
  exact tail_any hm.typeIs slot_dict_getitem.lookup (wpAny_getItem_of (Pe X.prog X.w z t) hm (W.find_K hl e) ⟨.ref f,H,I.tok _,rfl,q⟩) hs
def j4v(f:Addr)(sp:Sp)(dvs:List V)(E:XK)(tg:TE)(t:TA):TE:=fun O H Q=>tg O H fun x H1=>x = .ref f/\i0z sp dvs E t O H1 Q
theorem d5r{CX:CXT}{k:Nat}{f:Addr}{fd:C8}{sp:Sp}{ds:List Br}{dvs:List V}{E:XK}{g:Expr}{es:List Expr}{tg:TE}{t:TA}(F:a1j X.prog X.w X.K X.mg X.base CX k f fd ps sp)(hr:b2u k X.A)(hk:Jj X.K (.ref f)=true)(hb:Binds X.K fd ps ds)(hd:Vals dvs ds)(hx:Passes CX X E)
  (hg:PE X g tg) (ha:PA X (e :: es) t) (he:Cs (e :: es) X.env=(false,eval e X.env) :: Cs es X.env:=by rfl) (hpl:(Ew pos (Cs es X.env)).any (·.1)=false:=by rfl)
  (hc:eval (.Call g (e :: es) [] pos) X.env=(do Nc pos (<- eval g X.env) [] (Ew pos (Cs (e :: es) X.env)) (Gc pos (Et [] X.env))):=by rfl) :
  PE X (.Call g (e :: es) [] pos) (j4v f sp dvs E tg t):=by
 intro pins s O H Q I h
 refine Call_ (thn (hg pins s O H _ I h) fun v s1 ⟨x,H1,I1,r1,ex,q1⟩=>?_) hc
 subst ex
 cases r1
 refine Lh (h₀:=X.base) I1.ok.mod.kin hk (h1j (ha pos pins s1 O H1 _ I1 q1) fun us s2 vs H2 I2 r q=>⟨I2.kIn,?_⟩) he hpl
 exact g9l F hr hb hd hx I2 r q
theorem SP.k0o{D:Ends}{f:Flow}{s:Bx}(h:SP X.nox pins D f s):SP X pins D f s:=by
 cases f with
 | next=>obtain⟨a,b,c,d⟩:=h; exact⟨a,b,c.c9l,d⟩
 | brk=>obtain⟨a,b,c,d⟩:=h; exact⟨a,b,c.c9l,d⟩
 | cont=>obtain⟨a,b,c,d⟩:=h; exact⟨a,b,c.c9l,d⟩
 | ret u=>obtain⟨v,a,b,c,d⟩:=h; exact⟨v,a,b,c.c9l,d⟩
theorem i7t{st:Stmt}{h₀:ExceptHandler}{hs:List ExceptHandler}(hb:PS X.nox st tb):PS X (.Try [st] (h₀ :: hs) [] [] pos) tb:=by
 intro pins s O H Dn I h
 refine wpAny_Try_except (Jq (Dv (hb pins s O H Dn (I.wish _) h) (fun f s1 q=>?_) fun e s1 z=>Bq z))
 have q':=SP.k0o q
 cases f with
 | next=>exact Gb (Gb q')
 | ret v=>exact q'
 | brk=>exact q'
 | cont=>exact q'
end
theorem g9z{c:Nat}:∀ {a a' b b':List Nat},a++c :: b=a'++c :: b'->c∉a->c∉a'->a=a'/\b=b'
 | [],[],_,_,h,_,_=>by simpa using h
 | [],d :: a',_,_,h,_,h2=>by
  rw [Ex,Fd,J4] at h
  exact absurd (by rw [h.1]; exact Ce) h2
 | d :: a,[],_,_,h,h1,_=>by
  rw [Ex,Fd,J4] at h
  exact absurd (by rw [h.1]; exact Ce) h1
 | d :: a,d' :: a',_,_,h,h1,h2=>by
  rw [Fd,Fd,J4] at h
  obtain⟨e1,e2⟩:=g9z h.2 (fun q=>h1 (Ci _ q)) (fun q=>h2 (Ci _ q))
  exact⟨by rw [h.1,e1],e2⟩
theorem b2w(c:Nat)(p q:Str)(r:List Str):sg (F9 ⟨#[c]⟩ (p :: q :: r))=sg p++c :: sg (F9 ⟨#[c]⟩ (q :: r)):=by
 show sg (p++⟨#[c]⟩++F9 ⟨#[c]⟩ (q :: r))=_
 rw [a3k,a3k,Eg]
 rfl
theorem g3x{c:Nat}:∀ {ps qs:List Str},ps≠[]->qs≠[]->(∀ p∈ps,c∉sg p)->(∀ q∈qs,c∉sg q)->sg (F9 ⟨#[c]⟩ ps)=sg (F9 ⟨#[c]⟩ qs)->ps=qs
 | [],_,h,_,_,_,_=>absurd rfl h
 | _ :: _,[],_,h,_,_,_=>absurd rfl h
 | [p],[q],_,_,_,_,e=>by
  rw [c3z (show sg p=sg q from e)]
 | [p],q :: q' :: qs,_,_,fp,_,e=>by
  rw [b2w] at e
  exact absurd (by rw [show sg p=_ from e]; simp) (fp p (Ce ..))
 | p :: p' :: ps,[q],_,_,_,fq,e=>by
  rw [b2w] at e
  exact absurd (by rw [show sg q=_ from e.symm]; simp) (fq q (Ce ..))
 | p :: p' :: ps,q :: q' :: qs,_,_,fp,fq,e=>by
  rw [b2w,b2w] at e
  obtain⟨e1,e2⟩:=g9z e (fp p (Ce ..)) (fq q (Ce ..))
  rw [c3z e1,g3x (by simp) (by simp) (fun x hx=>fp x (Ci _ hx)) (fun x hx=>fq x (Ci _ hx)) e2]
theorem h6v(x y:Str):b9r x y=Q6 x y:=rfl
theorem i2b(x y:Str):Q6 x y≠[]:=by
 unfold Q6
 split
 .simp
 .split
  .simp
  .rw [StrLaws.partsBetween_eq]
   obtain⟨p,r,e⟩:=StrLaws.partsFrom_ne x y.length 0 (Eb x y 0 x.length (x.length+1))
   rw [e]
   simp
theorem d7i{x:Str}{c:Nat}(hn:ps≠[])(hf:∀ p∈ps,c∉sg p)(h:sg x=sg (F9 ⟨#[c]⟩ ps)):b9r x ⟨#[c]⟩=ps:=by
 rw [h6v]
 refine g3x (c:=c) (i2b _ _) hn (fun p hp=>StrLaws.split_free x c p hp) hf ?_
 rw [StrLaws.join_split,h]
def b0k(t t':TE):TE:=fun O H Q=>t O H Q\/t' O H Q
theorem a2q{t t':TE}(h:PE X e t)(h':PE X e t'):PE X e (b0k t t'):=fun pins s O H Q I z=>z.elim (h pins s O H Q I) (h' pins s O H Q I)
theorem i2c:∀ (k n:Nat),n < 10 ^ (k+1)->(dg n).length<=k+1
 | 0,n,h=>by
  rw [g6x (by lia)]
  exact C0 _
 | k+1,n,h=>by
  rcases F0 n 10 with z | z
  .rw [g6x z,Cw]
   lia
  .have e:n=10*(n / 10)+n % 10:=by lia
   rw [e,f2r (by lia) (by lia),C1,Cw]
   have:=i2c k (n / 10) (by rw [L0] at h; lia)
   lia
theorem i7u(hK:X.K=K)(hu:X.A.units+64 < Im):OpR X (Dl .Eq) (j0x K):=hK▸j3h hu
theorem i7v(hK:X.K=K)(hu:X.A.units+64 < Im):OpR X (Dl .NotEq) (j0y K):=hK▸j3i hu
theorem g7c(Pv:Nat->List V->Hp->Prop)(h0:Pv 0 [] H)(hsz:xs.length<=Cb)
  (hD:∀ i ys H,i<=xs.length->Pv i ys H->H D=some (.lst ys)/\SqL K H a xs/\ys.length=i)
  (hs:∀ i x ys H,xs[i]? = some x->Pv i ys H->∃ p u v,x = .ref p/\H p=some (.tup [u,v])/\te (some u :: some v :: O) H fun y H2=>H2 D=some (.lst ys)/\∀ H3,a2j D H2 H3->H3 D=some (.lst (ys++[y]))->Pv (i+1) (ys++[y]) H3)
  (hd:∀ ys H,Pv xs.length ys H->Q (.ref D) H):g3v (Itl K a) te D O H Q ⟨⟩:=by
 refine⟨xs.length,Pv,h0,fun i ys H hi p=>?_⟩
 obtain⟨e1,e2,e3⟩:=hD i ys H hi p
 refine⟨e1,?_⟩
 by_cases hlt:i < xs.length
 .refine .inr ⟨hlt,⟨xs,xs[i],e2,by simp [hlt]⟩,by lia,fun x H' y=>?_⟩
  obtain⟨e,y⟩:=y
  subst e
  exact hs i x ys _ (y xs e2) p
 .have e:i=xs.length:=by lia
  subst e
  exact .inl ⟨⟨xs,e2,C0 _⟩,hd ys H p⟩
open PySem.Builtin.Int (intBits)
noncomputable def fW(x:Rat):Str:=F6++B0 (toString x.num)++B0 "/"++B0 (toString (x.den:Int))
noncomputable def cW(c:Int×Rat):Str:=F6++B0 (toString c.1)++B0 "="++fW c.2
noncomputable def nW(n:Nat):Str:=B0 (toString (n:Int))
def YOk(y:Rat):Prop:=y.num.natAbs<=1000/\y.den<=1000
inductive Dt where
 | gain (y:Rat)
 | delay (n:Nat)
 | echo (y:Rat) (n t:Nat)
 | back (y:Rat) (n:Nat)
 | hall (y:Rat) (n:Nat)
 | swell (cs:List (Int×Rat))
noncomputable def Dt.kd:Dt->Nat
 | .gain _=>0
 | .delay _=>1
 | .echo .. => 2
 | .back .. => 3
 | .hall .. => 4
 | .swell _=>5
noncomputable def Dt.kind:Dt->Str
 | .gain _=>B0 "gain"
 | .delay _=>B0 "delay"
 | .echo .. => B0 "echo"
 | .back .. => B0 "back"
 | .hall .. => B0 "hall"
 | .swell _=>B0 "swell"
noncomputable def Dt.vals:Dt->List Str
 | .gain y=>[fW y]
 | .delay n=>[nW n]
 | .echo y n t=>[fW y,nW n,nW t]
 | .back y n=>[fW y,nW n]
 | .hall y n=>[fW y,nW n]
 | .swell cs=>[F9 ⟨#[44]⟩ (cs.map cW)]
noncomputable def Dt.word(d:Dt):Str:=F9 ⟨#[58]⟩ (d.kind :: d.vals)
def g7d(cs:List (Int×Rat)):Prop:=(∀ c∈cs,0<=c.1/\c.1<=100000/\YOk c.2)/\(∀ (i:Nat) c d,cs[i]? = some c->cs[i+1]? = some d->c.1 < d.1)/\1<=cs.length/\cs.length<=12
noncomputable def Dt.ok:Dt->Prop
 | .gain y=>YOk y
 | .delay n=>n<=1000
 | .echo y n t=>YOk y/\1<=n/\n<=1000/\t<=16
 | .back y n=>YOk y/\1<=n/\n<=1000
 | .hall y n=>YOk y/\(y.num.natAbs:Int) < y.den/\1<=n/\n<=1000
 | .swell cs=>g7d cs
theorem c6g{t:Int}(h:t.natAbs < 2 ^ n)(hn:1<=n):t.natAbs.log2 < n:=by
 rcases Ha t.natAbs with z | z
 .rw [z]
  show Nat.log2 0 < n
  have:Nat.log2 0=0:=by decide
  lia
 .rw [Oh (by lia)]
  exact h
theorem c7g{t:Int}(h:t.natAbs < 2 ^ n)(hn:1<=n):(B0 (toString t)).length<=n+1:=by
 have e:(B0 (toString t)).length=(txt t).length:=by rw [<- d0k,c9m]
 have:=g6y t
 have:=c6g h hn
 lia
theorem d9j(h:n < 2 ^ 20):(nW n).length<=21:=c7g (t:=(n:Int)) (n:=20) (by omega) (by decide)
theorem YOk.b{y:Rat}(h:YOk y):intBits y.num<=10/\intBits (y.den:Int)<=10:=⟨D8.mpr (E3 h.1 (by decide)),D8.mpr (E3 (show (y.den:Int).natAbs<=1000 from h.2) (by decide))⟩
theorem d5s{x:Rat}(h1:intBits x.num<=10)(h2:intBits (x.den:Int)<=10):(fW x).length<=23:=by
 have a:=c7g (D8.mp h1) (by decide)
 have b:=c7g (D8.mp h2) (by decide)
 have e0:Str.empty.length=0:=rfl
 have e1:(B0 "/").length=1:=by decide +kernel
 unfold fW
 simp only [E6,e0,e1]
 lia
theorem i5e{c:Int×Rat}(h0:c.1.natAbs < 2 ^ 20)(h1:intBits c.2.num<=10)(h2:intBits (c.2.den:Int)<=10):(cW c).length<=45:=by
 have a:=c7g h0 (by decide)
 have b:=d5s h1 h2
 have e0:Str.empty.length=0:=rfl
 have e1:(B0 "=").length=1:=by decide +kernel
 unfold cW
 simp only [E6,e0,e1]
 lia
theorem i2d(n:Nat):sg (nW n)=txt (n:Int):=c9m _
theorem i7w(y:Rat):sg (fW y)=i1t y.num (y.den:Int):=by
 unfold fW i1t
 rw [a3k,a3k,a3k,c9m,c9m]
 have e4:sg F6 = []:=rfl
 have e5:sg (B0 "/") = [47]:=by decide +kernel
 rw [e4,e5]
 simp
theorem i7x(c:Int×Rat):sg (cW c)=txt c.1++61 :: sg (fW c.2):=by
 unfold cW
 rw [a3k,a3k,a3k,c9m]
 have e4:sg F6 = []:=rfl
 have e5:sg (B0 "=") = [61]:=by decide +kernel
 rw [e4,e5]
 simp
theorem i7y{y:Rat}(h:YOk y):Good (sg (fW y)) y.num (y.den:Int):=by
 have dp:=y.den_pos
 refine⟨i7w y,by omega,y.reduced,?_,?_⟩
 .exact i2c 8 _ (E3 h.1 (by decide))
 .exact i2c 8 _ (E3 (show (y.den:Int).natAbs<=1000 from h.2) (by decide))
theorem h2j{c:Nat}(h1:c≠45)(h2:57 < c)(y:Rat):c∉sg (fW y):=by
 rw [i7w]
 unfold i1t
 intro h
 rcases De.mp h with z | z
 .exact d3o h1 (.inr h2) z
 .rcases Db.mp z with z | z
  .lia
  .exact d3o h1 (.inr h2) z
theorem h6w{c:Nat}(h1:c≠45)(h2:c < 48\/57 < c)(n:Nat):c∉sg (nW n):=by
 rw [i2d]
 exact d3o h1 h2
theorem i7z(y:Rat):44∉sg (fW y):=by
 rw [i7w]
 unfold i1t
 intro h
 rcases De.mp h with z | z
 .exact d3o (by decide) (.inl (by decide)) z
 .rcases Db.mp z with z | z
  .lia
  .exact d3o (by decide) (.inl (by decide)) z
theorem i8a(c:Int×Rat):44∉sg (cW c):=by
 rw [i7x]
 intro h
 rcases De.mp h with z | z
 .exact d3o (by decide) (.inl (by decide)) z
 .rcases Db.mp z with z | z
  .lia
  .exact i7z _ z
theorem i8b(c:Int×Rat):58∉sg (cW c):=by
 rw [i7x]
 intro h
 rcases De.mp h with z | z
 .exact d3o (by decide) (.inr (by decide)) z
 .rcases Db.mp z with z | z
  .lia
  .exact h2j (by decide) (by decide) _ z
theorem h6x{c k:Nat}(hk:c≠k):∀ {ps:List Str},(∀ p∈ps,c∉sg p)->c∉sg (F9 ⟨#[k]⟩ ps)
 | [],_=>by
  show c∉([] : List Nat)
  simp
 | [p],h=>h p (Ce ..)
 | p :: q :: r,h=>by
  rw [b2w]
  intro z
  rcases De.mp z with z | z
  .exact h p (Ce ..) z
  .rcases Db.mp z with z | z
   .exact hk z
   .exact h6x hk (fun x hx=>h x (Ci _ hx)) z
theorem g3y{b:Nat}:∀ {l:List Nat},(∀ x∈l,x<=b)->l.sum<=l.length*b
 | [],_=>Dx _
 | x :: l,h=>by
  have i:=g3y (l:=l) fun y hy=>h y (Ci _ hy)
  have:=h x (Ce ..)
  rw [Ri,Cq,Jk]
  omega
theorem h0a{z:Str}(h:∀ p∈ps,p.length<=n):(F9 z ps).length<=ps.length*n+ps.length*z.length:=by
 have a:=StrLaws.join_length_le z ps
 have b:=g3y (b:=n) (l:=ps.map (·.length)) fun x hx=>by
  obtain⟨y,hy,rfl⟩:=E4.mp hx
  exact h y hy
 rw [Bv] at b
 have c:(ps.length - 1)*z.length<=ps.length*z.length:=Ek _ (Nat.sub_le _ _)
 lia
variable {cs:List (Int×Rat)}
theorem g7d.len(h:g7d cs):∀ c∈cs,(cW c).length<=45:=fun c hc=>by
 obtain⟨a,b,y⟩:=h.1 c hc
 exact i5e (by lia) y.b.1 y.b.2
theorem g7d.k0p(h:g7d cs):(F9 ⟨#[44]⟩ (cs.map cW)).length<=600:=by
 have a:=h0a (z:=⟨#[44]⟩) (ps:=cs.map cW) (n:=45) fun p hp=>by
  obtain⟨c,hc,rfl⟩:=E4.mp hp
  exact h.len c hc
 rw [Bv,f2q] at a
 have:=h.2.2.2
 lia
variable {d:Dt}
theorem Dt.free:∀ p∈d.kind :: d.vals,58∉sg p:=by
 cases d <;> intro p hp <;> simp only [Dt.kind,Dt.vals,Db,Eo,or_false] at hp
 case gain => rcases hp with rfl|rfl; decide +kernel; exact h2j (by decide) (by decide) _
 case delay => rcases hp with rfl|rfl; decide +kernel; exact h6w (by decide) (.inr (by decide)) _
 case echo => rcases hp with rfl|rfl|rfl|rfl; decide +kernel; exact h2j (by decide) (by decide) _; exact h6w (by decide) (.inr (by decide)) _; exact h6w (by decide) (.inr (by decide)) _
 case back => rcases hp with rfl|rfl|rfl; decide +kernel; exact h2j (by decide) (by decide) _; exact h6w (by decide) (.inr (by decide)) _
 case hall => rcases hp with rfl|rfl|rfl; decide +kernel; exact h2j (by decide) (by decide) _; exact h6w (by decide) (.inr (by decide)) _
 case swell cs =>
  rcases hp with rfl | rfl
  .decide +kernel
  .refine h6x (by decide) fun p hp=>?_
   obtain⟨c,_,rfl⟩:=E4.mp hp
   exact i8b c
theorem Dt.vlen(h:d.ok):∀ p∈d.kind :: d.vals,p.length<=600:=by
 have k1:(B0 "gain").length=4:=by decide +kernel
 have k2:(B0 "delay").length=5:=by decide +kernel
 have k3:(B0 "echo").length=4:=by decide +kernel
 have k4:(B0 "back").length=4:=by decide +kernel
 have k5:(B0 "hall").length=4:=by decide +kernel
 have k6:(B0 "swell").length=5:=by decide +kernel
 have f:∀ {y:Rat},YOk y->(fW y).length<=600:=fun h=>Bz (d5s h.b.1 h.b.2) (by decide)
 have g:∀ {n:Nat},n<=1000->(nW n).length<=600:=fun h=>Bz (d9j (E3 h (by decide))) (by decide)
 cases d <;> intro p hp <;> simp only [Dt.kind,Dt.vals,Db,Eo,or_false] at hp
 case gain => rcases hp with rfl|rfl; lia; exact f h
 case delay => rcases hp with rfl|rfl; lia; exact g h
 case echo => rcases hp with rfl|rfl|rfl|rfl; lia; exact f h.1; exact g h.2.2.1; exact g (Bz h.2.2.2 (by decide))
 case back => rcases hp with rfl|rfl|rfl; lia; exact f h.1; exact g h.2.2
 case hall => rcases hp with rfl|rfl|rfl; lia; exact f h.1; exact g h.2.2.2
 case swell cs => rcases hp with rfl|rfl; lia; exact h.k0p
theorem Dt.vn:d.vals.length<=3:=by
 cases d <;> simp [Dt.vals]
theorem Dt.wlen(h:d.ok):d.word.length<=4000:=by
 have a:=h0a (z:=⟨#[58]⟩) (d.vlen h)
 have b:=d.vn
 rw [Cq,f2q] at a
 unfold Dt.word
 lia
theorem Dt.split(d:Dt):b9r d.word ⟨#[58]⟩=d.kind :: d.vals:=d7i (by simp) d.free rfl
theorem g0c(h:1<=cs.length):b9r (F9 ⟨#[44]⟩ (cs.map cW)) ⟨#[44]⟩=cs.map cW:=d7i (by intro z; have:=congrArg Lp z; rw [Bv,Jb] at this; lia) (fun p hp=>by
 obtain⟨c,_,rfl⟩:=E4.mp hp
 exact i8a c) rfl
theorem g3z{c:Int×Rat}:b9r (cW c) ⟨#[61]⟩ = [B0 (toString c.1),fW c.2]:=d7i (by simp) (fun p hp=>by
 rcases Db.mp hp with rfl | hp
 .rw [c9m]
  exact d3o (by decide) (.inr (by decide))
 .rw [Dh.mp hp]
  exact h2j (by decide) (by decide) _) (by rw [b2w,i7x,c9m]; rfl)
theorem h2l(z p:Str):F9 z [p]=p:=rfl
theorem h6y:sg F6 = []:=rfl
theorem j4w:sg (B0 "gain:")=sg (B0 "gain")++[58]:=by decide +kernel
theorem i8c:sg (B0 "delay:")=sg (B0 "delay")++[58]:=by decide +kernel
theorem j4x:sg (B0 "echo:")=sg (B0 "echo")++[58]:=by decide +kernel
theorem j4y:sg (B0 "back:")=sg (B0 "back")++[58]:=by decide +kernel
theorem i8d:sg (B0 "swell:")=sg (B0 "swell")++[58]:=by decide +kernel
theorem h6z:sg (B0 ":") = [58]:=by decide +kernel
theorem i2e:B0 "," = ⟨#[44]⟩:=by decide +kernel
theorem k0q:B0 ":" = ⟨#[58]⟩:=by decide +kernel
theorem k0r:B0 "=" = ⟨#[61]⟩:=by decide +kernel
theorem i5f(y:Rat):F6++B0 "gain:"++fW y=(Dt.gain y).word:=c3z (by
 simp only [Dt.word,Dt.kind,Dt.vals,a3k,b2w,h2l,h6y,j4w,h6z,Ex,Eg,Ig,Fd])
theorem h7a(n:Nat):F6++B0 "delay:"++nW n=(Dt.delay n).word:=c3z (by
 simp only [Dt.word,Dt.kind,Dt.vals,a3k,b2w,h2l,h6y,i8c,h6z,Ex,Eg,Ig,Fd])
theorem i5g(y:Rat)(n t:Nat):F6++B0 "echo:"++fW y++B0 ":"++nW n++B0 ":"++nW t=(Dt.echo y n t).word:=c3z (by
 simp only [Dt.word,Dt.kind,Dt.vals,a3k,b2w,h2l,h6y,j4x,h6z,Ex,Eg,Ig,Fd])
theorem i5h(y:Rat)(n:Nat):F6++B0 "back:"++fW y++B0 ":"++nW n=(Dt.back y n).word:=c3z (by
 simp only [Dt.word,Dt.kind,Dt.vals,a3k,b2w,h2l,h6y,j4y,h6z,Ex,Eg,Ig,Fd])
theorem i8e(z:Str)(ps:List Str):Kv z ps=F9 z ps:=by
 show Builtin.Str.glued _ _=_
 rw [StrLaws.glued_eq_join]
theorem h7b(cs:List (Int×Rat)):F6++B0 "swell:"++Kv (B0 ",") (cs.map cW)=(Dt.swell cs).word:=c3z (by
 rw [i8e,i2e]
 simp only [Dt.word,Dt.kind,Dt.vals,a3k,b2w,h2l,h6y,i8d,h6z,Ex,Eg,Ig,Fd])
section
variable {X:Cx}
noncomputable def k0s:V->List V->Hp->VK->Prop:=fun x vs H Q=>match x,vs with
 | .ref l,[.int i]=>(match H l with
  | some (.lst xs)=>0<=i/\i < (xs.length:Int)/\All (fun v H1=>xs[i.toNat]? = some v/\a2j l H H1/\H1 l=some (.lst (xs.eraseIdx i.toNat))) Q ⟨⟩ ⟨⟩
  | _=>False)
 | .ref l,[]=>(match H l with
  | some (.lst xs)=>0 < xs.length/\All (fun v H1=>xs[xs.length - 1]? = some v/\a2j l H H1/\H1 l=some (.lst xs.dropLast)) Q ⟨⟩ ⟨⟩
  | _=>False)
 | _,_=>False
theorem i8f:MtR X "list.pop" k0s:=by
 intro pins s O H x vs v us Q I rx rv h
 obtain⟨l,rfl⟩:∃ l,x = .ref l:=by cases x <;> first | exact⟨_,rfl⟩ | exact Bq h
 rcases vs with _ | ⟨zz,_ | ⟨_,_⟩⟩
 rotate_left
 .obtain⟨i,rfl⟩:∃ i,zz = .int i:=by cases zz <;> first | exact⟨_,rfl⟩ | exact Bq h
  have h':(match H l with
   | some (.lst xs)=>0<=i/\i < (xs.length:Int)/\All (fun v H1=>xs[i.toNat]? = some v/\a2j l H H1/\H1 l=some (.lst (xs.eraseIdx i.toNat))) Q ⟨⟩ ⟨⟩
   | _=>False):=h
  split at h'
  .rename_i xs hH
   obtain⟨i0,i1,q⟩:=h'
   obtain⟨z,its,n,r,hl,e⟩:=I.i6t hH
   have hs:Cb=16777216:=Dm
   have hx : xs[i.toNat]? = some (xs[i.toNat]'(by lia)) := By _
   refine i1e pins s O H _ _ v us Q I rx rv ⟨l, xs, i, i.toNat, xs[i.toNat]'(by lia), rfl, rfl, hH, by lia, by lia, ?_, hx, q _ _ ⟨hx, a2j.upd, a2v⟩⟩
   unfold Om
   simp only
   rw [if_neg (show ¬ i < 0 by lia)]
   rw [if_pos (by rw [Ec,decide_eq_true_eq,decide_eq_true_eq]; lia)]
  .exact h'.elim
 .cases zz <;> exact Bq h
 .have h':(match H l with
   | some (.lst xs)=>0 < xs.length/\All (fun v H1=>xs[xs.length - 1]? = some v/\a2j l H H1/\H1 l=some (.lst xs.dropLast)) Q ⟨⟩ ⟨⟩
   | _=>False):=h
  split at h'
  .rename_i xs hH
   obtain⟨i0,q⟩:=h'
   have hx : xs[xs.length - 1]? = some (xs[xs.length - 1]'(by lia)) := By _
   exact j2s pins s O H _ _ v us Q I rx rv ⟨l,xs,_,rfl,rfl,hH,hx,q _ _ ⟨hx,a2j.upd,a2v⟩⟩
  .exact h'.elim
end
open PySem PySem.Spec PyProof.Rows PySem.W
theorem g4a{K:Bw}{H:Hp}:∀ ss:List Str,c9z K H (ss.map V.str) (kqdPs (ss.map Dat.str))
 | []=>.nil
 | n :: ns=>.cons (.str n) (g4a ns)
theorem g7e{ns ms:List Str}:ns.map Dat.str=ms.map Dat.str ↔ ns=ms:=by
 induction ns generalizing ms with
 | nil=>cases ms <;> simp
 | cons n ns ih=>cases ms <;> simp [ih]
variable {ss:List Str}
theorem h0b(h:∀ s∈ss,D1 s=true):kqdOk 1 (.list (ss.map .str))=true:=by
 show (ss.map Dat.str).all (kqdOk 0)=true
 rw [Fv]
 intro d hd
 obtain⟨s,hs,rfl⟩:=E4.mp hd
 exact h s hs
theorem g4b{p:Addr}(h:SqL K H p (ss.map V.str)):g6h K H (.ref p) (kqdP (.list (ss.map .str))):=by
 rw [kqdP]
 exact .lst h (g4a ss)
theorem f1o{p q:Addr}{ns ms:List Str}(hp:SqL K H p (ns.map V.str))(hq:SqL K H q (ms.map V.str))(h1:∀ s∈ns,D1 s=true)(h2:∀ s∈ms,D1 s=true)(h:Q (.bl (!decide (ns=ms))) H):j8m K (.ref p) (.ref q) H Q :=
 j3w (g4b hp) (g4b hq) (h0b h1) (h0b h2) (by decide) (by decide) (by rw [decide_eq_true_eq,Dat.list.injEq,g7e]) h
section
variable {X:Cx}
noncomputable def k0t:List V->Hp->VK->Prop:=fun xs H Q=>match xs with
 | [.ref p]=>(match H p with
  | some (.lst ys)=>∃ bs:List Bool,ys=bs.map V.bl/\Q (.bl (bs.all id)) H
  | _=>False)
 | _=>False
theorem g4c:∀ {bs:List Bool} {us:List Br},Vals (bs.map V.bl) us->us.length=bs.length/\∀ (i:Nat) v,us[i]? = some v->∃ b,bs[i]? = some b/\v = .bool b
 | [],_,h=>by cases h; exact⟨rfl,fun i v e=>by simp at e⟩
 | b :: bs,_,h=>by
  cases h with
  | cons r t =>
   have ih:=g4c t
   refine⟨by simp [ih.1],fun i v e=>?_⟩
   cases i with
   | zero=>simp at e; exact⟨b,rfl,e.symm.trans r⟩
   | succ i=>simp at e; exact ih.2 i v e
theorem g4d(hc:X.calm=true):b0z X (.builtin "all") k0t:=by
 intro pins s O H xs us Q I r h
 obtain _ | ⟨zz,xs⟩:=xs
 .exact Bq h
 obtain⟨p,rfl⟩:∃ p,zz = .ref p:=by cases zz <;> first | exact⟨_,rfl⟩ | exact Bq h
 obtain rfl:xs = []:=by
  cases xs with
  | nil=>rfl
  | cons _ _=>exact Bq h
 .have h':(match H p with
   | some (.lst ys)=>∃ bs:List Bool,ys=bs.map V.bl/\Q (.bl (bs.all id)) H
   | _=>False):=h
  split at h'
  .rename_i ys e
   obtain⟨bs,rfl,q⟩:=h'
   obtain⟨u,rfl,ru⟩:=vals1 r
   cases (show u=Do p from ru)
   obtain⟨its,rv,⟨o,n,e1,c1,d1,dd⟩,_⟩:=I.list (SqL.of e)
   obtain⟨hbl,hb⟩:=g4c rv
   have hl:s.heap.IsList p its.toArray:=⟨o,e1,c1,n,dd⟩
   have hlt:p < s.heap.objs.size:=Cc e1
   refine call_all_walk (Gj hl ?_)
   refine⟨s.heap.objs.size,[s.heap.objs.size,p],[s.heap.objs.size],its.toArray.size,_,_,fun i=>(bs[i]?).getD true,rfl,Walks.list (A:=X.A.in1) (I.ok.hd hc) _ p (D2 hlt) its.toArray,
    ⟨⟨_,Cg _ rfl,rfl,rfl⟩,hl.push _⟩,fun i v s' Q' E' hP hQ=>?_,fun h' tk hk=>?_⟩
   .obtain⟨b,e,rfl⟩:=hb i v (by simpa using hP)
    simp only [e,Option.getD_some] at hQ
    exact Gi hQ
   .have e:((Cz its.toArray.size).all fun i=>(bs[i]?).getD true)=bs.all id:=by
     rw [Di,hbl]; exact LSm.range_all bs
    rw [e]
    exact⟨.bl _,H,I.kept (LSm.kept_iter hk),rfl,q⟩
  .exact h'.elim
end
def i8g(J:It)(tc:TT)(te:TE)(D:Addr)(O:St)(H:Hp)(Q:VK)(_:Tag Q):Prop:=∃ (n:Nat) (W:Nat->List V->Hp->Prop),W 0 [] H/\∀ i ys H,i<=n->W i ys H->H D=some (.lst ys) /\
 ((J.stop i H/\Q (.ref D) H)\/(i < n/\J.go i H/\ys.length < Cb/\∀ x H',J.yld i H x H'->∃ p u v,x = .ref p/\H' p=some (.tup [u,v])/\tc (some u :: some v :: O) H' fun b H1 =>
  if b=true then te (some u :: some v :: O) H1 fun y H2=>H2 D=some (.lst ys)/\∀ H3,a2j D H2 H3->H3 D=some (.lst (ys++[y]))->W (i+1) (ys++[y]) H3
  else W (i+1) ys H1))
def k0u(wi:TI)(tc:TT)(te:TE):TE:=fun O H Q=>wi O H fun J H1=>∀ D H2,H1 D=none->Same H1 H2->H2 D=some (.lst [])->i8g J tc te D O H2 Q ⟨⟩
section
variable {X:Cx}{scope:Fg}{x y:Str}{pins:List (Addr×Obj)}{O:St}{elt iter cnd:Expr}{px py tpos pos:Pos}{kk:Nat}{wi:TI}{te:TE}{tc:TT}
end
theorem hu1(h:n+64 < Im):n+1 < Im:=by lia
noncomputable def kT(k:Str):Key:=.inr k
def h7c(x y:V)(H:Hp)(Q:VK):Prop:=match x,y with
 | .ref a,.str k=>(match H a with
  | some (.dK kvs)=>∃ v,b9m kvs (kT k)=some v/\Q v H
  | _=>False)
 | _,_=>False
def i2f(neg:Bool)(x y:V)(H:Hp)(Q:VK):Prop:=match x,y with
 | .ref a,.str k=>(match H a with
  | some (.dK kvs)=>Q (.bl ((b9m kvs (kT k)).isSome != neg)) H
  | _=>False)
 | _,_=>False
theorem i2g{x y:V}(h:h7c x y H Q):∃ a k kvs v,x = .ref a/\y = .str k/\H a=some (.dK kvs)/\b9m kvs (kT k)=some v/\Q v H:=by
 cases x <;> cases y <;> first | exact Bq h | skip
 .rename_i a k
  have h':(match H a with
   | some (.dK kvs)=>∃ v,b9m kvs (kT k)=some v/\Q v H
   | _=>False):=h
  split at h'
  .rename_i kvs e
   obtain⟨v,e1,q⟩:=h'
   exact⟨a,k,kvs,v,rfl,rfl,e,e1,q⟩
  .exact h'.elim
theorem i2h{x y:V}{neg:Bool}(h:i2f neg x y H Q):∃ a k kvs,x = .ref a/\y = .str k/\H a=some (.dK kvs)/\Q (.bl ((b9m kvs (kT k)).isSome != neg)) H:=by
 cases x <;> cases y <;> first | exact Bq h | skip
 .rename_i a k
  have h':(match H a with
   | some (.dK kvs)=>Q (.bl ((b9m kvs (kT k)).isSome != neg)) H
   | _=>False):=h
  split at h'
  .rename_i kvs e
   exact⟨a,k,kvs,rfl,rfl,e,h'⟩
  .exact h'.elim
def h7d(td ty:TE):TE:=fun O H Q=>td O H fun x H1=>ty O H1 fun y H2=>h7c x y H2 Q
def h0c(ty td:TE):TE:=fun O H Q=>ty O H fun y H1=>td O H1 fun x H2=>i2f true x y H2 Q
def i8h(x y v:V)(H:Hp)(Q:Hp->Prop):Prop:=match x,y with
 | .ref a,.str k=>(match H a with
  | some (.dK kvs)=>kvs.length < Cb/\∀ H1,a2j a H H1->H1 a=some (.dK (putK kvs (kT k) v))->Q H1
  | _=>False)
 | _,_=>False
theorem i2i{x y v:V}{Q:Hp->Prop}(h:i8h x y v H Q):∃ a k kvs,x = .ref a/\y = .str k/\H a=some (.dK kvs)/\kvs.length < Cb/\∀ H1,a2j a H H1->H1 a=some (.dK (putK kvs (kT k) v))->Q H1:=by
 cases x <;> cases y <;> first | exact Bq h | skip
 .rename_i a k
  have h':(match H a with
   | some (.dK kvs)=>kvs.length < Cb/\∀ H1,a2j a H H1->H1 a=some (.dK (putK kvs (kT k) v))->Q H1
   | _=>False):=h
  split at h'
  .rename_i kvs e
   exact⟨a,k,kvs,rfl,rfl,e,h'⟩
  .exact h'.elim
def i5i(td ty tv:TE):TS:=fun D O H=>tv O H fun v H1=>td O H1 fun x H2=>ty O H2 fun y H3=>i8h x y v H3 (D.nx O)
def j4z(tk tv:TE):TE:=fun O H Q=>∀ p H1,H p=none->Same H H1->H1 p=some (.dK [])->tk O H1 fun x H2=>tv O H2 fun y H3=>∃ k,x = .str k/\H3 p=some (.dK [])/\∀ H4,a2j p H3 H4->H4 p=some (.dK [(kT k,y)])->Q (.ref p) H4
section
variable {X:Cx}{o i e value:Expr}{pos pos' tpos:Pos}{td ty tv tk:TE}
theorem a6w(hu:X.A.units+1 < Im)(ho:PE X o td)(hi:PE X i ty)(hs:k3k i):PE X (.Subscript o i pos) (h7d td ty):=by
 intro pins s O H Q I h
 refine i6v PySem.F.slot_dict_getitem.lookup hs (c9u (ho pins s O H _ I h) fun u s1 x H1 I1 rx q1=>c9u (hi pins s1 O H1 _ I1 q1) fun iv s2 y H2 I2 ry q=>?_)
 obtain⟨a,k,kvs,v,ex,ey,e,ev,q2⟩:=i2g q
 subst ex ey
 obtain rfl:u=Do a:=rx
 have g:h5s H2 a (kV (kT k)) (some v):=ev▸h5s.k e
 exact⟨g6s I2 g,h5t hu I2 g ry fun w' s3 I3 rw'=>⟨v,H2,I3,rw',q2⟩⟩
theorem f8h(hu:X.A.units+1 < Im)(hi:PE X i ty)(ho:PE X o td):PC X .NotIn i o (h0c ty td):=by
 intro pins s O H Q I h
 refine c9u (hi pins s O H _ I h) fun iv s1 y H1 I1 ry q1=>c9u (ho pins s1 O H1 _ I1 q1) fun u s2 x H2 I2 rx q=>?_
 obtain⟨a,k,kvs,ex,ey,e,q2⟩:=i2h q
 subst ex ey
 obtain rfl:u=Do a:=rx
 have g:h5s H2 a (kV (kT k)) (b9m kvs (kT k)):=h5s.k e
 rw [J7] at q2
 exact i6u hu I2 g ry fun s3 I3=>⟨.bl (!(b9m kvs (kT k)).isSome),H2,I3,rfl,q2⟩
theorem h7e{op:CmpOp}{a b:Expr}{t:TE}(h:PC X op a b t)(h1:Fa op b=false):PT X (.Compare a [op] [b] pos) (tBF t):=by
 intro pins s O H Q I h2
 refine (j1p h h1) pins s O H _ I ?_
 unfold tB
 unfold tBF at h2
 exact cast (congrArg (t O H) (funext fun x=>funext fun H1=>propext ⟨fun z=>j9w z,fun⟨k,e,q⟩=>by subst e; exact q⟩)) h2
theorem c7h(hu:X.A.units+1 < Im)(ho:PE X o td)(hi:PE X i ty)(hv:PE X value tv)(hs:J3 value (some (.Subscript o i pos')) pos.line X.env=pure false) :
  PS X (.Assign [.Subscript o i pos'] value pos) (i5i td ty tv):=by
 intro pins s O H D I h
 refine wpAny_Assign_Subscript (c9u (hv pins s O H _ I h) fun r s1 v H1 I1 rv q1=>c9u (ho pins s1 O H1 _ I1 q1) fun u s2 x H2 I2 rx q2=>c9u (hi pins s2 O H2 _ I2 q2) fun iv s3 y H3 I3 ry q=>?_) hs
 obtain⟨a,k,kvs,ex,ey,e,hl,q3⟩:=i2i q
 subst ex ey
 obtain rfl:u=Do a:=rx
 exact h5u hu I3 (j0v.k (k:=kT k) e hl) ry rv fun s4 I4=>⟨O,_,I4,q3 _ a2j.upd a2v⟩
theorem i2j(hk:PE X i tk)(hv:PE X value tv):PE X (.Dict [some i] [value] pos) (j4z tk tv):=by
 intro pins s O H Q I q
 have hn:=I.hok.fresh (C0 s.heap.objs.size)
 have I1:=I.laid (a:=s.heap.objs.size) (o:=.dK []) (h':=s.heap.push { cls:=.type "dict",data:=.dict #[] }) (t':=s.toks) (fun _ _ q=>Bt _ q) (C0 _) (g9s s.heap I.big)
 have h:PPs X pos [some i] [value] [(tk,tv)]:=i1i hk hv i6w
 refine wpAny_Dict_walk (knd:=a7s X.prog X.w) rfl rfl (by simp) (by simp) (thn (h pins _ O _ (fun ps H3=>match ps with
  | [(x,y)]=>∃ k,x = .str k/\H3 s.heap.objs.size=some (.dK [])/\∀ H4,a2j s.heap.objs.size H3 H4->H4 s.heap.objs.size=some (.dK [(kT k,y)])->Q (.ref s.heap.objs.size) H4
  | _=>False) I1 (q s.heap.objs.size _ hn (Same.upd hn) a2v)) fun ws s2 ⟨ps,H2,I2,rel,qp⟩=>?_)
 cases ps with
 | nil=>exact Bq qp
 | cons p ps =>
 obtain⟨x,y⟩:=p
 cases ps with
 | cons _ _=>exact Bq qp
 | nil =>
  obtain⟨k,ex,e,q2⟩:=qp
  subst ex
  obtain⟨rs,c,rk⟩:=f7y (P:=X.prog) (w:=X.w) (kvs:=[(kT k,y)]) rel
  obtain⟨z,hd,vs0,r0,dd⟩:=j2x I2.hok e
  cases r0
  refine⟨rs,c,dd,fun h' dd' hs=>⟨.ref s.heap.objs.size,_,?_,rfl,q2 _ a2j.upd a2v⟩⟩
  have hz:(g9t [] [(kT k,y)]).length<=Cb:=by
   have h1:=d5j [(kT k,y)] []
   rw [Jb,Cw] at h1
   rw [Dm]; lia
  have he:∃ q,h'.get? s.heap.objs.size=some q:=let ⟨q,_,_,hq,_⟩:=dd'; ⟨q,hq⟩
  exact g6r I2 (by rw [e]; exact F8) hs he (i4o hz hd (rk.merge .nil) dd')
end
noncomputable def rSlR:V->Option Int->Option Int->Option Int->Hp->VK->Prop:=fun x l u t H Q=>match x with
 | .ref a=>(match H a with
  | some (.lst xs)=>l=none/\u=none/\t=some (-1)/\New H (.lst xs.reverse) Q ⟨⟩
  | _=>False)
 | _=>False
def tSl3R(te:TE)(tl th ts:TO):TE:=fun O H Q=>te O H fun x H1=>tl O H1 fun l H2=>th O H2 fun u H3=>ts O H3 fun st H4=>rSlR x l u st H4 Q
open PySem PySem.Spec PyProof.Rows PySem.W
mutual
inductive Rp(H:Hp)(N:Addr->Prop):V->Dat->Prop
 | str (s:Str):Rp H N (.str s) (.str s)
 | int (n:Int):Rp H N (.int n) (.int n)
 | lst {p:Addr} {vs:List V} {ds:List Dat}:N p->H p=some (.lst vs)->RpL H N vs ds->Rp H N (.ref p) (.list ds)
 | tup {p:Addr} {vs:List V} {ds:List Dat}:H p=some (.tup vs)->RpL H N vs ds->Rp H N (.ref p) (.tuple ds)
inductive RpL(H:Hp)(N:Addr->Prop):List V->List Dat->Prop
 | nil:RpL H N [] []
 | cons {v:V} {vs:List V} {d:Dat} {ds:List Dat}:Rp H N v d->RpL H N vs ds->RpL H N (v :: vs) (d :: ds)
end
theorem h7f{tg l:Expr}(hK:X.K=K)(hl:PE X l tl):PI X tg l (g3m K tl):=hK▸i1l hl
def c0t(N:Addr->Prop)(H H':Hp):Prop:=∀ z u,(N z->∀ ys,u≠.lst ys)->H z=some u->H' z=some u
variable {vs:List V}
section
variable {H H':Hp}{N M:Addr->Prop}
mutual
theorem Rp.go(h1:∀ z vs,N z->H z=some (.lst vs)->H' z=some (.lst vs)/\M z)(h2:∀ z vs,H z=some (.tup vs)->H' z=some (.tup vs)):∀ {v:V} {d:Dat},Rp H N v d->Rp H' M v d
 | _,_,.str s=>.str s
 | _,_,.int n=>.int n
 | _,_,.lst n h r=>.lst (h1 _ _ n h).2 (h1 _ _ n h).1 (RpL.go h1 h2 r)
 | _,_,.tup h r=>.tup (h2 _ _ h) (RpL.go h1 h2 r)
theorem RpL.go(h1:∀ z vs,N z->H z=some (.lst vs)->H' z=some (.lst vs)/\M z)(h2:∀ z vs,H z=some (.tup vs)->H' z=some (.tup vs)):∀ {vs:List V} {ds:List Dat},RpL H N vs ds->RpL H' M vs ds
 | _,_,.nil=>.nil
 | _,_,.cons h r=>.cons (Rp.go h1 h2 h) (RpL.go h1 h2 r)
end
mutual
theorem Rp.deep:∀ {v:V} {d:Dat},Rp H N v d->g6h K H v (kqdP d)
 | _,_,.str s=>by rw [kqdP]; exact .str s
 | _,_,.int n=>by rw [kqdP]; exact .int n
 | _,_,.lst n h r=>by rw [kqdP]; exact .lst (SqL.of h) (RpL.deep r)
 | _,_,.tup h r=>by rw [kqdP]; exact .tup (SqT.of h) (RpL.deep r)
theorem RpL.deep:∀ {vs:List V} {ds:List Dat},RpL H N vs ds->c9z K H vs (kqdPs ds)
 | _,_,.nil=>.nil
 | _,_,.cons h r=>.cons (Rp.deep h) (RpL.deep r)
end
theorem live{z:Addr}{u:HO}(e:H z=some u):H z≠none:=fun q=>by rw [q] at e; cases e
variable {ds:List Dat}
theorem RpL.same(h:RpL H N vs ds)(S:Same H H'):RpL H' N vs ds:=h.go (fun _ _ n e=>⟨S _ _ e,n⟩) fun _ _ e=>S _ _ e
theorem RpL.mono(h:RpL H N vs ds)(hm:∀ z,N z->H z≠none->M z):RpL H M vs ds:=h.go (fun z _ n e=>⟨e,hm z n (live e)⟩) fun _ _ e=>e
theorem RpL.put(h:RpL H N vs ds)(hD:H D=some (.lst ys))(nD:¬ N D)(B:a2j D H H'):RpL H' N vs ds :=
 h.go (fun z _ n e=>⟨B _ _ (fun q=>nD (by rw [<- q]; exact n)) e,n⟩) fun z _ e=>B _ _ (fun q=>by rw [q,hD] at e; cases e) e
theorem RpL.over(h:RpL H N vs ds)(S:c0t M H H')(hd:∀ z,N z->H z≠none->¬ M z):RpL H' N vs ds :=
 h.go (fun z _ n e=>⟨S _ _ (fun m=>absurd m (hd z n (live e))) e,n⟩) fun z _ e=>S _ _ (fun _ ys q=>by cases q) e
theorem RpL.len:∀ {vs:List V} {ds:List Dat},RpL H N vs ds->vs.length=ds.length
 | _,_,.nil=>rfl
 | _,_,.cons _ r=>by rw [Cq,Cq,RpL.len r]
theorem RpL.at:∀ {vs:List V} {ds:List Dat} {i:Nat} {d:Dat},RpL H N vs ds->ds[i]? = some d->∃ v,vs[i]? = some v/\Rp H N v d
 | _,_,_,_,.nil,h=>by simp at h
 | _,_,0,_,.cons h r,e=>by cases e; exact⟨_,rfl,h⟩
 | _,_,i+1,_,.cons h r,e=>by
  rw [D7] at e
  obtain⟨v,e1,e2⟩:=RpL.at r e
  exact⟨v,by rw [D7]; exact e1,e2⟩
theorem RpL.get:∀ {vs:List V} {ds:List Dat} {i:Nat} {v:V},RpL H N vs ds->vs[i]? = some v->∃ d,ds[i]? = some d/\Rp H N v d
 | _,_,_,_,.nil,h=>by simp at h
 | _,_,0,_,.cons h r,e=>by cases e; exact⟨_,rfl,h⟩
 | _,_,i+1,_,.cons h r,e=>by
  rw [D7] at e
  obtain⟨v,e1,e2⟩:=RpL.get r e
  exact⟨v,by rw [D7]; exact e1,e2⟩
theorem RpL.snoc:∀ {vs:List V} {ds:List Dat} {v:V} {d:Dat},RpL H N vs ds->Rp H N v d->RpL H N (vs++[v]) (ds++[d])
 | _,_,_,_,.nil,h=>.cons h .nil
 | _,_,_,_,.cons h r,e=>.cons h (RpL.snoc r e)
theorem RpL.strs:∀ ss:List Str,RpL H N (ss.map V.str) (ss.map Dat.str)
 | []=>.nil
 | s :: ss=>.cons (.str s) (RpL.strs ss)
theorem RpL.i8i:∀ {vs:List V},RpL H N vs (ss.map Dat.str)->vs=ss.map V.str:=by
 induction ss with
 | nil =>
  intro vs h
  cases h
  rfl
 | cons s ss ih =>
  intro vs h
  cases h with
  | cons a r =>
   cases a
   rw [ih r]
   rfl
theorem Rp.list(h:Rp H N v (.list ds)):∃ p vs,v = .ref p/\N p/\H p=some (.lst vs)/\RpL H N vs ds:=by
 cases h with
 | lst n e r=>exact⟨_,_,rfl,n,e,r⟩
theorem Rp.tuple(h:Rp H N v (.tuple ds)):∃ p vs,v = .ref p/\H p=some (.tup vs)/\RpL H N vs ds:=by
 cases h with
 | tup e r=>exact⟨_,_,rfl,e,r⟩
theorem RpL.two{a b:Dat}(h:RpL H N vs [a,b]):∃ x y,vs = [x,y]/\Rp H N x a/\Rp H N y b:=by
 cases h with
 | cons h1 r=>cases r with
  | cons h2 r=>cases r; exact⟨_,_,rfl,h1,h2⟩
theorem RpL.three{a b c:Dat}(h:RpL H N vs [a,b,c]):∃ x y z,vs = [x,y,z]/\Rp H N x a/\Rp H N y b/\Rp H N z c:=by
 cases h with
 | cons h1 r =>
  obtain⟨y,z,rfl,h2,h3⟩:=r.two
  exact⟨_,y,z,rfl,h1,h2,h3⟩
theorem Rp.strOf{s:Str}(h:Rp H N v (.str s)):v = .str s:=by cases h; rfl
theorem Rp.intOf{n:Int}(h:Rp H N v (.int n)):v = .int n:=by cases h; rfl
theorem c0t.of(S:Same H H'):c0t N H H':=fun z u _ e=>S _ _ e
theorem c0t.trans{H2:Hp}(S:c0t N H H')(S2:c0t N H' H2):c0t N H H2:=fun z u n e=>S2 _ _ n (S _ _ n e)
theorem c0t.one(hD:H D=some (.lst ys))(n:N D)(B:a2j D H H'):c0t N H H':=fun z u h e=>B _ _ (fun q=>by
 rw [q] at h e
 rw [hD] at e
 cases e
 exact h n _ rfl) e
end
noncomputable abbrev Sd:=Str×Str×List Str
structure Pd where
 ts:List Str
 bs:List Str
 es:List Sd
 os:List (Str×Int)
noncomputable def prs(es:List Sd):List (Str×Str):=es.map fun e=>(e.1,e.2.1)
noncomputable def g7f(ss:List Str):Dat:=.list (ss.map .str)
noncomputable def dSd(e:Sd):Dat:=.tuple [.str e.1,.str e.2.1,g7f e.2.2]
noncomputable def dOu(x:Str×Int):Dat:=.tuple [.str x.1,.int x.2]
noncomputable def dPd(p:Pd):Dat:=.list [g7f p.ts,g7f p.bs,.list (p.es.map dSd),.list (p.os.map dOu)]
noncomputable def Nw(N:Addr->Prop)(t b sd ou:Addr):Addr->Prop:=fun a=>N a/\a≠t/\a≠b/\a≠sd/\a≠ou
structure Fl(H:Hp)(N:Addr->Prop)(t b sd ou:Addr)(p:Pd):Prop where
 n:N t/\N b/\N sd/\N ou
 d:t≠b/\t≠sd/\t≠ou/\b≠sd/\b≠ou/\sd≠ou
 ht:H t=some (.lst (p.ts.map V.str))
 hb:H b=some (.lst (p.bs.map V.str))
 hs:∃ us,H sd=some (.lst us)/\RpL H (Nw N t b sd ou) us (p.es.map dSd)
 ho:∃ us,H ou=some (.lst us)/\RpL H (Nw N t b sd ou) us (p.os.map dOu)
section
variable {H H':Hp}{N M:Addr->Prop}{t b sd ou:Addr}{p:Pd}
theorem Fl.over(h:Fl H N t b sd ou p)(S:c0t M H H')(hd:∀ z,N z->H z≠none->¬ M z):Fl H' N t b sd ou p:=by
 obtain⟨n,d,ht,hb,⟨us,hs,R1⟩,vs,ho,R2⟩:=h
 have k:∀ {z:Addr} {ys:List V},N z->H z=some (.lst ys)->H' z=some (.lst ys):=fun n e=>S _ _ (fun m=>absurd m (hd _ n (live e))) e
 exact⟨n,d,k n.1 ht,k n.2.1 hb,⟨us,k n.2.2.1 hs,R1.over S fun z hz=>hd z hz.1⟩,vs,k n.2.2.2 ho,R2.over S fun z hz=>hd z hz.1⟩
theorem Fl.same(h:Fl H N t b sd ou p)(S:Same H H'):Fl H' N t b sd ou p:=h.over (M:=fun _=>False) (c0t.of S) fun _ _ _ h=>h
theorem Fl.mono(h:Fl H N t b sd ou p)(hm:∀ z,N z->H z≠none->M z):Fl H M t b sd ou p:=by
 obtain⟨n,d,ht,hb,⟨us,hs,R1⟩,vs,ho,R2⟩:=h
 have k:∀ {z:Addr} {ys:List V},N z->H z=some (.lst ys)->M z:=fun n e=>hm _ n (live e)
 exact⟨⟨k n.1 ht,k n.2.1 hb,k n.2.2.1 hs,k n.2.2.2 ho⟩,d,ht,hb,⟨us,hs,R1.mono fun z hz e=>⟨hm z hz.1 e,hz.2⟩⟩,vs,ho,R2.mono fun z hz e=>⟨hm z hz.1 e,hz.2⟩⟩
theorem Fl.addT{x:Str}(h:Fl H N t b sd ou p)(h':H' t=some (.lst (p.ts.map V.str++[.str x])))(B:a2j t H H'):Fl H' N t b sd ou ⟨p.ts++[x],p.bs,p.es,p.os⟩:=by
 obtain⟨n,d,ht,hb,⟨us,hs,R1⟩,vs,ho,R2⟩:=h
 exact⟨n,d,by rw [h',Co]; rfl,B _ _ d.1.symm hb,⟨us,B _ _ d.2.1.symm hs,R1.put ht (fun z=>z.2.1 rfl) B⟩,vs,B _ _ d.2.2.1.symm ho,R2.put ht (fun z=>z.2.1 rfl) B⟩
theorem Fl.addB{x:Str}(h:Fl H N t b sd ou p)(h':H' b=some (.lst (p.bs.map V.str++[.str x])))(B:a2j b H H'):Fl H' N t b sd ou ⟨p.ts,p.bs++[x],p.es,p.os⟩:=by
 obtain⟨n,d,ht,hb,⟨us,hs,R1⟩,vs,ho,R2⟩:=h
 exact⟨n,d,B _ _ d.1 ht,by rw [h',Co]; rfl,⟨us,B _ _ d.2.2.2.1.symm hs,R1.put hb (fun z=>z.2.2.1 rfl) B⟩,vs,B _ _ d.2.2.2.2.1.symm ho,R2.put hb (fun z=>z.2.2.1 rfl) B⟩
theorem Fl.addS{e:Sd}{us:List V}(h:Fl H N t b sd ou p)(hsd:H sd=some (.lst us))(r:Rp H (Nw N t b sd ou) v (dSd e))(h':H' sd=some (.lst (us++[v])))(B:a2j sd H H'):Fl H' N t b sd ou ⟨p.ts,p.bs,p.es++[e],p.os⟩:=by
 obtain⟨n,d,ht,hb,⟨us',hs,R1⟩,vs,ho,R2⟩:=h
 rw [hsd] at hs
 cases hs
 refine⟨n,d,B _ _ d.2.1 ht,B _ _ d.2.2.2.1 hb,⟨_,h',?_⟩,vs,B _ _ d.2.2.2.2.2.symm ho,R2.put hsd (fun z=>z.2.2.2.1 rfl) B⟩
 rw [Co]
 exact (R1.snoc r).put hsd (fun z=>z.2.2.2.1 rfl) B
end
section
variable {H H':Hp}{N M:Addr->Prop}{L:Addr}{p:Pd}
end
variable {N:Addr->Prop}{us:List V}{es:List Sd}
theorem RpL.at3(h:RpL H N us (es.map dSd))(hv:us[i]? = some v):∃ e p lw,es[i]? = some e/\v = .ref p/\H p=some (.tup [.str e.1,.str e.2.1,.ref lw])/\N lw/\H lw=some (.lst (e.2.2.map V.str)):=by
 obtain⟨d,hd,r⟩:=h.get hv
 rw [C9] at hd
 obtain⟨e,he,rfl⟩:=C7.mp hd
 obtain⟨p,vs,rfl,hp,r2⟩:=r.tuple
 obtain⟨x,y,z,rfl,h1,h2,h3⟩:=r2.three
 cases h1.strOf
 cases h2.strOf
 obtain⟨lw,ws,rfl,n,hw,r3⟩:=h3.list
 cases r3.i8i
 exact⟨e,p,lw,he,rfl,hp,n,hw⟩
theorem RpL.j1b{α:Type}{es:List α}{f:α->Dat}(h:RpL H N us (es.map f)):us.length=es.length:=by rw [h.len,Bv]
theorem h7g{H:Hp}{N M:Addr->Prop}:∀ {os:List (Str×Int)} {us:List V},RpL H N us (os.map dOu)->RpL H M us (os.map dOu)
 | [],_,.nil=>.nil
 | x :: os,_,.cons h r=>by
  refine .cons ?_ (h7g r)
  obtain⟨p,vs,rfl,hp,r2⟩:=h.tuple
  obtain⟨a,b,rfl,h1,h2⟩:=r2.two
  cases h1.strOf
  cases h2.intOf
  exact .tup hp (.cons (.str _) (.cons (.int _) .nil))
structure k4h(p:Pd):Prop where
 t:∀ s∈p.ts,D1 s=true
 b:∀ s∈p.bs,D1 s=true
 s:∀ e∈p.es,D1 e.1=true/\D1 e.2.1=true/\∀ x∈e.2.2,D1 x=true
 o:∀ x∈p.os,D1 x.1=true
theorem g0d(h:∀ s∈ss,D1 s=true):kqdOk (n+1) (g7f ss)=true:=by
 show (ss.map Dat.str).all (kqdOk n)=true
 rw [Fv]
 intro d hd
 obtain⟨s,hs,rfl⟩:=E4.mp hd
 cases n <;> exact h s hs
theorem j5a(h:∀ e∈es,D1 e.1=true/\D1 e.2.1=true/\∀ x∈e.2.2,D1 x=true):kqdOk (n+3) (.list (es.map dSd))=true:=by
 show (es.map dSd).all (kqdOk (n+2))=true
 rw [Fv]
 intro d hd
 obtain⟨e,he,rfl⟩:=E4.mp hd
 show (D1 e.1 && (D1 e.2.1 && (kqdOk (n+1) (g7f e.2.2) && true)))=true
 rw [(h e he).1,(h e he).2.1,g0d (h e he).2.2]
 rfl
theorem j5b{os:List (Str×Int)}(h:∀ x∈os,D1 x.1=true):kqdOk (n+3) (.list (os.map dOu))=true:=by
 show (os.map dOu).all (kqdOk (n+2))=true
 rw [Fv]
 intro d hd
 obtain⟨e,he,rfl⟩:=E4.mp hd
 show (D1 e.1 && (true && true))=true
 rw [h e he]
 rfl
theorem k4h.k{p:Pd}(h:k4h p):kqdOk 4 (dPd p)=true:=by
 show (kqdOk 3 (g7f p.ts) && (kqdOk 3 (g7f p.bs) && (kqdOk 3 (.list (p.es.map dSd)) && (kqdOk 3 (.list (p.os.map dOu)) && true))))=true
 rw [g0d h.t,g0d h.b,j5a h.s,j5b h.o]
 rfl
section
variable {X:Cx}
def j5c(to:TE):TS:=fun D O H=>to O H fun x H1=>match x with
 | .ref a=>(match H1 a with
  | some (.dK [])=>D.nx O H1
  | _=>False)
 | _=>False
theorem i2k{tg o:Expr}{body:List Stmt}{to:TE}{apos cpos:Pos}(hp:Os (model X.prog X.w) X.A X.env X.xe)(hc:X.calm=true)(ho:PE X o to)
  (hbase:Fb o "items" X.env (eval o X.env)=eval o X.env:=by rfl) (hline:(apos.endLine == cpos.line)=true:=by rfl)
  (hs:∀ x,Ez (.Call (.Attribute o "items" apos) [] [] cpos) X.env x=pure x:=by intro _; rfl):PS X (.For tg (.Call (.Attribute o "items" apos) [] [] cpos) body [] pos) (j5c to):=by
 intro pins s O H D I h
 refine wpAny_For (Ol hbase hline (c9u (ho pins s O H _ I h) fun v s1 x H1 I1 r1 q1=>?_)) hs
 cases x with
 | ref a =>
  have q':(match H1 a with
   | some (.dK [])=>D.nx O H1
   | _=>False):=q1
  split at q'
  .rename_i hd
   obtain⟨h1,h2⟩:=h5l (T:="dict") I1 r1 (.inr (.inr (.inl ⟨rfl,.inl ⟨_,hd⟩⟩)))
   obtain rfl:v = .ref a:=r1
   obtain⟨_,lo,vs,kv,dd⟩:=I1.hok a _ hd
   cases kv
   refine⟨"dict","dict.items",PySem.F.plainAttrs_dict,M8,PySem.F.type_dict_items,h1,h2,Je rfl (Nu ?_)⟩
   refine call_meetsIn M8 h1 PySem.F.entry_dict_items (PySem.F.args_dict_items_1 _) (meets_dict_items (a7s X.prog X.w) a lo) ⟨⟨_,dd⟩,?_⟩
   obtain⟨ep,da⟩:=dd.dictAt
   have hat:∀ {u:Obj},(s1.heap.push u).DictAt (a7s X.prog X.w) a [] ep:=fun {u}=>da.at' fun o e=>Bt _ e
   refine wpAny_pyIter_items (s:={ s1 with heap:=s1.heap.push { cls:=.type "dict_items",data:=.fields #[.ref a] } }) (v:=s1.heap.objs.size) ⟨_,Cg _ rfl,rfl,rfl⟩ hat ?_
   have k2:∀ b o,s1.heap.get? b=some o->((s1.heap.push { cls:=.type "dict_items",data:=.fields #[.ref a] }).push { cls:=.type "dict_itemiterator",data:=.fields #[.none,.bool false,.ref a,.int 0 0,.int 0 0,.int ep 0,.none,.none] }).get? b=some o:=fun b o e=>Bt _ (Bt _ e)
   refine Qk (fun n s'=>s' = { s1 with heap:=(s1.heap.push { cls:=.type "dict_items",data:=.fields #[.ref a] }).push { cls:=.type "dict_itemiterator",data:=.fields #[.none,.bool false,.ref a,.int 0 0,.int 0 0,.int ep 0,.none,.none] } }) ?_ 0 rfl
   rintro n s3 rfl
   have it:∀ h',Lj (s1.heap.push { cls:=.type "dict_items",data:=.fields #[.ref a] }).objs.size ((s1.heap.push { cls:=.type "dict_items",data:=.fields #[.ref a] }).push { cls:=.type "dict_itemiterator",data:=.fields #[.none,.bool false,.ref a,.int 0 0,.int 0 0,.int ep 0,.none,.none] }) h'->∀ b o,s1.heap.get? b=some o->h'.get? b=some o:=fun h' x b o e=>x b o (D2 (by
    have:=Cc (Bt { cls:=.type "dict_items",data:=.fields #[.ref a] } e)
    exact this)) (k2 b o e)
   refine Fn hp (wpAny_pyNext_items_end (knd:=a7s X.prog X.w) (kvs:=[]) (i:=0) (ep:=ep) (ok:=.none) (ov:=.none) (d:=a) (I1.ok.hd hc) (Cg _ rfl) (hat.at' fun o e=>Bt _ e) rfl fun h' hx=>?_)
   exact Gb ⟨O,H1,I1.kept (t':=s1.toks) (it h' hx),q'⟩
  .exact q'.elim
 | _=>exact Bq q1
noncomputable def i8j:List V->Hp->VK->Prop:=fun xs H Q=>match xs with
 | [.ref p]=>(match H p with
  | some (.dK kvs)=>Q (.int kvs.length) H
  | _=>False)
 | _=>False
theorem h2m:b0z X (.builtin "len") i8j:=by
 intro pins s O H xs us Q I r h
 obtain _ | ⟨zz,xs⟩:=xs
 .exact Bq h
 obtain⟨p,rfl⟩:∃ p,zz = .ref p:=by cases zz <;> first | exact⟨_,rfl⟩ | exact Bq h
 obtain rfl:xs = []:=by
  cases xs with
  | nil=>rfl
  | cons _ _=>exact Bq h
 .have h':(match H p with
   | some (.dK kvs)=>Q (.int kvs.length) H
   | _=>False):=h
  split at h'
  .rename_i kvs e
   exact h5v pins s O H _ us Q I r ⟨p,kvs,rfl,e,h'⟩
  .exact h'.elim
end
noncomputable def j5d(K:Bw)(C fI:Addr):Bool:=match K.lookup C with
 | some ⟨.type "type",_,.cls cd,sl⟩=>(match cd.mro,sl.toList with
  | .ref C' :: bm,[_,_,_,_,some (.builtin n),_]=>(C' == C && n == "ValueError.__new__") && (!cd.hasDel && W.tailIn K vE bm) && (W.nsOkIn K cd.ns && Cp K cd.ns "__init__" == some (some (.ref fI)))
  | _,_=>false)
 | _=>false
section
variable {prog:Dc}{w:E2}{A:Ds}{E:Br->Bx->Prop}{h:Heap}{g:Array Nl}{d:Rw}{t:Nat}{os:Rt}
variable {nm q:Str}{C N:Addr}{bs bm:List Br}{hdct:Bool}{sn:List Str}{sub:List Br}{ab:Bool}{col:Option Bool}{dd:Option Addr}{k0 k1 k2 k3 k5:Option Br}
end
section
variable {X:Cx}{pins:List (Addr×Obj)}{O:St}{H:Hp}{s:Bx}{e:Addr}
end
section
variable {P:Dc}{w:E2}{K:Bw}{mg:Str->Option Br}{base:Heap}{N:List Str}{qual:Str}{scope:Fg}{f:Addr}{cd:Br}{A:Ds}{outer:List Env}{s:Bx}{H:Hp}{E:XK}
end
section
variable {X:Cx}{k:Nat}{f C:Addr}{fd:C8}{ps:List Str}{sp:Sp}{E:XK}{x:Str}
end
section
variable {prog:Dc}{w:E2}{A:Ds}{E:Br->Bx->Prop}{h:Heap}{g:Array Nl}{d:Rw}{t:Nat}{os:Rt}
variable {nm q:Str}{C N:Addr}{bs bm:List Br}{hdct:Bool}{sn:List Str}{sub:List Br}{ab:Bool}{col:Option Bool}{dd:Option Addr}{k0 k1 k2 k3 k5:Option Br}
end
structure XAt(K:Bw)(C:Addr)(f:Str):Prop where
 sa:Dk K (.ref C) "__setattr__"=some (some (.builtin "object.__setattr__"))
 na:Dk K (.ref C) f=some none
 hd:K8 K C=true
section
variable {prog:Dc}{w:E2}{A:Ds}{E:Br->Bx->Prop}{s:Bx}{K:Bw}{C fI:Addr}{name:Str}{v:Br}
end
section
variable {prog:Dc}{w:E2}{A:Ds}{E:Br->Bx->Prop}{h:Heap}{g:Array Nl}{d:Rw}{t:Nat}{os:Rt}{K:Bw}{a C dx:Addr}{o:Obj}{mA:Str->Option Br}{name:Str}{v:Br}
end
section
variable {X:Cx}{f C:Addr}{name:Str}{pos pos' apos p np:Pos}{ta tv:TE}{Az o value:Expr}{es:List Expr}{t:TA}{m:Str}{M:Addr}
structure XIn(K:Bw)(M:Addr):Prop where
 sp:Ip K (.ref M) "__getattribute__"=some (some (.builtin "type.__getattribute__"))
 rd:W.readsIn K M (.type "type")=true
 fi:W.findCls K (.ref M) (.type "type") "__init__"=some (.val (.builtin "ValueError.__init__"))
end
section
variable {X:Cx}{k:Nat}{f C:Addr}{fd:C8}{ps:List Str}{sp:Sp}{dvs:List V}{ds:List Br}{E:XK}{m:Str}{pos apos:Pos}{e o:Expr}{es:List Expr}{ta:TE}{t:TA}
end
structure k4i(K:Bw)(C f:Addr)(name:Str):Prop where
 ok:j5d K C f=true
 fn:W.isFn K (.ref f)=true
 kp:Jj K (.ref C)=true
 sa:Dk K (.ref C) "__setattr__"=some (some (.builtin "object.__setattr__"))
 na:Dk K (.ref C) name=some none
 hd:K8 K C=true
theorem k4i.at{C f:Addr}{name:Str}(h:k4i K C f name):XAt K C name:=⟨h.sa,h.na,h.hd⟩
structure j1c(X:Cx)(scope:Fg)(x y zz:Str):Prop where
 kind:scope.kind = .function
 d8z:∀ y∈scope.names,y.2≠.cell
 loc:∀ y∈scope.names,y.2 = .local->scope.names.lookup y.1=some .local
 own:scope.names.lookup x=some .local
 k0l:scope.names.lookup y=some .local
 own3:scope.names.lookup zz=some .local
 free:∀ y∈scope.names,y.2 = .free->X.env.kindOf y.1=some .cell\/X.env.kindOf y.1=some .free
 nd:(x :: y :: zz :: mask x X.N).Nodup
 noe:∀ y∈scope.names,y.1≠""
 vis:∀ y∈mask x X.N,scope.names.lookup y≠some .local
section
variable {X:Cx}{scope:Fg}{x y zz:Str}{cl:List (Str×Addr)}{pins:List (Addr×Obj)}{O:St}{H:Hp}{s Ai:Bx}{fp:List Addr}
end
section
variable {X:Cx}{scope:Fg}{x y zz:Str}{pins:List (Addr×Obj)}{O:St}{elt iter:Expr}{px py pz tpos pos:Pos}{kk:Nat}{wi:TI}{te:TE}
end
section
variable {M:Model}{A:Ds}{E:Br->Bx->Prop}{s:Bx}{base:Heap}{env:Env}{outer l:List Env}{L e:Addr}{cls a0:Br}{dx:Option Addr×Option Br}{Q:Unit->Bx->Prop}
end
section
variable {P:Dc}{w:E2}{K:Bw}{mg:Str->Option Br}{base:Heap}{N:List Str}{qual:Str}{scope:Fg}{f:Addr}{cd:Br}{A:Ds}{outer:List Env}{s:Bx}{H:Hp}{E:XK}
end
section
variable {X:Cx}{scope:Fg}{x:Str}{pins pl:List (Addr×Obj)}{O Aa:St}{cl:List (Str×Addr)}{Ab s9 s':Bx}{H3 H9:Hp}{fp:List Addr}{E:XK}{e:Br}{Q:Br->Bx->Prop}{acc:Br}
end
section
variable {X:Cx}{scope:Fg}{x:Str}{pins:List (Addr×Obj)}{O:St}{elt iter:Expr}{px pos:Pos}{wi:TI}{te:TE}
end
section
variable {X:Cx}{E:XK}{st:Stmt}{t u:TS}{pos:Pos}
end
section
variable {X:Cx}
end
open PySem PySem.Spec PyProof.Rows PySem.SeqAt PySem.AutoSeq1
open PySem.MeetsSeq
section
variable {X:Cx}
end
section
variable {X:Cx}{k:Nat}{f C:Addr}{fd:C8}{ps:List Str}{sp:Sp}{dvs:List V}{ds:List Br}{E:XK}{x m:Str}{p pos apos:Pos}{e o:Expr}{es:List Expr}{ta:TE}{t:TA}
end
section
variable {prog:Dc}{w:E2}{A:Ds}{E:Br->Bx->Prop}{s:Bx}{env:Env}{a:Addr}
variable {nm q:Str}{C N:Addr}{bs bm:List Br}{hdct:Bool}{sn:List Str}{sub:List Br}{ab:Bool}{col:Option Bool}{dd:Option Addr}{k0 k1 k2 k3 k5:Option Br}{newId:String}
end
section
variable {X:Cx}{D C:Addr}{dn cn:Str}{st:Stmt}{tb:XK->TS}{E:XK}{z:Str}{j j':Nat}{np hpos pos rpos cpos npos zpos kpos:Pos}
end
section
variable {X:Cx}{scope:Fg}{x:Str}{elt iter:Expr}{px pos:Pos}{wi:TI}{te:TE}
end
variable {a b:TS}{t:TE}{g:TG}{c:TT}{wi:TI}{n k e:St->Hp->Prop}{r:VK}{O:St}{H:Hp}
theorem qSeq:j9c a b (Ends.mk n r k e) O H=a (Ends.mk (b (Ends.mk n r k e)) r k e) O H:=rfl
theorem qRet:j8j t (Ends.mk n r k e) O H=t O H r:=rfl
theorem qRetN:j1v (Ends.mk n r k e) O H=r .non H:=rfl
theorem qNext:i6e (Ends.mk n r k e) O H=n O H:=rfl
theorem qAsg:i4k t g (Ends.mk n r k e) O H=t O H fun x H1=>g x O H1 n:=rfl
theorem qDrop:i6f t (Ends.mk n r k e) O H=t O H fun _ H1=>n O H1:=rfl
section
variable {X:Cx}{pos:Pos}
end
section
variable {X:Cx}
theorem h0d:∀ {ss:List Str} {us:List Br},Vals (ss.map V.str) us->StrsAre us ss
 | [],_,.nil=>.nil
 | s :: ss,_,.cons ⟨t,e⟩ r=>by subst e; exact .cons s t (h0d r)
theorem g0e:∀ {ss:List Str} {us:List Br},StrsAre us ss->Vals (ss.map V.str) us
 | _,_,.nil=>.nil
 | _,_,.cons x t h=>.cons ⟨t,rfl⟩ (g0e h)
theorem h2n:b0z X (.builtin "sorted") (fun xs H Q=>∃ p ss,xs = [.ref p]/\SqL X.K H p (ss.map V.str)/\ss.length < 64/\∀ l zs,H l=none->zs.Perm ss->M4 zs=true->Q (.ref l) (upd H l (.lst (zs.map V.str)))):=by
 intro pins s O H xs us Q I r h
 obtain⟨p,ss,rfl,hq,h64,q⟩:=h
 obtain⟨u,rfl,rx⟩:=vals1 r
 cases rx
 obtain⟨its,r',pl,hz⟩:=I.list hq
 have hl:=r'.length
 rw [Bv] at hl
 refine sorted_strs pl.isList (h0d r') (by lia) fun out ss' a1 a2 a3=>?_
 obtain⟨e,he⟩:=sortedAll_at s.heap its out
 have hp:=a2.length_eq
 exact⟨.ref (s.heap.objs.size+1),_,I.laid (t':=s.toks) (fun _ _=>sortedAll_old) (Jx _) (show b3k X.prog X.w _ _ _ (.lst (ss'.map V.str)) from ⟨by rw [Bv,hp,<- Bv (f:=V.str)]; exact hz,out.toList,e,g0e a1,he⟩),rfl,q _ ss' (I.hok.fresh (Jx _)) a2 a3⟩
theorem h7h{α β:Type}{F:α->β->Prop}:∀ {An:List α} {l₂:List β} {i:Nat} {a:α} {b:β},Paired F An l₂->An[i]? = some a->l₂[i]? = some b->F a b
 | _,_,_,_,_,.nil,h,_=>by simp at h
 | _,_,0,_,_,.cons h _,e1,e2=>by cases e1; cases e2; exact h
 | _,_,i+1,_,_,.cons _ r,e1,e2=>h7h (i:=i) r (by rwa [D7] at e1) (by rwa [D7] at e2)
theorem h2o(hc:X.calm=true):b0z X (.builtin "sorted") (fun xs H Q=>∃ d kvs ss,xs = [.ref d]/\H d=some (.dK kvs)/\kvs.map (·.1)=ss.map (J2:Str->Key)/\ss.length < 64/\∀ l zs,H l=none->zs.Perm ss->M4 zs=true->Q (.ref l) (upd H l (.lst (zs.map V.str)))):=by
 intro pins s O H xs us Q I r h
 obtain⟨d,kvs,ss,rfl,hd,hk,h64,q⟩:=h
 obtain⟨u,rfl,rx⟩:=vals1 r
 cases rx
 obtain⟨hz,lo,vs,kv,dof⟩:=(show b3k X.prog X.w H s.heap d (.dK kvs) from I.hok d _ hd)
 obtain⟨ep,hat⟩:=dof.dictAt
 have kl:kvs.length=ss.length:=by have:=congrArg Lp hk; rwa [Bv,Bv] at this
 have vl:vs.length=kvs.length:=kv.length.symm
 have hs:Cb=16777216:=Dm
 have hh:=I.ok.hd hc
 refine Calls.call_function_entry kind_sorted plain_sorted entry_sorted (args_sorted1 _) ?_
 unfold Pl.«sorted»
 refine Bp (m:=checkCount "sorted" 1 1 _) (Cf ?_)
 refine Bp (W.kdu_collect (A:=X.A.in1) (W.kdl_dict (knd:=a7s X.prog X.w) (kvs:=vs) (ep:=ep) lo) hh hat (by lia) fun h' tk acc hkp hacc=>?_)
 have at':∀ (j:Nat) v,acc.toList[j]? = some v->∃ x t,ss[j]? = some x/\v = .str x t:=fun j v hv=>by
  obtain⟨k,x,h1,h2⟩:=hacc.2 j v (by rw [<- G5]; exact hv)
  have hj:=(Bu.mp h1).1
  obtain⟨p,hp⟩:∃ p,kvs[j]? = some p:=⟨_,By (by lia)⟩
  have e1:p.1=k:=by
   exact (h7h kv hp h1).1
  have e2:(kvs.map (·.1))[j]? = some k:=by rw [C9,hp,<- e1]; rfl
  rw [hk,C9] at e2
  obtain⟨z,hz',rfl⟩:=C7.mp e2
  rcases a6p (show g6j (J2 z) v=true from h2) with ⟨i,t,e,_⟩ | ⟨y,t,e,rfl⟩
  .cases e
  .cases e
   exact⟨_,_,hz',rfl⟩
 have S:StrsAre acc.toList ss:=by
  have a1:=strsAre_map acc.toList fun v hv=>by
   obtain⟨j,hj⟩:=Iu hv
   obtain⟨x,t,_,e⟩:=at' j v hj
   exact⟨x,t,e⟩
  have e:acc.toList.map strOf=ss:=by
   apply Kr
   intro j
   rw [C9]
   cases hv:acc.toList[j]? with
   | none =>
    have:=List.getElem?_eq_none_iff.mp hv
    rw [Fq,hacc.1] at this
    rw [Dz (by lia)]
    rfl
   | some v =>
    obtain⟨x,t,h1,rfl⟩:=at' j v hv
    rw [h1]
    rfl
  rwa [e] at a1
 have al:acc.toList.length=ss.length:=by rw [Fq,hacc.1,vl,kl]
 refine Bp (wpAny_newList ?_ (by lia))
 have hoL:(h'.push (seqObj "list" acc.toList.toArray 0)).get? h'.objs.size=some (seqObj "list" acc.toList.toArray 0):=Cg _ rfl
 refine Bp (Lc (Fe slot_list_sort ⟨_,hoL,rfl⟩ entry_list_sort (list_sort_treeK strKind_oneLt hoL S.keysOf (fun Bh Bk rest e=>keyKind_strs (by rw [<- e]; exact S)) (by lia) fun st' a1 a2=>⟨_,rfl,?_⟩) (args_list_sort _)))
 obtain⟨zs,b1,b2,b3⟩:=sorted_out_str S a1 a2
 obtain⟨e,he⟩:=sortedHeap_at (out:=(arrOf st').map (·.2)) hoL
 have hp:=b2.length_eq
 have I':Inv X pins O H { s with heap:=h',toks:=tk }:=I.kept hkp
 refine Cf ⟨_,rfl,?_⟩
 exact⟨.ref h'.objs.size,_,I'.laid (t':=tk) (fun b o e=>by
  have e2:=Bt (seqObj "list" acc.toList.toArray 0) e
  rw [sortedHeap_old (D2 (Cc e)) (Cc e2)]
  exact e2) (C0 _) (show b3k X.prog X.w _ _ _ (.lst (zs.map V.str)) from ⟨by rw [Bv,hp]; lia,_,e,g0e b1,he⟩),rfl,q _ zs (I'.hok.fresh (C0 _)) b2 b3⟩
noncomputable def i5j:List V->Hp->VK->Prop:=fun xs H Q=>match xs with
 | [.ref a]=>∃ ss:List Str,(H a=some (.lst (ss.map V.str))\/∃ kvs,H a=some (.dK kvs)/\kvs.map (·.1)=ss.map (J2:Str->Key))/\ss.length < 64/\∀ p zs H1,H p=none->Same H H1->H1 p=some (.lst (zs.map V.str))->zs.Perm ss->M4 zs=true->Q (.ref p) H1
 | _=>False
theorem d9k(hc:X.calm=true):b0z X (.builtin "sorted") i5j:=by
 intro pins s O H xs us Q I r h
 obtain _ | ⟨zz,xs⟩:=xs
 .exact Bq h
 obtain⟨a,rfl⟩:∃ a,zz = .ref a:=by cases zz <;> first | exact⟨_,rfl⟩ | exact Bq h
 obtain rfl:xs = []:=by
  cases xs with
  | nil=>rfl
  | cons _ _=>exact Bq h
 obtain⟨ss,hs,h64,q⟩:=h
 .rcases hs with hs | ⟨kvs,hs,hk⟩
  .exact h2n pins s O H _ us Q I r ⟨a,ss,rfl,SqL.of hs,h64,fun l zs hl hp ho=>q l zs _ hl (Same.upd hl) a2v hp ho⟩
  .exact h2o hc pins s O H _ us Q I r ⟨a,kvs,ss,rfl,hs,hk,h64,fun l zs hl hp ho=>q l zs _ hl (Same.upd hl) a2v hp ho⟩
theorem h7i:∀ (r:List Str) (p:Str),risingS p r=true->(p :: r).Pairwise (fun a b=>a.cps.toList<=b.cps.toList)
 | [],p,_=>List.pairwise_singleton _ _
 | x :: r,p,h=>by
  rw [risingS,Ec,Bool.not_eq_true',ltCps_eq,decide_eq_false_iff_not] at h
  have ih:=h7i r x h.2
  have px:p.cps.toList<=x.cps.toList:=List.not_lt.mp h.1
  refine Ou.mpr ⟨fun y hy=>?_,ih⟩
  rcases Db.mp hy with rfl | hy
  .exact px
  .exact List.le_trans px ((Ou.mp ih).1 y hy)
theorem h7j{l:List Str}(h:M4 l=true):l.Pairwise (fun a b=>a.cps.toList<=b.cps.toList):=by
 cases l with
 | nil=>exact .nil
 | cons p r=>exact h7i r p h
theorem h7k{a b:List Str}(h:a.Perm b)(ha:M4 a=true)(hb:M4 b=true):a=b:=by
 refine List.Perm.eq_of_pairwise (fun x y _ _ h1 h2=>?_) (h7j ha) (h7j hb) h
 exact Str.ext' (by
  have:=List.le_antisymm h1 h2
  exact Array.toList_inj.mp this)
end
theorem g0f:∀ {x y:List Char},x.map Ma=y.map Ma->x=y:=by
 intro x
 induction x with
 | nil =>
  intro y h
  cases y with
  | nil=>rfl
  | cons _ _=>cases h
 | cons c x ih =>
  intro y h
  cases y with
  | nil=>cases h
  | cons d y =>
   injection h with h1 h2
   rw [Char.toNat_inj.mp h1,ih h2]
theorem g4e{a b:String}(h:B0 a=B0 b):a=b:=by
 rw [Ni,Ni] at h
 injection h with h
 exact String.toList_inj.mp (g0f (congrArg Mx h))
theorem nqS(a b:String):(B0 a == B0 b)=(a == b):=by
 by_cases h:a=b
 .subst h
  rw [beq_self_eq_true,beq_self_eq_true]
 .rw [beq_eq_false_iff_ne.mpr h,beq_eq_false_iff_ne.mpr fun k=>h (g4e k)]
def Nx(f N:St->Hp->Prop):Prop:=∀ O H,f O H->N O H
variable {f:St->Hp->Prop}
theorem nxGo{N:St->Hp->Prop}(h:Nx f N)(k:f O H):N O H:=h O H k
theorem seqN{t u:TS}{nx bk ct:St->Hp->Prop}{rt:VK}(h:∀ N,Nx (u ⟨nx,rt,bk,ct⟩) N->t ⟨N,rt,bk,ct⟩ O H):j9c t u ⟨nx,rt,bk,ct⟩ O H:=h (u ⟨nx,rt,bk,ct⟩) fun _ _ h=>h
theorem hid(h:∀ G,Nx f G->G O H):f O H:=h f fun _ _ h=>h
theorem hidP{p:Prop}(h:∀ G:Prop,(p->G)->G):p:=h p id
def NxV(f N:V->St->Hp->Prop):Prop:=∀ v O H,f v O H->N v O H
theorem k0v{f N:V->St->Hp->Prop}(h:NxV f N)(k:f v O H):N v O H:=h v O H k
theorem i2l{k:St->Hp->Prop}(h:∀ G,NxV (fun v O H=>g v O H k) G->G v O H):g v O H k:=h (fun v O H=>g v O H k) fun _ _ _ h=>h
theorem b2u.dn{j k:Nat}{A:Ds}(r:b2u k A)(h:j<=k:=by decide):b2u j A:=r.mono h
def cR(p:Addr->List V->Prop)(vs:List V):Prop:=match vs with
 | .ref a :: t=>p a t
 | _=>False
def cI(p:Int->List V->Prop)(vs:List V):Prop:=match vs with
 | .int a :: t=>p a t
 | _=>False
def cS(p:Str->List V->Prop)(vs:List V):Prop:=match vs with
 | .str a :: t=>p a t
 | _=>False
def cB(p:Bool->List V->Prop)(vs:List V):Prop:=match vs with
 | .bl a :: t=>p a t
 | _=>False
def cV(p:V->List V->Prop)(vs:List V):Prop:=match vs with
 | a :: t=>p a t
 | _=>False
def cN(q:Prop)(vs:List V):Prop:=match vs with
 | []=>q
 | _=>False
theorem qR{p:Addr->List V->Prop}{a:Addr}{t:List V}:cR p (.ref a :: t)=p a t:=rfl
theorem qI{p:Int->List V->Prop}{a:Int}{t:List V}:cI p (.int a :: t)=p a t:=rfl
theorem qS{p:Str->List V->Prop}{a:Str}{t:List V}:cS p (.str a :: t)=p a t:=rfl
theorem qB{p:Bool->List V->Prop}{a:Bool}{t:List V}:cB p (.bl a :: t)=p a t:=rfl
theorem qV{p:V->List V->Prop}{a:V}{t:List V}:cV p (a :: t)=p a t:=rfl
theorem qN{q:Prop}:cN q []=q:=rfl
theorem uR{p:Addr->List V->Prop}(h:cR p vs):∃ a t,vs = .ref a :: t/\p a t:=by
 obtain _ | ⟨x,t⟩:=vs
 .exact Bq h
 cases x <;> first | exact⟨_,_,rfl,h⟩ | exact Bq h
theorem uI{p:Int->List V->Prop}(h:cI p vs):∃ a t,vs = .int a :: t/\p a t:=by
 obtain _ | ⟨x,t⟩:=vs
 .exact Bq h
 cases x <;> first | exact⟨_,_,rfl,h⟩ | exact Bq h
theorem uS{p:Str->List V->Prop}(h:cS p vs):∃ a t,vs = .str a :: t/\p a t:=by
 obtain _ | ⟨x,t⟩:=vs
 .exact Bq h
 cases x <;> first | exact⟨_,_,rfl,h⟩ | exact Bq h
theorem uV{p:V->List V->Prop}(h:cV p vs):∃ a t,vs=a :: t/\p a t:=by
 obtain _ | ⟨x,t⟩:=vs
 .exact Bq h
 exact⟨_,_,rfl,h⟩
theorem uN{q:Prop}(h:cN q vs):vs = []/\q:=by
 obtain _ | ⟨x,t⟩:=vs
 .exact⟨rfl,h⟩
 .exact Bq h
section
variable {X:Cx}{k:Nat}{f C:Addr}{fd:C8}{ps:List Str}{sp:Sp}{x m:Str}{p pos apos pos':Pos}{e o a b:Expr}{es:List Expr}{ta tb te:TE}{t:TA}{id T:String}{r:List V->Hp->VK->Prop}{op:CmpOp}{r2:R2}
theorem a0v(hr:IxR X r2)(ha:PE X a ta)(hb:PE X b tb)(hs:h5j b:=by exact fun _ _=>rfl):PE X (.Subscript a b pos) (tOp r2 ta tb):=j9m hr ha hb hs
theorem a2m(F:a1j X.prog X.w X.K X.mg X.base CX0 k f fd ps sp)(hr:b2u k X.A)(hm:X.mg x=some (.ref f))(hk:Jj X.K (.ref f)=true)(hb:Binds X.K fd ps [])(ha:PA X (e :: es) t)(hg:Gl X x:=by rfl)(hdb:(x == ("__debug__":Str))=false:=by decide)(he:Cs (e :: es) X.env=(false,eval e X.env) :: Cs es X.env:=by rfl)(hpl:(Ew pos (Cs es X.env)).any (·.1)=false:=by rfl):PE X (.Call (.Name x p) (e :: es) [] pos) (i0z sp [] E0 t):=i6o F hr hg hm hk hb .nil a3i ha hdb he hpl
theorem a3p(hc:b0z X (.builtin id) r)(hm:X.mg x=none)(hv:Ho x=some (.builtin id))(ha:PA X (e :: es) t)(hg:Gl X x:=by rfl)(hn:x≠"__name__":=by decide)(hdb:(x == ("__debug__":Str))=false:=by decide)(he:Cs (e :: es) X.env=(false,eval e X.env) :: Cs es X.env:=by rfl)(hpl:(Ew pos (Cs es X.env)).any (·.1)=false:=by rfl):PE X (.Call (.Name x p) (e :: es) [] pos) (tCB r t):=i1a hc hg hm hv ha hn hdb he hpl
theorem a3n(ho:OpR X (Dl op) r2)(ha:PE X a ta)(hb:PE X b tb)(hm:Fa op b=false:=by first | rfl | exact h5a _):PT X (.Compare a [op] [b] pos) (tBF (tOp r2 ta tb)):=i7c ho ha hb hm
theorem a1t(i:Nat)(hN:X.N.Nodup)(he:PE X e te)(hi:X.N[i]? = some x:=by rfl)(hx:Loc X.env.scope x:=by exact Kp rfl)(hs:J3 e (some (.Name x pos')) pos.line X.env=pure false:=by rfl)(hf:X.fn x=true\/X.env.scope.names.lookup x=some .local:=by first | exact .inl rfl | exact .inr rfl | assumption):PS X (.Assign [.Name x pos'] e pos) (i4k te (g2u i)):=d8w hN hi hx he hs hf
theorem b2r(i:Nat)(hN:X.N.Nodup)(hi:X.N[i]? = some x:=by rfl)(hx:Loc X.env.scope x:=by exact Kp rfl)(hf:X.fn x=true\/X.env.scope.names.lookup x=some .local:=by first | exact .inl rfl | exact .inr rfl | assumption):PG X (.Name x pos) (g2u i):=f1u hN hi hx hf
variable {tg l:Expr}{tl:TE}{fl:Str}{value:Expr}{tv:TE}
theorem oeT(K:Bw)(hu:X.A.units+64 < Im)(hK:X.K=K:=by rfl):OpR X (Dl .Eq) (j0x K):=i7u hK hu
theorem onT(K:Bw)(hu:X.A.units+64 < Im)(hK:X.K=K:=by rfl):OpR X (Dl .NotEq) (j0y K):=i7v hK hu
theorem piT(K:Bw)(hl:PE X l tl)(hK:X.K=K:=by rfl):PI X tg l (g3m K tl):=h7f hK hl
theorem ptT(K:Bw)(hl:PE X l tl)(hK:X.K=K:=by rfl):PI X tg l (j4q K tl):=hK▸i7q hl
theorem pfT(K:Bw)(he:PE X e ta)(hb:Fb e fl X.env (eval e X.env)=eval e X.env:=by rfl)(hK:X.K=K:=by rfl):PE X (.Attribute e fl pos) (h6g K ta fl):=i1y hK he hb
theorem sfT(K:Bw)(ha:PE X o ta)(hv:PE X value tv)(hs:J3 value (some (.Attribute o fl pos')) pos.line X.env=pure false:=by rfl)(hK:X.K=K:=by rfl):PS X (.Assign [.Attribute o fl pos'] value pos) (i7h K ta tv fl):=hK▸i7i ha hv hs
theorem isT(K:Bw)(hK:X.K=K:=by rfl):IxR X (j3r K):=hK▸ix_S
theorem lkT(K:Bw)(hK:X.K=K:=by rfl):b0z X (.builtin "len") (j3s K):=hK▸h2b
theorem slT(K:Bw)(hK:X.K=K:=by rfl):SlR X (j3t K):=hK▸j9x
end
def EvE(t:TE)(O:St)(H:Hp)(v:V):Prop:=∀ Q:VK,Q v H->t O H Q
def EvT(t:TT)(O:St)(H:Hp)(b:Bool):Prop:=∀ Q:Bool->Hp->Prop,Q b H->t O H Q
def EvA(t:TA)(O:St)(H:Hp)(vs:List V):Prop:=∀ Q:List V->Hp->Prop,Q vs H->t O H Q
def EvO(t:TO)(O:St)(H:Hp)(o:Option Int):Prop:=∀ Q:Option Int->Hp->Prop,Q o H->t O H Q
def EvR(r:R2)(x y:V)(H:Hp)(v:V):Prop:=∀ Q:VK,Q v H->r x y H Q
def EvL(r:List V->Hp->VK->Prop)(xs:List V)(H:Hp)(v:V):Prop:=∀ Q:VK,Q v H->r xs H Q
section
variable {O:St}{H:Hp}{K:Bw}{t ta tb td ty tv:TE}{ts:TA}{v x y:V}{xs ys:List V}{i j:Int}{n:Nat}{r:R2}{rl:List V->Hp->VK->Prop}{a C dx:Addr}{f g k z:Str}{fs:List (Str×V)}{kvs:List (Key×V)}{tt tu:TT}{b c:Bool}{rm:V->List V->Hp->VK->Prop}{chk:V->Hp->Bool}{tl th:TO}{ol oh:Option Int}{rs:V->Option Int->Option Int->Hp->VK->Prop}
theorem ev_c:EvE (tC v) O H v:=fun _ h=>h
theorem k4j(h:O[n]? = some (some v)):EvE (b9n n) O H v:=fun Q q=>by unfold b9n; rw [h]; exact q
theorem ev_op(ha:EvE ta O H x)(hb:EvE tb O H y)(hr:EvR r x y H v):EvE (tOp r ta tb) O H v:=fun _ q=>ha _ (hb _ (hr _ q))
theorem ev_un{p:Int->V}(ha:EvE ta O H (.int i)):EvE (tUn (rUF p) ta) O H (p i):=fun _ q=>ha _ q
theorem ev_cb(ha:EvA ts O H xs)(hr:EvL rl xs H v):EvE (tCB rl ts) O H v:=fun _ q=>ha _ (hr _ q)
theorem k4k:EvA f7v O H []:=fun _ q=>q
theorem k0w(ha:EvE ta O H x)(hb:EvA ts O H xs):EvA (i6n ta ts) O H (x :: xs):=fun _ q=>ha _ (hb _ q)
theorem k4l(ha:EvE ta O H (.ref a))(h:H a=some (.ins C dx fs))(c:Cls K C)(m:a2i K C f)(l:fs.lookup f=some v):EvE (h6g K ta f) O H v:=fun Q q=>ha _ (by dsimp only; rw [h]; exact⟨c,m,by rw [l]; exact q⟩)
theorem k0x(hd:EvE td O H (.ref a))(hy:EvE ty O H (.str k))(h:H a=some (.dK kvs))(e:b9m kvs (kT k)=some v):EvE (h7d td ty) O H v:=fun Q q=>hd _ (hy _ (by show h7c (.ref a) (.str k) H Q; unfold h7c; dsimp only; rw [h]; exact⟨_,e,q⟩))
theorem k0y(hy:EvE ty O H (.str k))(hd:EvE td O H (.ref a))(h:H a=some (.dK kvs)):EvE (h0c ty td) O H (.bl ((b9m kvs (kT k)).isSome != true)):=fun Q q=>hy _ (hd _ (by show i2f true (.ref a) (.str k) H Q; unfold i2f; dsimp only; rw [h]; exact q))
theorem k0z{p:Str->Str->V}(ha:EvE ta O H (.str k))(hs:EvA ts O H [.str z]):EvE (k0a i4v (j4a p) ta ts) O H (p k z):=fun Q q=>ha _ ⟨rfl,hs _ q⟩
theorem k4m(h:EvT tt O H b)(e:b=true)(k:EvE ta O H v):EvE (tIf tt ta tb) O H v:=fun _ q=>h _ (by subst e; exact k _ q)
theorem k4n(h:EvT tt O H b)(e:b=false)(k:EvE tb O H v):EvE (tIf tt ta tb) O H v:=fun _ q=>h _ (by subst e; exact k _ q)
theorem lk_no(h:(f == g)=false)(l:fs.lookup f=some v):((g,x) :: fs).lookup f=some v:=by rw [d9i h]; exact l
theorem k4o:([] : List (Str×V)).lookup f=none:=rfl
theorem k4p(h:(f == g)=false)(l:fs.lookup f=none):((g,x) :: fs).lookup f=none:=by rw [d9i h]; exact l
theorem nq_no{a b:String}(h:(a == b)=false):(B0 a == B0 b)=false:=by rw [nqS]; exact h
variable {p:Int->Int->V}
theorem er_i0:EvR (i7b p) (.int i) (.int j) H (p i j):=fun _ q=>q
theorem er_i{C:Int->Int->Prop}(h:C i j):EvR (rIF C p) (.int i) (.int j) H (p i j):=fun _ q=>⟨h,q⟩
theorem k4q:EvR j3f (.int i) (.int j) H (.int (i+j)):=fun _ q=>q
theorem k4r(h:Fu i j):EvR j3g (.int i) (.int j) H (.int (i*j)):=fun _ q=>⟨h,q⟩
theorem er_eq(h:h1o x y=true):EvR (j0x K) x y H (.bl (decide (x=y))):=fun Q q=>by unfold j0x; rw [if_pos h]; exact q
theorem er_ne(h:h1o x y=true):EvR (j0y K) x y H (.bl (!decide (x=y))):=fun Q q=>by unfold j0y; rw [if_pos h]; exact q
theorem k4s(h:H a=some (.lst xs))(e:atI xs i=some v):EvR j3j (.ref a) (.int i) H v:=fun Q q=>by unfold j3j; dsimp only; rw [h]; exact⟨_,e,q⟩
theorem k4t(h:H a=some (.tup xs))(e:atI xs i=some v):EvR j3j (.ref a) (.int i) H v:=fun Q q=>by unfold j3j; dsimp only; rw [h]; exact⟨_,e,q⟩
theorem k4u(h:H a=some (.lst xs))(hx:c0s x=true)(hs:xs.all c0s=true):EvR (j8n b) x (.ref a) H (.bl (inV x xs != b)):=fun Q q=>by unfold j8n; dsimp only; rw [h]; exact⟨hx,hs,q⟩
theorem k1a(h:H a=some (.lst xs))(e:xs.length=n):EvL h5x [.ref a] H (.int n):=fun Q q=>by unfold h5x; dsimp only; rw [h]; subst e; exact q
theorem k1b(h:H a=some (.tup xs))(e:xs.length=n):EvL h5x [.ref a] H (.int n):=fun Q q=>by unfold h5x; dsimp only; rw [h]; subst e; exact q
theorem k1c(h:H a=some (.dK kvs)):EvL i8j [.ref a] H (.int kvs.length):=fun Q q=>by unfold i8j; dsimp only; rw [h]; exact q
theorem k4v:EvL k3t [.int i] H (.int i.natAbs):=fun _ q=>q
theorem k4w:EvL k3v [.int i,.int j] H (.int (max i j)):=fun _ q=>q
theorem k4x:EvL k3u [.int i,.int j] H (.int (min i j)):=fun _ q=>q
theorem el_is{T s:Ty}{m:String}(h:m=T.nm)(e:h4g H x=some s):EvL (k3l T) [x,.ty m] H (.bl (h5w s T)):=fun _ q=>⟨h,_,e,q⟩
theorem ty_l(h:H a=some (.lst xs)):h4g H (.ref a)=some .lst:=by rw [h5z,h]
theorem ty_t(h:H a=some (.tup xs)):h4g H (.ref a)=some .tup:=by rw [h5z,h]
theorem ty_d(h:H a=some (.dK kvs)):h4g H (.ref a)=some .dct:=by rw [h5z,h]
theorem et_b(h:EvE t O H (.bl b)):EvT (tBF t) O H b:=fun Q q=>h _ q
theorem k4y(h:EvT tt O H b):EvT (k3d tt) O H (!b):=fun _ q=>h _ q
theorem k1d(h:EvT tt O H b)(e:b=false):EvT (j9b tt tu) O H false:=fun _ q=>h _ (by subst e; exact q)
theorem k1e(h:EvT tt O H b)(e:b=true)(k:EvT tu O H c):EvT (j9b tt tu) O H c:=fun _ q=>h _ (by subst e; exact k _ q)
theorem k4z(h:EvT tt O H b)(e:b=true):EvT (tOr tt tu) O H true:=fun _ q=>h _ (by subst e; exact q)
theorem k5a(h:EvT tt O H b)(e:b=false)(k:EvT tu O H c):EvT (tOr tt tu) O H c:=fun _ q=>h _ (by subst e; exact k _ q)
theorem eo_no:EvO h5i O H none:=fun _ q=>q
theorem eo_p(h:EvE t O H (.int i)):EvO (h6c t) O H (some i):=fun _ q=>h _ q
variable {Q:VK}{sp:Sp}{dvs:List V}{E:XK}
theorem at_e(h:EvE t O H v)(q:Q v H):t O H Q:=h _ q
theorem at_op(ha:EvE ta O H x)(hb:EvE tb O H y)(q:r x y H Q):tOp r ta tb O H Q:=ha _ (hb _ q)
theorem at_cb(ha:EvA ts O H xs)(q:rl xs H Q):tCB rl ts O H Q:=ha _ q
theorem k1f(ha:EvA ts O H xs)(q:sp (xs++dvs) H Q E):i0z sp dvs E ts O H Q:=ha _ q
theorem k5b(ha:EvA ts O H xs)(q:xs.length<=Cb/\New H (.tup xs) Q ⟨⟩):j3d ts O H Q:=ha _ q
theorem k5c(ha:EvA ts O H xs)(q:xs.length<=Cb/\New H (.lst xs) Q ⟨⟩):j3e ts O H Q:=ha _ q
theorem at_bm(ha:EvE ta O H x)(c:chk x H=true)(hs:EvA ts O H xs)(q:rm x xs H Q):k0a chk rm ta ts O H Q:=ha _ ⟨c,hs _ q⟩
theorem k5d(ha:EvE ta O H x)(c:chk x H=true)(q:rm x [] H Q):j4s chk rm ta O H Q:=ha _ ⟨c,q⟩
theorem k1g{m:Str}(ha:EvE ta O H (.ref a))(h:H a=some (.ins C dx fs))(l:fs.lookup m=none)(hs:EvA ts O H xs)(q:sp (.ref a :: (xs++dvs)) H Q E):a8r C m sp dvs E ta ts O H Q:=ha _ (by dsimp only; rw [h]; exact⟨rfl,l,hs _ q⟩)
theorem k1h(hs:EvA ts O H xs)(q:j4d H C (fun x H2=>sp (.ref x :: (xs++dvs)) H2 (i7j x Q) E) ⟨⟩):h6h C sp dvs E ts O H Q:=hs _ q
theorem at_sl(ha:EvE ta O H x)(hl:EvO tl O H ol)(hh:EvO th O H oh)(q:rs x ol oh H Q):tSl rs ta tl th O H Q:=ha _ (hl _ (hh _ q))
theorem at_dg(hd:EvE td O H x)(hy:EvE ty O H y)(q:h7c x y H Q):h7d td ty O H Q:=hd _ (hy _ q)
variable {nx bk ct:St->Hp->Prop}{rt:VK}{D:Ends}{u w:TS}{gg:TG}{m:Nat}{Aa:St}
theorem k5e(h:EvE t O H v)(k:nx (O.set m (some v)) H):i4k t (g2u m) ⟨nx,rt,bk,ct⟩ O H:=h _ k
theorem st_g(h:EvE t O H v)(k:gg v O H nx):i4k t gg ⟨nx,rt,bk,ct⟩ O H:=h _ k
theorem k5f(k:t O H fun x H1=>gg x O H1 nx):i4k t gg ⟨nx,rt,bk,ct⟩ O H:=k
theorem k5g(h:EvT tt O H b)(e:b=true)(k:u D O H):j8k tt u w D O H:=h _ (by rw [if_pos e]; exact k)
theorem k5h(h:EvT tt O H b)(e:b=false)(k:w D O H):j8k tt u w D O H:=h _ (by rw [if_neg (by rw [e]; exact Cd)]; exact k)
theorem st_if(h:EvT tt O H b)(k:if b=true then u D O H else w D O H):j8k tt u w D O H:=h _ k
theorem k5i(h:EvE t O H v)(k:rt v H):j8j t ⟨nx,rt,bk,ct⟩ O H:=h _ k
theorem k1i(k:t O H rt):j8j t ⟨nx,rt,bk,ct⟩ O H:=k
theorem k1j(k:rt .non H):j1v ⟨nx,rt,bk,ct⟩ O H:=k
theorem k1k(k:nx O H):i6e ⟨nx,rt,bk,ct⟩ O H:=k
theorem k1l(k:t O H fun _ H1=>nx O H1):i6f t ⟨nx,rt,bk,ct⟩ O H:=k
theorem k1m(hv:EvE tv O H v)(hd:EvE td O H x)(hy:EvE ty O H y)(k:i8h x y v H (nx O)):i5i td ty tv ⟨nx,rt,bk,ct⟩ O H:=hv _ (hd _ (hy _ k))
theorem k5j(hv:EvE tv O H y)(ha:EvE ta O H (.ref a))(h:H a=some (.ins C dx fs))(c:Cls K C)(m:a2i K C f)(l:Nat.ble (fs.length+1) 1000=true)(k:Wr H a (.ins C dx (f1l f y fs)) (nx O) ⟨⟩):i7h K ta tv f ⟨nx,rt,bk,ct⟩ O H:=hv _ (ha _ (by dsimp only; rw [h]; exact⟨c,m,Nat.le_of_ble_eq_true l,k⟩))
theorem k5k{tb:TS}(ha:EvE ta O H (.ref a))(k:(∃ xs,SqL K H a xs)/\j0w (Itl K a) gg tb D O H):j3c (g3m K ta) gg tb D O H:=ha _ k
theorem gn_at(k:nx (O.set m (some v)) H):g2u m v O H nx:=k
end
variable {G:Prop}
theorem oe1{A0:Type}{P:A0->Prop}(h:∃ a0,P a0)(g:∀ a0,P a0->G):G:=by
 obtain⟨a0,h⟩:=h
 exact g a0 h
theorem oe2{A0 A1:Type}{P:A0->A1->Prop}(h:∃ a0 a1,P a0 a1)(g:∀ a0 a1,P a0 a1->G):G:=by
 obtain⟨a0,a1,h⟩:=h
 exact g a0 a1 h
theorem oe3{A0 A1 A2:Type}{P:A0->A1->A2->Prop}(h:∃ a0 a1 a2,P a0 a1 a2)(g:∀ a0 a1 a2,P a0 a1 a2->G):G:=by
 obtain⟨a0,a1,a2,h⟩:=h
 exact g a0 a1 a2 h
theorem oe4{A0 A1 A2 A3:Type}{P:A0->A1->A2->A3->Prop}(h:∃ a0 a1 a2 a3,P a0 a1 a2 a3)(g:∀ a0 a1 a2 a3,P a0 a1 a2 a3->G):G:=by
 obtain⟨a0,a1,a2,a3,h⟩:=h
 exact g a0 a1 a2 a3 h
theorem oe5{A0 A1 A2 A3 A4:Type}{P:A0->A1->A2->A3->A4->Prop}(h:∃ a0 a1 a2 a3 a4,P a0 a1 a2 a3 a4)(g:∀ a0 a1 a2 a3 a4,P a0 a1 a2 a3 a4->G):G:=by
 obtain⟨a0,a1,a2,a3,a4,h⟩:=h
 exact g a0 a1 a2 a3 a4 h
theorem oe6{A0 A1 A2 A3 A4 A5:Type}{P:A0->A1->A2->A3->A4->A5->Prop}(h:∃ a0 a1 a2 a3 a4 a5,P a0 a1 a2 a3 a4 a5)(g:∀ a0 a1 a2 a3 a4 a5,P a0 a1 a2 a3 a4 a5->G):G:=by
 obtain⟨a0,a1,a2,a3,a4,a5,h⟩:=h
 exact g a0 a1 a2 a3 a4 a5 h
theorem oe7{A0 A1 A2 A3 A4 A5 A6:Type}{P:A0->A1->A2->A3->A4->A5->A6->Prop}(h:∃ a0 a1 a2 a3 a4 a5 a6,P a0 a1 a2 a3 a4 a5 a6)(g:∀ a0 a1 a2 a3 a4 a5 a6,P a0 a1 a2 a3 a4 a5 a6->G):G:=by
 obtain⟨a0,a1,a2,a3,a4,a5,a6,h⟩:=h
 exact g a0 a1 a2 a3 a4 a5 a6 h
theorem oe8{A0 A1 A2 A3 A4 A5 A6 A7:Type}{P:A0->A1->A2->A3->A4->A5->A6->A7->Prop}(h:∃ a0 a1 a2 a3 a4 a5 a6 a7,P a0 a1 a2 a3 a4 a5 a6 a7)(g:∀ a0 a1 a2 a3 a4 a5 a6 a7,P a0 a1 a2 a3 a4 a5 a6 a7->G):G:=by
 obtain⟨a0,a1,a2,a3,a4,a5,a6,a7,h⟩:=h
 exact g a0 a1 a2 a3 a4 a5 a6 a7 h
theorem oe9{A0 A1 A2 A3 A4 A5 A6 A7 A8:Type}{P:A0->A1->A2->A3->A4->A5->A6->A7->A8->Prop}(h:∃ a0 a1 a2 a3 a4 a5 a6 a7 a8,P a0 a1 a2 a3 a4 a5 a6 a7 a8)(g:∀ a0 a1 a2 a3 a4 a5 a6 a7 a8,P a0 a1 a2 a3 a4 a5 a6 a7 a8->G):G:=by
 obtain⟨a0,a1,a2,a3,a4,a5,a6,a7,a8,h⟩:=h
 exact g a0 a1 a2 a3 a4 a5 a6 a7 a8 h
theorem oe12{A0 A1 A2 A3 A4 A5 A6 A7 A8 A9 A10 A11:Type}{P:A0->A1->A2->A3->A4->A5->A6->A7->A8->A9->A10->A11->Prop}(h:∃ a0 a1 a2 a3 a4 a5 a6 a7 a8 a9 a10 a11,P a0 a1 a2 a3 a4 a5 a6 a7 a8 a9 a10 a11)(g:∀ a0 a1 a2 a3 a4 a5 a6 a7 a8 a9 a10 a11,P a0 a1 a2 a3 a4 a5 a6 a7 a8 a9 a10 a11->G):G:=by
 obtain⟨a0,a1,a2,a3,a4,a5,a6,a7,a8,a9,a10,a11,h⟩:=h
 exact g a0 a1 a2 a3 a4 a5 a6 a7 a8 a9 a10 a11 h
theorem oc2{P0 P1 G:Prop}(h:P0/\P1)(g:P0->P1->G):G:=by
 obtain⟨h0,h1⟩:=h
 exact g h0 h1
theorem oc3{P0 P1 P2 G:Prop}(h:P0/\P1/\P2)(g:P0->P1->P2->G):G:=by
 obtain⟨h0,h1,h2⟩:=h
 exact g h0 h1 h2
theorem oc4{P0 P1 P2 P3 G:Prop}(h:P0/\P1/\P2/\P3)(g:P0->P1->P2->P3->G):G:=by
 obtain⟨h0,h1,h2,h3⟩:=h
 exact g h0 h1 h2 h3
theorem oc5{P0 P1 P2 P3 P4 G:Prop}(h:P0/\P1/\P2/\P3/\P4)(g:P0->P1->P2->P3->P4->G):G:=by
 obtain⟨h0,h1,h2,h3,h4⟩:=h
 exact g h0 h1 h2 h3 h4
theorem oc6{P0 P1 P2 P3 P4 P5 G:Prop}(h:P0/\P1/\P2/\P3/\P4/\P5)(g:P0->P1->P2->P3->P4->P5->G):G:=by
 obtain⟨h0,h1,h2,h3,h4,h5⟩:=h
 exact g h0 h1 h2 h3 h4 h5
theorem oc7{P0 P1 P2 P3 P4 P5 P6 G:Prop}(h:P0/\P1/\P2/\P3/\P4/\P5/\P6)(g:P0->P1->P2->P3->P4->P5->P6->G):G:=by
 obtain⟨h0,h1,h2,h3,h4,h5,h6⟩:=h
 exact g h0 h1 h2 h3 h4 h5 h6
theorem oc8{P0 P1 P2 P3 P4 P5 P6 P7 G:Prop}(h:P0/\P1/\P2/\P3/\P4/\P5/\P6/\P7)(g:P0->P1->P2->P3->P4->P5->P6->P7->G):G:=by
 obtain⟨h0,h1,h2,h3,h4,h5,h6,h7⟩:=h
 exact g h0 h1 h2 h3 h4 h5 h6 h7
theorem oc9{P0 P1 P2 P3 P4 P5 P6 P7 P8 G:Prop}(h:P0/\P1/\P2/\P3/\P4/\P5/\P6/\P7/\P8)(g:P0->P1->P2->P3->P4->P5->P6->P7->P8->G):G:=by
 obtain⟨h0,h1,h2,h3,h4,h5,h6,h7,h8⟩:=h
 exact g h0 h1 h2 h3 h4 h5 h6 h7 h8
theorem oc10{P0 P1 P2 P3 P4 P5 P6 P7 P8 P9 G:Prop}(h:P0/\P1/\P2/\P3/\P4/\P5/\P6/\P7/\P8/\P9)(g:P0->P1->P2->P3->P4->P5->P6->P7->P8->P9->G):G:=by
 obtain⟨h0,h1,h2,h3,h4,h5,h6,h7,h8,h9⟩:=h
 exact g h0 h1 h2 h3 h4 h5 h6 h7 h8 h9
theorem oc11{P0 P1 P2 P3 P4 P5 P6 P7 P8 P9 P10 G:Prop}(h:P0/\P1/\P2/\P3/\P4/\P5/\P6/\P7/\P8/\P9/\P10)(g:P0->P1->P2->P3->P4->P5->P6->P7->P8->P9->P10->G):G:=by
 obtain⟨h0,h1,h2,h3,h4,h5,h6,h7,h8,h9,h10⟩:=h
 exact g h0 h1 h2 h3 h4 h5 h6 h7 h8 h9 h10
theorem oc13{P0 P1 P2 P3 P4 P5 P6 P7 P8 P9 P10 P11 P12 G:Prop}(h:P0/\P1/\P2/\P3/\P4/\P5/\P6/\P7/\P8/\P9/\P10/\P11/\P12)(g:P0->P1->P2->P3->P4->P5->P6->P7->P8->P9->P10->P11->P12->G):G:=by
 obtain⟨h0,h1,h2,h3,h4,h5,h6,h7,h8,h9,h10,h11,h12⟩:=h
 exact g h0 h1 h2 h3 h4 h5 h6 h7 h8 h9 h10 h11 h12
end L2
set_option maxHeartbeats 4000000
namespace My
open PySem PySem.Spec PyProof.Rows L2
open PySem.Builtin.Int (intBits)
theorem szl:Cb=16777216:=Dm
variable {vs:List V}
theorem j8q{P:Int->Prop}(h:cI (fun x0=>cN (P x0)) vs):∃ x0,vs = [.int x0]/\P x0:=by
 obtain⟨_,_,rfl,h0⟩:=uI h
 obtain⟨rfl,z⟩:=uN h0
 exact⟨_,rfl,z⟩
theorem k1n{P:Int->Prop}(h:cI (fun x0=>cN (P x0)) vs):vs.length=1:=by
 obtain⟨_,rfl,_⟩:=j8q h
 rfl
theorem k1o{P:Int->Int->Prop}{vs:List V}(h:cI (fun x0=>cI (fun x1=>cN (P x0 x1))) vs):∃ x0 x1,vs = [.int x0,.int x1]/\P x0 x1:=by
 obtain⟨_,_,rfl,h0⟩:=uI h
 obtain⟨_,_,rfl,h1⟩:=uI h0
 obtain⟨rfl,z⟩:=uN h1
 exact⟨_,_,rfl,z⟩
theorem h7l{P:Int->Int->Prop}(h:cI (fun x0=>cI (fun x1=>cN (P x0 x1))) vs):vs.length=2:=by
 obtain⟨_,_,rfl,_⟩:=k1o h
 rfl
theorem g7g{P:Addr->Prop}{vs:List V}(h:cR (fun x0=>cN (P x0)) vs):∃ x0,vs = [.ref x0]/\P x0:=by
 obtain⟨_,_,rfl,h0⟩:=uR h
 obtain⟨rfl,z⟩:=uN h0
 exact⟨_,rfl,z⟩
theorem d3p{P:Addr->Prop}(h:cR (fun x0=>cN (P x0)) vs):vs.length=1:=by
 obtain⟨_,rfl,_⟩:=g7g h
 rfl
theorem j5e{P:Addr->Int->Prop}{vs:List V}(h:cR (fun x0=>cI (fun x1=>cN (P x0 x1))) vs):∃ x0 x1,vs = [.ref x0,.int x1]/\P x0 x1:=by
 obtain⟨_,_,rfl,h0⟩:=uR h
 obtain⟨_,_,rfl,h1⟩:=uI h0
 obtain⟨rfl,z⟩:=uN h1
 exact⟨_,_,rfl,z⟩
theorem g0g{P:Addr->Int->Prop}(h:cR (fun x0=>cI (fun x1=>cN (P x0 x1))) vs):vs.length=2:=by
 obtain⟨_,_,rfl,_⟩:=j5e h
 rfl
theorem j5f{P:Addr->Int->Int->Prop}{vs:List V}(h:cR (fun x0=>cI (fun x1=>cI (fun x2=>cN (P x0 x1 x2)))) vs):∃ x0 x1 x2,vs = [.ref x0,.int x1,.int x2]/\P x0 x1 x2:=by
 obtain⟨_,_,rfl,h0⟩:=uR h
 obtain⟨_,_,rfl,h1⟩:=uI h0
 obtain⟨_,_,rfl,h2⟩:=uI h1
 obtain⟨rfl,z⟩:=uN h2
 exact⟨_,_,_,rfl,z⟩
theorem j5g{P:Addr->Int->Int->Prop}(h:cR (fun x0=>cI (fun x1=>cI (fun x2=>cN (P x0 x1 x2)))) vs):vs.length=3:=by
 obtain⟨_,_,_,rfl,_⟩:=j5f h
 rfl
theorem i8k{P:Addr->Int->Addr->Int->Prop}{vs:List V}(h:cR (fun x0=>cI (fun x1=>cR (fun x2=>cI (fun x3=>cN (P x0 x1 x2 x3))))) vs):∃ x0 x1 x2 x3,vs = [.ref x0,.int x1,.ref x2,.int x3]/\P x0 x1 x2 x3:=by
 obtain⟨_,_,rfl,h0⟩:=uR h
 obtain⟨_,_,rfl,h1⟩:=uI h0
 obtain⟨_,_,rfl,h2⟩:=uR h1
 obtain⟨_,_,rfl,h3⟩:=uI h2
 obtain⟨rfl,z⟩:=uN h3
 exact⟨_,_,_,_,rfl,z⟩
theorem i8l{P:Addr->Int->Addr->Int->Prop}(h:cR (fun x0=>cI (fun x1=>cR (fun x2=>cI (fun x3=>cN (P x0 x1 x2 x3))))) vs):vs.length=4:=by
 obtain⟨_,_,_,_,rfl,_⟩:=i8k h
 rfl
theorem i2m{P:Addr->Addr->Prop}{vs:List V}(h:cR (fun x0=>cR (fun x1=>cN (P x0 x1))) vs):∃ x0 x1,vs = [.ref x0,.ref x1]/\P x0 x1:=by
 obtain⟨_,_,rfl,h0⟩:=uR h
 obtain⟨_,_,rfl,h1⟩:=uR h0
 obtain⟨rfl,z⟩:=uN h1
 exact⟨_,_,rfl,z⟩
theorem g0h{P:Addr->Addr->Prop}(h:cR (fun x0=>cR (fun x1=>cN (P x0 x1))) vs):vs.length=2:=by
 obtain⟨_,_,rfl,_⟩:=i2m h
 rfl
theorem h7m{P:Addr->Addr->Int->Prop}{vs:List V}(h:cR (fun x0=>cR (fun x1=>cI (fun x2=>cN (P x0 x1 x2)))) vs):∃ x0 x1 x2,vs = [.ref x0,.ref x1,.int x2]/\P x0 x1 x2:=by
 obtain⟨_,_,rfl,h0⟩:=uR h
 obtain⟨_,_,rfl,h1⟩:=uR h0
 obtain⟨_,_,rfl,h2⟩:=uI h1
 obtain⟨rfl,z⟩:=uN h2
 exact⟨_,_,_,rfl,z⟩
theorem h7n{P:Addr->Addr->Int->Prop}(h:cR (fun x0=>cR (fun x1=>cI (fun x2=>cN (P x0 x1 x2)))) vs):vs.length=3:=by
 obtain⟨_,_,_,rfl,_⟩:=h7m h
 rfl
theorem i8m{P:Addr->Addr->Int->Int->Prop}{vs:List V}(h:cR (fun x0=>cR (fun x1=>cI (fun x2=>cI (fun x3=>cN (P x0 x1 x2 x3))))) vs):∃ x0 x1 x2 x3,vs = [.ref x0,.ref x1,.int x2,.int x3]/\P x0 x1 x2 x3:=by
 obtain⟨_,_,rfl,h0⟩:=uR h
 obtain⟨_,_,rfl,h1⟩:=uR h0
 obtain⟨_,_,rfl,h2⟩:=uI h1
 obtain⟨_,_,rfl,h3⟩:=uI h2
 obtain⟨rfl,z⟩:=uN h3
 exact⟨_,_,_,_,rfl,z⟩
theorem i8n{P:Addr->Addr->Int->Int->Prop}(h:cR (fun x0=>cR (fun x1=>cI (fun x2=>cI (fun x3=>cN (P x0 x1 x2 x3))))) vs):vs.length=4:=by
 obtain⟨_,_,_,_,rfl,_⟩:=i8m h
 rfl
theorem j5h{P:Addr->Addr->Addr->Prop}{vs:List V}(h:cR (fun x0=>cR (fun x1=>cR (fun x2=>cN (P x0 x1 x2)))) vs):∃ x0 x1 x2,vs = [.ref x0,.ref x1,.ref x2]/\P x0 x1 x2:=by
 obtain⟨_,_,rfl,h0⟩:=uR h
 obtain⟨_,_,rfl,h1⟩:=uR h0
 obtain⟨_,_,rfl,h2⟩:=uR h1
 obtain⟨rfl,z⟩:=uN h2
 exact⟨_,_,_,rfl,z⟩
theorem j5i{P:Addr->Addr->Addr->Prop}(h:cR (fun x0=>cR (fun x1=>cR (fun x2=>cN (P x0 x1 x2)))) vs):vs.length=3:=by
 obtain⟨_,_,_,rfl,_⟩:=j5h h
 rfl
theorem g7h{P:Addr->Addr->Addr->Int->Prop}{vs:List V}(h:cR (fun x0=>cR (fun x1=>cR (fun x2=>cI (fun x3=>cN (P x0 x1 x2 x3))))) vs):∃ x0 x1 x2 x3,vs = [.ref x0,.ref x1,.ref x2,.int x3]/\P x0 x1 x2 x3:=by
 obtain⟨_,_,rfl,h0⟩:=uR h
 obtain⟨_,_,rfl,h1⟩:=uR h0
 obtain⟨_,_,rfl,h2⟩:=uR h1
 obtain⟨_,_,rfl,h3⟩:=uI h2
 obtain⟨rfl,z⟩:=uN h3
 exact⟨_,_,_,_,rfl,z⟩
theorem g0i{P:Addr->Addr->Addr->Int->Prop}(h:cR (fun x0=>cR (fun x1=>cR (fun x2=>cI (fun x3=>cN (P x0 x1 x2 x3))))) vs):vs.length=4:=by
 obtain⟨_,_,_,_,rfl,_⟩:=g7h h
 rfl
variable {P:Addr->Addr->Addr->Int->Int->Prop}
theorem h0e(h:cR (fun x0=>cR (fun x1=>cR (fun x2=>cI (fun x3=>cI (fun x4=>cN (P x0 x1 x2 x3 x4)))))) vs):∃ x0 x1 x2 x3 x4,vs = [.ref x0,.ref x1,.ref x2,.int x3,.int x4]/\P x0 x1 x2 x3 x4:=by
 obtain⟨_,_,rfl,h0⟩:=uR h
 obtain⟨_,_,rfl,h1⟩:=uR h0
 obtain⟨_,_,rfl,h2⟩:=uR h1
 obtain⟨_,_,rfl,h3⟩:=uI h2
 obtain⟨_,_,rfl,h4⟩:=uI h3
 obtain⟨rfl,z⟩:=uN h4
 exact⟨_,_,_,_,_,rfl,z⟩
theorem i2n(h:cR (fun x0=>cR (fun x1=>cR (fun x2=>cI (fun x3=>cI (fun x4=>cN (P x0 x1 x2 x3 x4)))))) vs):vs.length=5:=by
 obtain⟨_,_,_,_,_,rfl,_⟩:=h0e h
 rfl
theorem j5j{P:Addr->Str->Prop}{vs:List V}(h:cR (fun x0=>cS (fun x1=>cN (P x0 x1))) vs):∃ x0 x1,vs = [.ref x0,.str x1]/\P x0 x1:=by
 obtain⟨_,_,rfl,h0⟩:=uR h
 obtain⟨_,_,rfl,h1⟩:=uS h0
 obtain⟨rfl,z⟩:=uN h1
 exact⟨_,_,rfl,z⟩
theorem i8o{P:Addr->Str->Prop}(h:cR (fun x0=>cS (fun x1=>cN (P x0 x1))) vs):vs.length=2:=by
 obtain⟨_,_,rfl,_⟩:=j5j h
 rfl
theorem i5k{P:Addr->Str->Addr->Prop}{vs:List V}(h:cR (fun x0=>cS (fun x1=>cR (fun x2=>cN (P x0 x1 x2)))) vs):∃ x0 x1 x2,vs = [.ref x0,.str x1,.ref x2]/\P x0 x1 x2:=by
 obtain⟨_,_,rfl,h0⟩:=uR h
 obtain⟨_,_,rfl,h1⟩:=uS h0
 obtain⟨_,_,rfl,h2⟩:=uR h1
 obtain⟨rfl,z⟩:=uN h2
 exact⟨_,_,_,rfl,z⟩
theorem i5l{P:Addr->Str->Addr->Prop}(h:cR (fun x0=>cS (fun x1=>cR (fun x2=>cN (P x0 x1 x2)))) vs):vs.length=3:=by
 obtain⟨_,_,_,rfl,_⟩:=i5k h
 rfl
variable {P:Addr->Str->Addr->Int->Prop}
theorem h7o(h:cR (fun x0=>cS (fun x1=>cR (fun x2=>cI (fun x3=>cN (P x0 x1 x2 x3))))) vs):∃ x0 x1 x2 x3,vs = [.ref x0,.str x1,.ref x2,.int x3]/\P x0 x1 x2 x3:=by
 obtain⟨_,_,rfl,h0⟩:=uR h
 obtain⟨_,_,rfl,h1⟩:=uS h0
 obtain⟨_,_,rfl,h2⟩:=uR h1
 obtain⟨_,_,rfl,h3⟩:=uI h2
 obtain⟨rfl,z⟩:=uN h3
 exact⟨_,_,_,_,rfl,z⟩
theorem i8p(h:cR (fun x0=>cS (fun x1=>cR (fun x2=>cI (fun x3=>cN (P x0 x1 x2 x3))))) vs):vs.length=4:=by
 obtain⟨_,_,_,_,rfl,_⟩:=h7o h
 rfl
theorem j5k{P:Addr->Str->Str->Prop}{vs:List V}(h:cR (fun x0=>cS (fun x1=>cS (fun x2=>cN (P x0 x1 x2)))) vs):∃ x0 x1 x2,vs = [.ref x0,.str x1,.str x2]/\P x0 x1 x2:=by
 obtain⟨_,_,rfl,h0⟩:=uR h
 obtain⟨_,_,rfl,h1⟩:=uS h0
 obtain⟨_,_,rfl,h2⟩:=uS h1
 obtain⟨rfl,z⟩:=uN h2
 exact⟨_,_,_,rfl,z⟩
theorem j5l{P:Addr->Str->Str->Prop}(h:cR (fun x0=>cS (fun x1=>cS (fun x2=>cN (P x0 x1 x2)))) vs):vs.length=3:=by
 obtain⟨_,_,_,rfl,_⟩:=j5k h
 rfl
theorem i8q{P:Addr->Str->Str->Addr->Prop}{vs:List V}(h:cR (fun x0=>cS (fun x1=>cS (fun x2=>cR (fun x3=>cN (P x0 x1 x2 x3))))) vs):∃ x0 x1 x2 x3,vs = [.ref x0,.str x1,.str x2,.ref x3]/\P x0 x1 x2 x3:=by
 obtain⟨_,_,rfl,h0⟩:=uR h
 obtain⟨_,_,rfl,h1⟩:=uS h0
 obtain⟨_,_,rfl,h2⟩:=uS h1
 obtain⟨_,_,rfl,h3⟩:=uR h2
 obtain⟨rfl,z⟩:=uN h3
 exact⟨_,_,_,_,rfl,z⟩
theorem i8r{P:Addr->Str->Str->Addr->Prop}(h:cR (fun x0=>cS (fun x1=>cS (fun x2=>cR (fun x3=>cN (P x0 x1 x2 x3))))) vs):vs.length=4:=by
 obtain⟨_,_,_,_,rfl,_⟩:=i8q h
 rfl
theorem k1p{P:Addr->V->Addr->Int->Prop}{vs:List V}(h:cR (fun x0=>cV (fun x1=>cR (fun x2=>cI (fun x3=>cN (P x0 x1 x2 x3))))) vs):∃ x0 x1 x2 x3,vs = [.ref x0,x1,.ref x2,.int x3]/\P x0 x1 x2 x3:=by
 obtain⟨_,_,rfl,h0⟩:=uR h
 obtain⟨_,_,rfl,h1⟩:=uV h0
 obtain⟨_,_,rfl,h2⟩:=uR h1
 obtain⟨_,_,rfl,h3⟩:=uI h2
 obtain⟨rfl,z⟩:=uN h3
 exact⟨_,_,_,_,rfl,z⟩
theorem j8r{P:Str->Prop}{vs:List V}(h:cS (fun x0=>cN (P x0)) vs):∃ x0,vs = [.str x0]/\P x0:=by
 obtain⟨_,_,rfl,h0⟩:=uS h
 obtain⟨rfl,z⟩:=uN h0
 exact⟨_,rfl,z⟩
theorem i5m{P:Str->Prop}(h:cS (fun x0=>cN (P x0)) vs):vs.length=1:=by
 obtain⟨_,rfl,_⟩:=j8r h
 rfl
theorem j5m{P:Str->Int->Int->Prop}{vs:List V}(h:cS (fun x0=>cI (fun x1=>cI (fun x2=>cN (P x0 x1 x2)))) vs):∃ x0 x1 x2,vs = [.str x0,.int x1,.int x2]/\P x0 x1 x2:=by
 obtain⟨_,_,rfl,h0⟩:=uS h
 obtain⟨_,_,rfl,h1⟩:=uI h0
 obtain⟨_,_,rfl,h2⟩:=uI h1
 obtain⟨rfl,z⟩:=uN h2
 exact⟨_,_,_,rfl,z⟩
theorem j5n{P:Str->Int->Int->Prop}(h:cS (fun x0=>cI (fun x1=>cI (fun x2=>cN (P x0 x1 x2)))) vs):vs.length=3:=by
 obtain⟨_,_,_,rfl,_⟩:=j5m h
 rfl
noncomputable def top(i:Nat):Stmt:=PySem.Challenge.pw_mixbench_k65_whole_linear.main.body.getD i (.Pass ⟨0,0,0,0⟩)
noncomputable abbrev f8i:Stmt:=(top 14)
noncomputable abbrev d9l:Stmt:=(top 15)
noncomputable abbrev f8j:Stmt:=(top 16)
noncomputable abbrev g4f:Stmt:=(top 19)
noncomputable abbrev f8k:Stmt:=(top 20)
noncomputable abbrev f8l:Stmt:=(top 21)
noncomputable abbrev i5n:Stmt:=(top 22)
noncomputable abbrev h7p:Stmt:=(top 23)
noncomputable abbrev d0l:Stmt:=(top 26)
noncomputable abbrev d0m:Stmt:=(top 27)
noncomputable abbrev d0n:Stmt:=(top 29)
noncomputable abbrev d4h:Stmt:=(top 30)
noncomputable abbrev f2t:Stmt:=(top 32)
noncomputable abbrev g4g:Stmt:=(top 33)
noncomputable abbrev d9m:Stmt:=(inClass (top 34) 0)
noncomputable abbrev d9n:Stmt:=(inClass (top 34) 1)
noncomputable abbrev f2u:Stmt:=(inClass (top 35) 0)
noncomputable abbrev d9o:Stmt:=(inClass (top 35) 1)
noncomputable abbrev d3q:Stmt:=(inClass (top 35) 2)
noncomputable abbrev f2v:Stmt:=(inClass (top 35) 4)
noncomputable abbrev d9p:Stmt:=(inClass (top 36) 0)
noncomputable abbrev d0o:Stmt:=(inClass (top 36) 1)
noncomputable abbrev d9q:Stmt:=(inClass (top 36) 3)
noncomputable abbrev f2w:Stmt:=(top 38)
noncomputable abbrev d4i:Stmt:=(inClass (top 40) 0)
noncomputable abbrev d9r:Stmt:=(inClass (top 40) 1)
noncomputable abbrev d3r:Stmt:=(inClass (top 40) 2)
noncomputable abbrev d9s:Stmt:=(inClass (top 40) 3)
noncomputable abbrev f2y:Stmt:=(inClass (top 40) 5)
noncomputable abbrev f2z:Stmt:=(inClass (top 41) 0)
noncomputable abbrev d9t:Stmt:=(inClass (top 41) 1)
noncomputable abbrev d3s:Stmt:=(inClass (top 41) 2)
noncomputable abbrev f3g:Stmt:=(inClass (top 41) 5)
noncomputable abbrev d0p:Stmt:=(top 44)
noncomputable abbrev f3h:Stmt:=(top 45)
noncomputable abbrev f3i:Stmt:=(top 47)
noncomputable abbrev i5o:Stmt:=(top 48)
noncomputable abbrev d5t:Stmt:=(top 49)
noncomputable abbrev b9s:Stmt:=(inClass (top 50) 0)
noncomputable abbrev d5u:Stmt:=(inClass (top 50) 1)
noncomputable abbrev d5v:Stmt:=(inClass (top 50) 2)
noncomputable abbrev d0q:Stmt:=(inClass (top 50) 3)
noncomputable abbrev d0r:Stmt:=(inClass (top 50) 4)
noncomputable abbrev c2m:Stmt:=(inClass (top 50) 5)
noncomputable abbrev d0s:Stmt:=(inClass (top 50) 8)
noncomputable abbrev f3j:Stmt:=(top 57)
noncomputable abbrev d5w:Stmt:=(top 58)
noncomputable abbrev f3k:Stmt:=(top 59)
noncomputable abbrev d5y:Stmt:=(top 60)
noncomputable abbrev g4h:Stmt:=(top 61)
noncomputable abbrev f8m:Stmt:=(top 62)
noncomputable abbrev g4i:Stmt:=(top 63)
noncomputable abbrev g4j:Stmt:=(top 64)
noncomputable abbrev d5z:Stmt:=(top 66)
noncomputable abbrev d7j:Stmt:=(top 67)
noncomputable abbrev g4k:Stmt:=(top 69)
noncomputable abbrev d7k:Stmt:=(top 72)
noncomputable abbrev d0t:Stmt:=(inClass (top 73) 0)
noncomputable abbrev d0u:Stmt:=(inClass (top 73) 1)
noncomputable abbrev d6g:Stmt:=(inClass (top 73) 2)
noncomputable abbrev c7i:Stmt:=(inClass (top 73) 5)
noncomputable abbrev d7l:Stmt:=(top 79)
noncomputable abbrev c7j:Stmt:=(inClass (top 80) 0)
noncomputable abbrev b2y:Stmt:=(inClass (top 80) 1)
noncomputable abbrev b9t:Stmt:=(inClass (top 80) 2)
noncomputable abbrev d6h:Stmt:=(inClass (top 80) 3)
noncomputable abbrev c9n:Stmt:=(inClass (top 80) 4)
noncomputable abbrev f3l:Stmt:=(top 84)
noncomputable abbrev d9u:Stmt:=(inClass (top 85) 0)
noncomputable abbrev c6h:Stmt:=(inClass (top 85) 1)
noncomputable abbrev d6i:Stmt:=(inClass (top 85) 2)
noncomputable abbrev f3m:Stmt:=(inClass (top 85) 3)
noncomputable abbrev d9v:Stmt:=(inClass (top 85) 4)
noncomputable abbrev f3n:Stmt:=(inClass (top 85) 5)
noncomputable abbrev d3t:Stmt:=(inClass (top 85) 7)
noncomputable abbrev c7k:Stmt:=(inClass (top 85) 9)
noncomputable abbrev d9w:Stmt:=(inClass (top 85) 10)
noncomputable abbrev c7l:Stmt:=(inClass (top 85) 11)
noncomputable abbrev d0v:Stmt:=(inClass (top 85) 12)
noncomputable abbrev d6j:Stmt:=(top 87)
noncomputable abbrev d6k:Stmt:=(top 88)
noncomputable abbrev f8n:Stmt:=(top 89)
noncomputable abbrev f8o:Stmt:=(top 90)
noncomputable abbrev f3o:Stmt:=(top 91)
noncomputable abbrev f3p:Stmt:=(top 92)
noncomputable abbrev d3u:Stmt:=(top 93)
noncomputable abbrev h7q:Stmt:=(top 94)
local macro_rules | `(tactic| walk_at "s") => `(tactic| exact ⟨rfl, rfl, rfl, by decide +kernel, rfl, by decide +kernel, by decide +kernel⟩)
theorem g7i:a0r ["value"] ["value"] (a0l f8i):=by walk_at"s"
theorem d6l:a0r ["text","sign"] ["text"] (a0l d9l):=by walk_at"s"
theorem g7j:a0r ["text"] ["text"] (a0l f8j):=by walk_at"s"
theorem c1t:a0r ["one","other","left","right","rest"] ["one","other"] (a0l g4f):=by walk_at"s"
theorem g7k:a0r ["one","other"] ["one","other"] (a0l f8k):=by walk_at"s"
theorem d4j:a0r ["top","bottom","by"] ["top","bottom"] (a0l f8l):=by walk_at"s"
theorem i8s:a0r ["one","other"] ["one","other"] (a0l i5n):=by walk_at"s"
theorem i2o:a0r ["one","other"] ["one","other"] (a0l h7p):=by walk_at"s"
theorem a5w:a0r ["one","top","bottom"] ["one"] (a0l d0l):=by walk_at"s"
theorem a8t:a0r ["text","halves","top","number","one"] ["text"] (a0l d0m):=by walk_at"s"
theorem c7m:a0r ["one","other","shared","both"] ["one","other"] (a0l d0n):=by walk_at"s"
theorem g4l:a0r ["row","by"] ["row","by"] (a0l d4h):=by walk_at"s"
theorem h2p:a0r ["known","start","many"] ["known","start","many"] (a0l f2t):=by walk_at"s"
theorem h2q:a0r ["known","many"] ["known","many"] (a0l g4g):=by walk_at"s"
theorem g0j:a0r ["self"] ["self"] (a0l d9m):=by walk_at"s"
theorem g0k:a0r ["self"] ["self"] (a0l d9n):=by walk_at"s"
theorem g4m:a0r ["self","gain"] ["self","gain"] (a0l f2u):=by walk_at"s"
theorem g0l:a0r ["self"] ["self"] (a0l d9o):=by walk_at"s"
theorem f3q:a0r ["self","state","tops","bottom"] ["self","state","tops","bottom"] (a0l d3q):=by walk_at"s"
theorem d9y:a0r ["self","gain"] ["self"] (a0l f2v):=by walk_at"s"
theorem g0m:a0r ["self","many"] ["self","many"] (a0l d9p):=by walk_at"s"
theorem c9o:a0r ["self","state","tops","bottom","known"] ["self","state","tops","bottom"] (a0l d0o):=by walk_at"s"
theorem d6m:a0r ["self","many"] ["self"] (a0l d9q):=by walk_at"s"
theorem d0w:a0r ["number","most","powers","turn"] ["number","most"] (a0l f2w):=by walk_at"s"
theorem d0y:a0r ["self","gain","many","turns","tops","bottoms"] ["self","gain","many","turns"] (a0l d4i):=by walk_at"s"
theorem g0n:a0r ["self"] ["self"] (a0l d9r):=by walk_at"s"
theorem a7h:a0r ["self","state","tops","bottom","known","out","turn","heard"] ["self","state","tops","bottom"] (a0l d3r):=by walk_at"s"
theorem g0o:a0r ["self"] ["self"] (a0l d9s):=by walk_at"s"
theorem c4g:a0r ["self","gain","many","turns"] ["self"] (a0l f2y):=by walk_at"s"
theorem g4n:a0r ["self","gain","many"] ["self","gain","many"] (a0l f2z):=by walk_at"s"
theorem g0p:a0r ["self"] ["self"] (a0l d9t):=by walk_at"s"
theorem b5s:a0r ["self","state","tops","bottom","known","heard","out"] ["self","state","tops","bottom"] (a0l d3s):=by walk_at"s"
theorem d0z:a0r ["self","gain","many"] ["self"] (a0l f3g):=by walk_at"s"
theorem b2z:a0r ["bottoms","shared","bottom"] ["bottoms"] (a0l d0p):=by walk_at"s"
theorem g4o:a0r ["one","bottom"] ["one","bottom"] (a0l f3h):=by walk_at"s"
theorem b9u:a0r ["corners","slopes","left","right","rise"] ["corners"] (a0l f3i):=by walk_at"s"
theorem i8t:a0r ["one","bottom"] ["one","bottom"] (a0l i5o):=by walk_at"s"
theorem c5i:a0r ["corner","at","gain"] ["corner"] (a0l d5t):=by walk_at"s"
theorem d6n:a0r ["self","corners","slopes"] ["self","corners"] (a0l b9s):=by walk_at"s"
theorem f6s:a0r ["self"] ["self"] (a0l d5u):=by walk_at"s"
theorem f6t:a0r ["self"] ["self"] (a0l d5v):=by walk_at"s"
theorem c0k:a0r ["self","at","found"] ["self","at"] (a0l d0q):=by walk_at"s"
theorem c9p:a0r ["self","at","line"] ["self","at"] (a0l d0r):=by walk_at"s"
theorem c9q:a0r ["self","state","tops","bottom","out"] ["self","state","tops","bottom"] (a0l c2m):=by walk_at"s"
theorem d6o:a0r ["self","corners"] ["self"] (a0l d0s):=by walk_at"s"
theorem d9z:a0r ["text","gain"] ["text"] (a0l f3j):=by walk_at"s"
theorem d3v:a0r ["text","least","most","number"] ["text","least","most"] (a0l d5w):=by walk_at"s"
theorem g4p:a0r ["text"] ["text"] (a0l f3k):=by walk_at"s"
theorem f6u:a0r ["values","count"] ["values","count"] (a0l d5y):=by walk_at"s"
theorem h2r:a0r ["values"] ["values"] (a0l g4h):=by walk_at"s"
theorem g7l:a0r ["values"] ["values"] (a0l f8m):=by walk_at"s"
theorem h2t:a0r ["values"] ["values"] (a0l g4i):=by walk_at"s"
theorem h2u:a0r ["values"] ["values"] (a0l g4j):=by walk_at"s"
theorem d3w:a0r ["text","halves"] ["text"] (a0l d5z):=by walk_at"s"
theorem c7n:a0r ["values","corners","left","right"] ["values"] (a0l d7j):=by walk_at"s"
theorem f8p:a0r ["word","values"] ["word"] (a0l g4k):=by walk_at"s"
theorem g7m:a0r ["words"] ["words"] (a0l d7k):=by walk_at"s"
theorem g0q:a0r ["self","words"] ["self","words"] (a0l d0t):=by walk_at"s"
theorem a4j:a0r ["self","tops","bottom","row","states","part","state","told"] ["self","tops","bottom"] (a0l d0u):=by walk_at"s"
theorem b8w:a0r ["self","product","part"] ["self"] (a0l d6g):=by walk_at"s"
theorem f6v:a0r ["self"] ["self"] (a0l c7i):=by walk_at"s"
theorem g7n:a0r ["value"] ["value"] (a0l d7l):=by walk_at"s"
theorem b2s:a0r ["self","patch","track","sends","bus","out"] ["self","patch"] (a0l c7j):=by walk_at"s"
theorem c6i:a0r ["self","bus","sends","leads"] ["self","bus","sends"] (a0l b2y):=by walk_at"s"
theorem b6r:a0r ["self","blocks","track"] ["self","blocks"] (a0l b9t):=by walk_at"s"
theorem a8y:a0r ["self","blocks","length","flows","track","bus","settled","name","settler"] ["self","blocks"] (a0l d6h):=by walk_at"s"
theorem a3t:a0r ["self","bus","flows","length","bottom","tops","source","chain","row"] ["self","bus","flows","length"] (a0l c9n):=by walk_at"s"
theorem h2v:a0r ["value"] ["value"] (a0l f3l):=by walk_at"s"
theorem g0r:a0r ["self"] ["self"] (a0l d9u):=by walk_at"s"
theorem d6p:a0r ["self","name"] ["self","name"] (a0l c6h):=by walk_at"s"
theorem f6w:a0r ["self","name"] ["self","name"] (a0l d6i):=by walk_at"s"
theorem g4q:a0r ["self","name"] ["self","name"] (a0l f3m):=by walk_at"s"
theorem c7o:a0r ["self","source","bus","words","chain","ring"] ["self","source","bus","words"] (a0l d9v):=by walk_at"s"
theorem b9v:a0r ["self","start","end","ways","waiting","source","send"] ["self","start","end"] (a0l f3n):=by walk_at"s"
theorem f3r:a0r ["self"] ["self"] (a0l d3t):=by walk_at"s"
theorem f6y:a0r ["self"] ["self"] (a0l c7k):=by walk_at"s"
theorem g0s:a0r ["self"] ["self"] (a0l d9w):=by walk_at"s"
theorem d3y:a0r ["self","placed"] ["self"] (a0l c7l):=by walk_at"s"
theorem c9r:a0r ["self","bus","placed","send"] ["self","bus","placed"] (a0l d0v):=by walk_at"s"
theorem f6z:a0r ["_law_script","_law_k"] ["_law_script","_law_k"] (a0l d6j):=by walk_at"s"
theorem b8y:a0r ["_law_one","_law_other","_law_rest"] ["_law_one","_law_other"] (a0l d6k):=by walk_at"s"
theorem b6u:a0r ["_law_mixed","_law_low","_law_top","_law_by"] ["_law_mixed"] (a0l f8n):=by walk_at"s"
theorem c2n:a0r ["_law_mixed","_law_kind","_law_gain_here","_law_many","_law_second"] ["_law_mixed"] (a0l f8o):=by walk_at"s"
theorem a3o:a0r ["_law_script","_law_names","_law_tracks","_law_patch_here","_law_name","_law_buses","_law_turn","_law_k","_law_cell","_law_mixed","_law_to","_law_words","_law_j"] ["_law_script","_law_names","_law_tracks"] (a0l f3o):=by walk_at"s"
theorem d1g:a0r ["_law_patch_here","_law_names","_law_rows","_law_fed","_law_k"] ["_law_patch_here","_law_names","_law_rows"] (a0l f3p):=by walk_at"s"
theorem b5t:a0r ["_law_flow","_law_one","_law_other","_law_many","_law_more","_law_j","_law_due"] ["_law_flow","_law_one","_law_other","_law_many","_law_more"] (a0l d3u):=by walk_at"s"
theorem b2q:a0r ["_law_script","_law_first","_law_tracks","_law_names","_law_patch_here","_law_far","_law_tones","_law_size","_law_ones","_law_others","_law_many","_law_more","_law_rows","_law_one","_law_other","_law_row","_law_here","_law_there","_law_found","_law_name"] ["_law_script"] (a0l h7q):=by walk_at"s"
set_option genInjectivity false in
structure Ad where
 b6v:Addr
 b6w:C8
 b0l:Addr
 b1k:C8
 b6y:Addr
 b6z:C8
 b9w:Addr
 b7g:C8
 b7h:Addr
 b7i:C8
 b7j:Addr
 b7k:C8
 f3s:Addr
 d7m:C8
 d4k:Addr
 d3g:C8
 a3y:Addr
 a4k:C8
 a5l:Addr
 a5y:C8
 b0m:Addr
 b1l:C8
 b3n:Addr
 b3z:C8
 c2o:Addr
 c1u:C8
 c2p:Addr
 c1v:C8
 b0n:Addr
 b1m:C8
 a4z:Addr
 b1n:C8
 b7l:Addr
 b4g:C8
 b0o:Addr
 a7v:C8
 a6q:Addr
 a5m:C8
 b7m:Addr
 b4h:C8
 b4i:Addr
 b1o:C8
 a5n:Addr
 a4l:C8
 b4j:Addr
 b1p:C8
 b3o:Addr
 b4k:C8
 b7n:Addr
 b4l:C8
 b0p:Addr
 a7w:C8
 a6r:Addr
 a5o:C8
 b4m:Addr
 b1q:C8
 b7o:Addr
 b4n:C8
 b7p:Addr
 b4o:C8
 b0q:Addr
 a7y:C8
 a6s:Addr
 a5p:C8
 b7q:Addr
 b4p:C8
 a5q:Addr
 a5z:C8
 b3p:Addr
 b4q:C8
 b3q:Addr
 b4r:C8
 f3t:Addr
 d7n:C8
 a7z:Addr
 a8z:C8
 b4s:Addr
 b1r:C8
 a8g:Addr
 a6t:C8
 b1s:Addr
 a9g:C8
 a7i:Addr
 a6g:C8
 a7j:Addr
 a6h:C8
 a5r:Addr
 a4m:C8
 b4t:Addr
 b1t:C8
 b3r:Addr
 b4u:C8
 a8h:Addr
 a9h:C8
 b3s:Addr
 b4v:C8
 a8i:Addr
 a9i:C8
 b9y:Addr
 c1w:C8
 b4w:Addr
 b7r:C8
 b9z:Addr
 c1y:C8
 c0g:Addr
 c1z:C8
 a8j:Addr
 a9j:C8
 b4y:Addr
 b7s:C8
 c2q:Addr
 c2g:C8
 b7t:Addr
 b7u:C8
 b4z:Addr
 b1u:C8
 a7k:Addr
 a6i:C8
 b1v:Addr
 a9k:C8
 b1w:Addr
 a9l:C8
 b7v:Addr
 b7w:C8
 b1y:Addr
 a9m:C8
 a6j:Addr
 a5g:C8
 a2y:Addr
 a2t:C8
 b1z:Addr
 a9n:C8
 a6k:Addr
 a5h:C8
 c2r:Addr
 c2h:C8
 b5g:Addr
 b2g:C8
 a5i:Addr
 a4g:C8
 b2h:Addr
 a9o:C8
 b7y:Addr
 b5h:C8
 b5i:Addr
 b2j:C8
 b7z:Addr
 b5j:C8
 a9p:Addr
 a7l:C8
 b2k:Addr
 a9q:C8
 b5k:Addr
 b2l:C8
 b2m:Addr
 a9r:C8
 a7m:Addr
 a6l:C8
 a8k:Addr
 a9s:C8
 a8l:Addr
 a9t:C8
 b8g:Addr
 b8h:C8
 b8i:Addr
 b8j:C8
 b3t:Addr
 b5l:C8
 b3u:Addr
 b5m:C8
 a6u:Addr
 a7n:C8
 g4r:Addr
 f0g:C8
 f0h:Addr
 a8u:Addr
 a4s:Addr
 a5s:Addr
 a7q:Addr
 a2w:Addr
 a7o:Addr
 a4h:Addr
 a4t:Addr
 c6j:Br
 a2z:Br
 a3g:Br
 b8k:Br
 b8l:Br
 b5n:Br
 c6k:Br
 a9u:Br
 b5o:Br
 c6l:Br
 a9v:Br
 b8m:Br
 a3h:Addr
 wd:E2
structure Ty(K:Bw)(A:Ad):Prop where
 g7o:Cp K C2 "Part"=some (some (.ref A.f0h))
 g7p:Cp K C2 "Gain"=some (some (.ref A.a8u))
 g0t:Cp K C2 "Delay"=some (some (.ref A.a4s))
 g7q:Cp K C2 "Echo"=some (some (.ref A.a5s))
 g7r:Cp K C2 "Back"=some (some (.ref A.a7q))
 g0u:Cp K C2 "Swell"=some (some (.ref A.a2w))
 g0v:Cp K C2 "Chain"=some (some (.ref A.a7o))
 f3u:Cp K C2 "Engine"=some (some (.ref A.a4h))
 g0w:Cp K C2 "Patch"=some (some (.ref A.a4t))
 d7o:Cp K C2 "is_whole"=some (some (.ref A.b6v))
 d1h:Cp K C2 "is_figures"=some (some (.ref A.b0l))
 d7p:Cp K C2 "whole_of"=some (some (.ref A.b6y))
 f3v:Cp K C2 "divisor"=some (some (.ref A.b9w))
 d7q:Cp K C2 "multiple"=some (some (.ref A.b7h))
 d7r:Cp K C2 "fraction"=some (some (.ref A.b7j))
 h7r:Cp K C2 "plus"=some (some (.ref A.f3s))
 g7s:Cp K C2 "times"=some (some (.ref A.d4k))
 c2s:Cp K C2 "fraction_text"=some (some (.ref A.a3y))
 c2t:Cp K C2 "read_fraction"=some (some (.ref A.a5l))
 d1i:Cp K C2 "added_rows"=some (some (.ref A.b0m))
 d4l:Cp K C2 "times_row"=some (some (.ref A.b3n))
 f3w:Cp K C2 "delayed"=some (some (.ref A.c2o))
 f3y:Cp K C2 "last_of"=some (some (.ref A.c2p))
 d4m:Cp K C2 "powers_of"=some (some (.ref A.b3o))
 c2u:Cp K C2 "shared_bottom"=some (some (.ref A.a5q))
 d4n:Cp K C2 "tops_over"=some (some (.ref A.b3p))
 d4o:Cp K C2 "slopes_of"=some (some (.ref A.b3q))
 h7s:Cp K C2 "over"=some (some (.ref A.f3t))
 c7p:Cp K C2 "corner_word"=some (some (.ref A.a7z))
 d4p:Cp K C2 "read_gain"=some (some (.ref A.b3r))
 c7q:Cp K C2 "read_number"=some (some (.ref A.a8h))
 d4q:Cp K C2 "read_many"=some (some (.ref A.b3s))
 c7r:Cp K C2 "check_count"=some (some (.ref A.a8i))
 f3z:Cp K C2 "gain_of"=some (some (.ref A.b9y))
 d7s:Cp K C2 "delay_of"=some (some (.ref A.b4w))
 f4g:Cp K C2 "echo_of"=some (some (.ref A.b9z))
 f4h:Cp K C2 "back_of"=some (some (.ref A.c0g))
 c7s:Cp K C2 "read_corner"=some (some (.ref A.a8j))
 d7t:Cp K C2 "swell_of"=some (some (.ref A.b4y))
 f4i:Cp K C2 "part_of"=some (some (.ref A.c2q))
 d7u:Cp K C2 "parts_of"=some (some (.ref A.b7t))
 d7v:Cp K C2 "is_block"=some (some (.ref A.b7v))
 f4j:Cp K C2 "is_name"=some (some (.ref A.c2r))
 c7t:Cp K C2 "_law_cell_at"=some (some (.ref A.a8k))
 c7u:Cp K C2 "_law_divisor"=some (some (.ref A.a8l))
 d7w:Cp K C2 "_law_gain"=some (some (.ref A.b8g))
 d7y:Cp K C2 "_law_word"=some (some (.ref A.b8i))
 d4r:Cp K C2 "_law_patch"=some (some (.ref A.b3t))
 d4s:Cp K C2 "_law_flows"=some (some (.ref A.b3u))
 c5j:Cp K C2 "_law_combined"=some (some (.ref A.a6u))
 i2p:Cp K C2 "law"=some (some (.ref A.g4r))
 h7t:Cls K A.f0h
 d6q:Meth K A.f0h "grain" A.b0n
 d6r:Meth K A.f0h "fresh" A.a4z
 a4n:Cls K A.a8u
 a1w:a2i K A.a8u "gain"
 h7u:Mk K A.a8u A.b7l
 c0u:Meth K A.a8u "grain" A.b0o
 c2v:Meth K A.a8u "through" A.a6q
 d1j:Meth K A.a8u "word" A.b7m
 c7v:Meth K A.a8u "fresh" A.a4z
 a3l:Cls K A.a4s
 a1v:a2i K A.a4s "many"
 g7t:Mk K A.a4s A.b4i
 c0l:Meth K A.a4s "through" A.a5n
 c7w:Meth K A.a4s "word" A.b4j
 b8z:Meth K A.a4s "grain" A.b0n
 c5k:Meth K A.a4s "fresh" A.a4z
 a3q:Cls K A.a5s
 a1o:a2i K A.a5s "gain"
 a1p:a2i K A.a5s "many"
 a1l:a2i K A.a5s "turns"
 a0y:a2i K A.a5s "factors"
 a0q:a2i K A.a5s "factor_bottom"
 h7v:Mk K A.a5s A.b7n
 c0v:Meth K A.a5s "grain" A.b0p
 c2w:Meth K A.a5s "through" A.a6r
 c7y:Meth K A.a5s "reach" A.b4m
 d1k:Meth K A.a5s "word" A.b7o
 c7z:Meth K A.a5s "fresh" A.a4z
 a4o:Cls K A.a7q
 a1y:a2i K A.a7q "gain"
 a1z:a2i K A.a7q "many"
 h7w:Mk K A.a7q A.b7p
 c0w:Meth K A.a7q "grain" A.b0q
 c2y:Meth K A.a7q "through" A.a6s
 d1l:Meth K A.a7q "word" A.b7q
 c8g:Meth K A.a7q "fresh" A.a4z
 a2n:Cls K A.a2w
 a0s:a2i K A.a2w "corners"
 a0u:a2i K A.a2w "shared"
 a0z:a2i K A.a2w "lines"
 g7u:Mk K A.a2w A.b4s
 b9g:Meth K A.a2w "grain" A.a8g
 c5l:Meth K A.a2w "fresh" A.b1s
 c0m:Meth K A.a2w "line_at" A.a7i
 c0n:Meth K A.a2w "gain_at" A.a7j
 c0o:Meth K A.a2w "through" A.a5r
 c8h:Meth K A.a2w "word" A.b4t
 a4u:Cls K A.a7o
 a2g:a2i K A.a7o "parts"
 a1r:a2i K A.a7o "states"
 g0x:Mk K A.a7o A.b4z
 c0p:Meth K A.a7o "through" A.a7k
 c5m:Meth K A.a7o "grain" A.b1v
 c5n:Meth K A.a7o "words" A.b1w
 a3r:Cls K A.a4h
 a1g:a2i K A.a4h "track_names"
 a1i:a2i K A.a4h "bus_order"
 a2h:a2i K A.a4h "leads"
 a1n:a2i K A.a4h "bottoms"
 a1m:a2i K A.a4h "settlers"
 g0y:Mk K A.a4h A.b1y
 b8n:Meth K A.a4h "lead_to" A.a6j
 a9w:Meth K A.a4h "check_blocks" A.a2y
 c5o:Meth K A.a4h "feed" A.b1z
 b8o:Meth K A.a4h "flow_to" A.a6k
 a1s:Cls K A.a4t
 a0m:a2i K A.a4t "track_names"
 a0o:a2i K A.a4t "bus_names"
 a0n:a2i K A.a4t "told_sends"
 a0p:a2i K A.a4t "told_outs"
 g7v:Mk K A.a4t A.b5g
 b0i:Meth K A.a4t "check_new" A.a5i
 c5p:Meth K A.a4t "track" A.b2h
 d1m:Meth K A.a4t "bus" A.b7y
 c8i:Meth K A.a4t "send" A.b5i
 d1n:Meth K A.a4t "way" A.b7z
 c2z:Meth K A.a4t "tracks" A.a9p
 c5q:Meth K A.a4t "sends" A.b2k
 c8j:Meth K A.a4t "outs" A.b5k
 c5r:Meth K A.a4t "order" A.b2m
 c0q:Meth K A.a4t "is_next" A.a7m
 b8p:Fun K "is_whole" "is_whole" f8i A.b6v A.b6w
 b5p:Fun K "is_figures" "is_figures" d9l A.b0l A.b1k
 c6m:Fun K "whole_of" "whole_of" f8j A.b6y A.b6z
 c6n:Fun K "divisor" "divisor" g4f A.b9w A.b7g
 c6o:Fun K "multiple" "multiple" f8k A.b7h A.b7i
 b8q:Fun K "fraction" "fraction" f8l A.b7j A.b7k
 g4s:Fun K "plus" "plus" i5n A.f3s A.d7m
 d7z:Fun K "times" "times" h7p A.d4k A.d3g
 a2u:Fun K "fraction_text" "fraction_text" d0l A.a3y A.a4k
 b0r:Fun K "read_fraction" "read_fraction" d0m A.a5l A.a5y
 b0s:Fun K "added_rows" "added_rows" d0n A.b0m A.b1l
 a8m:Fun K "times_row" "times_row" d4h A.b3n A.b3z
 c3g:Fun K "delayed" "delayed" f2t A.c2o A.c1u
 c3h:Fun K "last_of" "last_of" g4g A.c2p A.c1v
 c4h:Fun K "grain" "Part.grain" d9m A.b0n A.b1m
 c4i:Fun K "fresh" "Part.fresh" d9n A.a4z A.b1n
 c8k:Fun K "__init__" "Gain.__init__" f2u A.b7l A.b4g
 c4j:Fun K "grain" "Gain.grain" d9o A.b0o A.a7v
 b9h:Fun K "through" "Gain.through" d3q A.a6q A.a5m
 c8l:Fun K "word" "Gain.word" f2v A.b7m A.b4h
 c4k:Fun K "__init__" "Delay.__init__" d9p A.b4i A.b1o
 b5u:Fun K "through" "Delay.through" d0o A.a5n A.a4l
 c4l:Fun K "word" "Delay.word" d9q A.b4j A.b1p
 b8r:Fun K "powers_of" "powers_of" f2w A.b3o A.b4k
 c8m:Fun K "__init__" "Echo.__init__" d4i A.b7n A.b4l
 c4m:Fun K "grain" "Echo.grain" d9r A.b0p A.a7w
 b9i:Fun K "through" "Echo.through" d3r A.a6r A.a5o
 c4n:Fun K "reach" "Echo.reach" d9s A.b4m A.b1q
 c8n:Fun K "word" "Echo.word" f2y A.b7o A.b4n
 c8o:Fun K "__init__" "Back.__init__" f2z A.b7p A.b4o
 c4o:Fun K "grain" "Back.grain" d9t A.b0q A.a7y
 b9j:Fun K "through" "Back.through" d3s A.a6s A.a5p
 c8p:Fun K "word" "Back.word" f3g A.b7q A.b4p
 a7p:Fun K "shared_bottom" "shared_bottom" d0p A.a5q A.a5z
 c3i:Fun K "tops_over" "tops_over" f3h A.b3p A.b4q
 c3j:Fun K "slopes_of" "slopes_of" f3i A.b3q A.b4r
 f8q:Fun K "over" "over" i5o A.f3t A.d7n
 b5v:Fun K "corner_word" "corner_word" d5t A.a7z A.a8z
 c4p:Fun K "__init__" "Swell.__init__" b9s A.b4s A.b1r
 c0y:Fun K "grain" "Swell.grain" d5u A.a8g A.a6t
 c0z:Fun K "fresh" "Swell.fresh" d5v A.b1s A.a9g
 b5w:Fun K "line_at" "Swell.line_at" d0q A.a7i A.a6g
 b5y:Fun K "gain_at" "Swell.gain_at" d0r A.a7j A.a6h
 b5z:Fun K "through" "Swell.through" c2m A.a5r A.a4m
 c4q:Fun K "word" "Swell.word" d0s A.b4t A.b1t
 b0t:Fun K "read_gain" "read_gain" f3j A.b3r A.b4u
 a6m:Fun K "read_number" "read_number" d5w A.a8h A.a9h
 b8s:Fun K "read_many" "read_many" f3k A.b3s A.b4v
 a4v:Fun K "check_count" "check_count" d5y A.a8i A.a9i
 d1o:Fun K "gain_of" "gain_of" g4h A.b9y A.c1w
 c6p:Fun K "delay_of" "delay_of" f8m A.b4w A.b7r
 d1p:Fun K "echo_of" "echo_of" g4i A.b9z A.c1y
 d1q:Fun K "back_of" "back_of" g4j A.c0g A.c1z
 b6g:Fun K "read_corner" "read_corner" d5z A.a8j A.a9j
 c6q:Fun K "swell_of" "swell_of" d7j A.b4y A.b7s
 d1r:Fun K "part_of" "part_of" g4k A.c2q A.c2g
 c6r:Fun K "parts_of" "parts_of" d7k A.b7t A.b7u
 c4r:Fun K "__init__" "Chain.__init__" d0t A.b4z A.b1u
 b6h:Fun K "through" "Chain.through" d0u A.a7k A.a6i
 c1g:Fun K "grain" "Chain.grain" d6g A.b1v A.a9k
 c1h:Fun K "words" "Chain.words" c7i A.b1w A.a9l
 c6s:Fun K "is_block" "is_block" d7l A.b7v A.b7w
 c1i:Fun K "__init__" "Engine.__init__" c7j A.b1y A.a9m
 b3g:Fun K "lead_to" "Engine.lead_to" b2y A.a6j A.a5g
 a6n:Fun K "check_blocks" "Engine.check_blocks" b9t A.a2y A.a2t
 c1j:Fun K "feed" "Engine.feed" d6h A.b1z A.a9n
 b3h:Fun K "flow_to" "Engine.flow_to" c9n A.a6k A.a5h
 d1s:Fun K "is_name" "is_name" f3l A.c2r A.c2h
 c4s:Fun K "__init__" "Patch.__init__" d9u A.b5g A.b2g
 b2n:Fun K "check_new" "Patch.check_new" c6h A.a5i A.a4g
 c1k:Fun K "track" "Patch.track" d6i A.b2h A.a9o
 c8q:Fun K "bus" "Patch.bus" f3m A.b7y A.b5h
 c4t:Fun K "send" "Patch.send" d9v A.b5i A.b2j
 c8r:Fun K "way" "Patch.way" f3n A.b7z A.b5j
 b9k:Fun K "tracks" "Patch.tracks" d3t A.a9p A.a7l
 c1l:Fun K "sends" "Patch.sends" c7k A.b2k A.a9q
 c4u:Fun K "outs" "Patch.outs" d9w A.b5k A.b2l
 c1m:Fun K "order" "Patch.order" c7l A.b2m A.a9r
 b6i:Fun K "is_next" "Patch.is_next" d0v A.a7m A.a6l
 a3u:Fun K "_law_cell_at" "_law_cell_at" d6j A.a8k A.a9s
 b6j:Fun K "_law_divisor" "_law_divisor" d6k A.a8l A.a9t
 c2i:Fun K "_law_gain" "_law_gain" f8n A.b8g A.b8h
 c6t:Fun K "_law_word" "_law_word" f8o A.b8i A.b8j
 c3k:Fun K "_law_patch" "_law_patch" f3o A.b3t A.b5l
 b3v:Fun K "_law_flows" "_law_flows" f3p A.b3u A.b5m
 b2t:Fun K "_law_combined" "_law_combined" d3u A.a6u A.a7n
 h7x:Fun K "law" "law" h7q A.g4r A.f0g
 i8u:Cp K C2 "abs"=some none
 i8v:Cp K C2 "all"=some none
 y_bool:Cp K C2 "bool"=some none
 h7y:Cp K C2 "dict"=some none
 d4t:Cp K C2 "enumerate"=some none
 i8w:Cp K C2 "int"=some none
 d1t:Cp K C2 "isinstance"=some none
 i8x:Cp K C2 "len"=some none
 h7z:Cp K C2 "list"=some none
 i8y:Cp K C2 "max"=some none
 i8z:Cp K C2 "min"=some none
 g7w:Cp K C2 "range"=some none
 g0z:Cp K C2 "sorted"=some none
 i9a:Cp K C2 "str"=some none
 g7x:Cp K C2 "tuple"=some none
 i9b:Cp K C2 "zip"=some none
 d8g:Cp K C2 "FIGURES"=some (some A.c6j)
 d8h:RelV (.str "0123456789") A.c6j
 a9y:Cp K C2 "MOST_FIGURES_wholes"=some (some A.a2z)
 a9z:RelV (.int 13) A.a2z
 b0g:Cp K C2 "MOST_FIGURES_ratios"=some (some A.a3g)
 b0h:RelV (.int 9) A.a3g
 d1u:Cp K C2 "MOST_GAIN"=some (some A.b8k)
 c4v:RelV (.int 1000) A.b8k
 d1v:Cp K C2 "MOST_MANY"=some (some A.b8l)
 c4w:RelV (.int 1000) A.b8l
 c8s:Cp K C2 "MOST_TURNS"=some (some A.b5n)
 c8t:RelV (.int 16) A.b5n
 d8i:Cp K C2 "MOST_AT"=some (some A.c6k)
 d8j:RelV (.int 100000) A.c6k
 c3l:Cp K C2 "MOST_CORNERS"=some (some A.a9u)
 c3m:RelV (.int 12) A.a9u
 c8u:Cp K C2 "MOST_PARTS"=some (some A.b5o)
 c8v:RelV (.int 8) A.b5o
 d8k:Cp K C2 "LETTERS"=some (some A.c6l)
 d8l:RelV (.str "abcdefghijklmnopqrstuvwxyz") A.c6l
 c3n:Cp K C2 "MOST_LETTERS"=some (some A.a9v)
 c3o:RelV (.int 8) A.a9v
 d1w:Cp K C2 "MOST_TONE"=some (some A.b8m)
 d1y:RelV (.int 1000000000000) A.b8m
 d8m:Cp K C2 "READERS"=some (some (.ref A.a3h))
 b6k:Cp K A.a3h "gain"=some (some (.ref A.b9y))
 b3i:Cp K A.a3h "delay"=some (some (.ref A.b4w))
 b6l:Cp K A.a3h "echo"=some (some (.ref A.b9z))
 b6m:Cp K A.a3h "back"=some (some (.ref A.c0g))
 b3j:Cp K A.a3h "swell"=some (some (.ref A.b4y))
structure Tx(K:Bw)(mg:Str->Option Br)(A:Ad):Prop extends Ty K A where
 d8n:Binds K A.b6w ["value"] []
 d8o:mg "is_whole"=some (.ref A.b6v)
 f0i:Binds K A.b1k ["text"] []
 f0j:mg "is_figures"=some (.ref A.b0l)
 h2w:Binds K A.b6z ["text"] []
 h2x:mg "whole_of"=some (.ref A.b6y)
 g4t:Binds K A.b7g ["one","other"] []
 g4u:mg "divisor"=some (.ref A.b9w)
 h2y:Binds K A.b7i ["one","other"] []
 h2z:mg "multiple"=some (.ref A.b7h)
 d8p:Binds K A.b7k ["top","bottom"] []
 d8q:mg "fraction"=some (.ref A.b7j)
 j5o:Binds K A.d7m ["one","other"] []
 j5p:mg "plus"=some (.ref A.f3s)
 h8a:Binds K A.d3g ["one","other"] []
 h8b:mg "times"=some (.ref A.d4k)
 b0u:Binds K A.a4k ["one"] []
 b0v:mg "fraction_text"=some (.ref A.a3y)
 f4k:Binds K A.a5y ["text"] []
 f4l:mg "read_fraction"=some (.ref A.a5l)
 d1z:Binds K A.b1l ["one","other"] []
 d2g:mg "added_rows"=some (.ref A.b0m)
 c3p:Binds K A.b3z ["row","by"] []
 c3q:mg "times_row"=some (.ref A.b3n)
 f4m:Binds K A.c1u ["known","start","many"] []
 f4n:mg "delayed"=some (.ref A.c2o)
 f4o:Binds K A.c1v ["known","many"] []
 f4p:mg "last_of"=some (.ref A.c2p)
 f0k:Binds K A.b1m ["self"] []
 c4y:Binds K A.b1n ["self"] []
 g7y:Binds K A.b4g ["self","gain"] []
 f0l:Binds K A.a7v ["self"] []
 f7g:Binds K A.a5m ["self","state","tops","bottom"] []
 g7z:Binds K A.b4h ["self"] []
 g4v:Binds K A.b1o ["self","many"] []
 f4q:Binds K A.a4l ["self","state","tops","bottom"] []
 g4w:Binds K A.b1p ["self"] []
 f4r:Binds K A.b4k ["number","most"] []
 f4s:mg "powers_of"=some (.ref A.b3o)
 g8a:Binds K A.b4l ["self","gain","many","turns"] []
 f0m:Binds K A.a7w ["self"] []
 f7h:Binds K A.a5o ["self","state","tops","bottom"] []
 g4x:Binds K A.b1q ["self"] []
 g8b:Binds K A.b4n ["self"] []
 g8c:Binds K A.b4o ["self","gain","many"] []
 f0n:Binds K A.a7y ["self"] []
 f7i:Binds K A.a5p ["self","state","tops","bottom"] []
 g8d:Binds K A.b4p ["self"] []
 d2h:Binds K A.a5z ["bottoms"] []
 d2i:mg "shared_bottom"=some (.ref A.a5q)
 g8e:Binds K A.b4q ["one","bottom"] []
 g8f:mg "tops_over"=some (.ref A.b3p)
 g8g:Binds K A.b4r ["corners"] []
 g8h:mg "slopes_of"=some (.ref A.b3q)
 i5p:Binds K A.d7n ["one","bottom"] []
 i5q:mg "over"=some (.ref A.f3t)
 g1a:Binds K A.a8z ["corner"] []
 g1b:mg "corner_word"=some (.ref A.a7z)
 g4y:Binds K A.b1r ["self","corners"] []
 d6s:Binds K A.a6t ["self"] []
 g1c:Binds K A.a9g ["self"] []
 f4t:Binds K A.a6g ["self","at"] []
 f4u:Binds K A.a6h ["self","at"] []
 f4v:Binds K A.a4m ["self","state","tops","bottom"] []
 g4z:Binds K A.b1t ["self"] []
 c8w:Binds K A.b4u ["text"] []
 c8y:mg "read_gain"=some (.ref A.b3r)
 c1n:Binds K A.a9h ["text","least","most"] []
 c1o:mg "read_number"=some (.ref A.a8h)
 f4w:Binds K A.b4v ["text"] []
 f4y:mg "read_many"=some (.ref A.b3s)
 b6n:Binds K A.a9i ["values","count"] []
 b6o:mg "check_count"=some (.ref A.a8i)
 h8c:Binds K A.c1w ["values"] []
 j5q:mg "gain_of"=some (.ref A.b9y)
 h3a:Binds K A.b7r ["values"] []
 j1d:mg "delay_of"=some (.ref A.b4w)
 h8d:Binds K A.c1y ["values"] []
 j5r:mg "echo_of"=some (.ref A.b9z)
 h8e:Binds K A.c1z ["values"] []
 j5s:mg "back_of"=some (.ref A.c0g)
 g1d:Binds K A.a9j ["text"] []
 g1e:mg "read_corner"=some (.ref A.a8j)
 h3b:Binds K A.b7s ["values"] []
 j1e:mg "swell_of"=some (.ref A.b4y)
 h8f:Binds K A.c2g ["word"] []
 h8g:mg "part_of"=some (.ref A.c2q)
 h3c:Binds K A.b7u ["words"] []
 h3d:mg "parts_of"=some (.ref A.b7t)
 f0o:Binds K A.b1u ["self","words"] []
 f4z:Binds K A.a6i ["self","tops","bottom"] []
 g1f:Binds K A.a9k ["self"] []
 g1g:Binds K A.a9l ["self"] []
 h3e:Binds K A.b7w ["value"] []
 h3f:mg "is_block"=some (.ref A.b7v)
 g1h:Binds K A.a9m ["self","patch"] []
 f1g:Binds K A.a5g ["self","bus","sends"] []
 d2j:Binds K A.a2t ["self","blocks"] []
 g1i:Binds K A.a9n ["self","blocks"] []
 f1h:Binds K A.a5h ["self","bus","flows","length"] []
 h8h:Binds K A.c2h ["value"] []
 h8i:mg "is_name"=some (.ref A.c2r)
 g5a:Binds K A.b2g ["self"] []
 c6u:Binds K A.a4g ["self","name"] []
 g1j:Binds K A.a9o ["self","name"] []
 g8i:Binds K A.b5h ["self","name"] []
 g5b:Binds K A.b2j ["self","source","bus","words"] []
 g8j:Binds K A.b5j ["self","start","end"] []
 f7j:Binds K A.a7l ["self"] []
 g1k:Binds K A.a9q ["self"] []
 g5c:Binds K A.b2l ["self"] []
 g1l:Binds K A.a9r ["self"] []
 f5g:Binds K A.a6l ["self","bus","placed"] []
 b2o:Binds K A.a9s ["_law_script","_law_k"] []
 b2p:mg "_law_cell_at"=some (.ref A.a8k)
 g1m:Binds K A.a9t ["_law_one","_law_other"] []
 g1n:mg "_law_divisor"=some (.ref A.a8l)
 f8r:Binds K A.b8h ["_law_mixed"] []
 f8s:mg "_law_gain"=some (.ref A.b8g)
 h3g:Binds K A.b8j ["_law_mixed"] []
 h3h:mg "_law_word"=some (.ref A.b8i)
 g8k:Binds K A.b5l ["_law_script","_law_names","_law_tracks"] []
 g8l:mg "_law_patch"=some (.ref A.b3t)
 d4u:Binds K A.b5m ["_law_patch_here","_law_names","_law_rows"] []
 d4v:mg "_law_flows"=some (.ref A.b3u)
 f7k:Binds K A.a7n ["_law_flow","_law_one","_law_other","_law_many","_law_more"] []
 f7l:mg "_law_combined"=some (.ref A.a6u)
 b_law:Binds K A.f0g ["_law_script"] []
 m_law:mg "law"=some (.ref A.g4r)
 g8m:mg "abs"=none
 j5t:mg "all"=none
 j5u:mg "bool"=none
 j5v:mg "dict"=none
 g8n:mg "enumerate"=none
 h8j:mg "int"=none
 a7r:mg "isinstance"=none
 b0w:mg "len"=none
 d2k:mg "list"=none
 j5w:mg "max"=none
 k1q:mg "min"=none
 c3r:mg "range"=none
 h0f:mg "sorted"=none
 f5h:mg "str"=none
 g1o:mg "tuple"=none
 h3i:mg "zip"=none
 k1r:mg "Part"=some (.ref A.f0h)
 i9c:mg "Gain"=some (.ref A.a8u)
 i2q:mg "Delay"=some (.ref A.a4s)
 i9d:mg "Echo"=some (.ref A.a5s)
 i9e:mg "Back"=some (.ref A.a7q)
 i2r:mg "Swell"=some (.ref A.a2w)
 h0g:mg "Chain"=some (.ref A.a7o)
 h8k:mg "Engine"=some (.ref A.a4h)
 i2s:mg "Patch"=some (.ref A.a4t)
 h3j:mg "FIGURES"=some A.c6j
 c9s:mg "MOST_FIGURES_wholes"=some A.a2z
 c9t:mg "MOST_FIGURES_ratios"=some A.a3g
 f0p:mg "MOST_GAIN"=some A.b8k
 f0q:mg "MOST_MANY"=some A.b8l
 g1p:mg "MOST_TURNS"=some A.b5n
 h3k:mg "MOST_AT"=some A.c6k
 f5i:mg "MOST_CORNERS"=some A.a9u
 g1q:mg "MOST_PARTS"=some A.b5o
 h3l:mg "LETTERS"=some A.c6l
 f5j:mg "MOST_LETTERS"=some A.a9v
 g5d:mg "MOST_TONE"=some A.b8m
 c2j:mg "READERS"=some (.ref A.a3h)
 h3m:k0n K A.wd A.a3h
seal PE PT PA PS PSs PI PO PW PG PGs PEX PSX
local macro_rules | `(tactic| walk_at "bits") => `(tactic| first | with_reducible assumption | exact intBits_le_64 (by omega) (by omega) | exact (intBits_le_iff (m := 250)).mpr (by decide) | ((with_reducible apply intBits_mul_le) <;> walk_at "bits") | ((with_reducible apply intBits_add_le) <;> walk_at "bits") | ((with_reducible apply intBits_sub_le) <;> walk_at "bits") | ((with_reducible apply intBits_neg_le) <;> walk_at "bits") | ((with_reducible apply intBits_natAbs_le) <;> walk_at "bits") | ((with_reducible apply intBits_fdiv_le) <;> walk_at "bits") | ((with_reducible apply intBits_fmod_le) <;> walk_at "bits"))
local macro_rules | `(tactic| walk_at "mul") => `(tactic| first | exact IntMulOk.of_right (intBits_le_64 (by omega) (by omega)) | exact IntMulOk.of_left (intBits_le_64 (by omega) (by omega)) | ((with_reducible apply IntMulOk.of_le) <;> first | walk_at "bits" | decide))
local macro_rules | `(tactic| walk_at "le") => `(tactic| ((with_reducible apply Nat.le_trans) <;> first | walk_at "bits" | decide))
local macro_rules | `(tactic| walk_at "h") => do let a := Lean.mkIdent `zG; let b := Lean.mkIdent `zg; `(tactic| refine hidP fun $a $b => ?_)
local macro_rules | `(tactic| walk_at "g") => do let a := Lean.mkIdent `zG; let b := Lean.mkIdent `zg; let e := Lean.mkIdent `zE; `(tactic| (subst $e; refine $b ?_; clear $b $a))
variable {P:Dc}{w:E2}{K:Bw}{mg:Str->Option Br}{base:Heap}{A:Ad}
def j5x:Sp:=fun vs H Q _=>cI (fun a=>cI (fun b=>cN (Q (.int (Cv a b)) H))) vs
def k1s:Sp:=fun vs H Q _=>cI (fun a=>cI (fun b=>cN (intBits a<=8900/\intBits b<=8900/\Q (.int (K7 a b)) H))) vs
def k1t:Sp:=fun vs H Q _=>cI (fun _=>cN (Q (.bl true) H)) vs
def j5y:Sp:=fun vs H Q _=>cI (fun t=>cI (fun b=>cN (b≠0/\intBits t<=4000/\intBits b<=4000/\All (d9g H (d5l (Gh t b))) Q ⟨⟩ ⟨⟩))) vs
def k1u:Sp:=fun vs H Q _=>cS (fun x=>cN (Q (.bl (h6k (sg x))) H)) vs
def i9f:Sp:=fun vs H Q _=>cR (fun p=>cN (∃ t b:Int,H p=some (.tup [.int t,.int b])/\t.natAbs.log2 < 1920/\b.natAbs.log2 < 1920/\(∀ y:Str,sg y=i1t t b->Q (.str y) H))) vs
def j5z:Sp:=fun vs H Q _=>cS (fun x=>cN (∃ t b,Good (sg x) t b/\All (d9g H [.int t,.int b]) Q ⟨⟩ ⟨⟩)) vs
def k1v:Sp:=fun vs H Q _=>cS (fun x=>cN (∃ n:Nat,sg x=txt (n:Int)/\n < 10 ^ 13/\Q (.int n) H)) vs
def Two(H:Hp)(p q:Addr)(x y:Rat):Prop:=H p=some (.tup (d5l x))/\H q=some (.tup (d5l y))/\intBits x.num<=1900/\intBits (x.den:Int)<=1900/\intBits y.num<=1900/\intBits (y.den:Int)<=1900
def j6a:Sp:=fun vs H Q _=>cR (fun p=>cR (fun q=>cN (∃ x y:Rat,Two H p q x y/\All (d9g H (d5l (x+y))) Q ⟨⟩ ⟨⟩))) vs
def j6b:Sp:=fun vs H Q _=>cR (fun p=>cR (fun q=>cN (∃ x y:Rat,Two H p q x y/\All (d9g H (d5l (x*y))) Q ⟨⟩ ⟨⟩))) vs
noncomputable def g5e(bs:List Int):Int:=bs.foldl (fun m b=>(K7 m b:Int)) 1
def i2t:Sp:=fun vs H Q _=>cR (fun p=>cN (∃ (bs:List Int) (B:Nat),H p=some (.lst (bs.map V.int))/\(∀ b∈bs,1<=b/\intBits b<=B)/\1+bs.length*B<=8900/\Q (.int (g5e bs)) H)) vs
def Rts(H:Hp)(qs:List Addr)(ss:List Rat):Prop:=qs.length=ss.length/\∀ (i:Nat) q s,qs[i]? = some q->ss[i]? = some s->H q=some (.tup (d5l s))
def h0h(l:Addr)(H:Hp)(qs:List Addr)(ss:List Rat):Prop:=qs.length=ss.length/\∀ (i:Nat) q s,qs[i]? = some q->ss[i]? = some s->q≠l/\H q=some (.tup (d5l s))
def Crn(H:Hp)(ps:List Addr)(cs:List (Int×Rat)):Prop:=ps.length=cs.length/\∀ (i:Nat) p c,ps[i]? = some p->cs[i]? = some c->∃ g,H p=some (.tup [.int c.1,.ref g])/\H g=some (.tup (d5l c.2))
def h8l(cs:List (Int×Rat)):Prop:=(∀ c∈cs,0<=c.1/\c.1<=200000/\intBits c.2.num<=10/\intBits (c.2.den:Int)<=10)/\∀ (i:Nat) c d,cs[i]? = some c->cs[i+1]? = some d->c.1 < d.1
def i9g:Sp:=fun vs H Q _=>cR (fun p=>cI (fun S=>cN (∃ y:Rat,H p=some (.tup (d5l y))/\intBits y.num<=2000/\intBits (y.den:Int)<=2000/\intBits S<=2000/\Q (.int (y.num*S.fdiv y.den)) H))) vs
def SlR(cs:List (Int×Rat))(i:Nat)(s:Rat):Prop:=∀ c d,cs[i]? = some c->cs[i+1]? = some d->s*((d.1 - c.1:Int):Rat)=d.2 - c.2
def i2u : Sp := fun vs H Q _ => cR (fun ct => cN (∃ (ps : List Addr) (cs : List (Int × Rat)), H ct = some (.tup (ps.map V.ref)) /\ Crn H ps cs /\ h8l cs /\ 1 <= cs.length /\ cs.length <= 12 /\
   (∀ l H' qs ss,H l=none->Same H H'->H' l=some (.lst (O0 V.ref qs))->Rts H' qs ss->ss.length=cs.length->(∀ s∈ss,intBits s.num<=60/\intBits (s.den:Int)<=60)->(∀ j s,ss[j]? = some s->SlR cs j s)->ss[cs.length - 1]? = some 0->Q (.ref l) H'))) vs
noncomputable def f5k(ns ms:List Int):List Int:=(Cz (max ns.length ms.length)).map fun k=>ns.getD k 0+ms.getD k 0
noncomputable def k1w(ns ms:List Int):List Int:=((Cz (min ns.length ms.length)).map fun k=>ns.getD k 0+ms.getD k 0)++ns.drop (min ns.length ms.length)++ms.drop (min ns.length ms.length)
def k1x:Sp:=fun vs H Q _=>cR (fun p=>cR (fun q=>cN (∃ ns ms:List Int,H p=some (.lst (ns.map V.int))/\H q=some (.lst (ms.map V.int))/\ns.length<=1000000/\ms.length<=1000000/\All (d5k H ((f5k ns ms).map V.int)) Q ⟨⟩ ⟨⟩))) vs
def i9h:Sp:=fun vs H Q _=>cR (fun p=>cI (fun b=>cN (∃ ns:List Int,H p=some (.lst (ns.map V.int))/\(∀ n∈ns,Fu n b)/\ns.length<=1000000/\All (d5k H ((ns.map (· * b)).map V.int)) Q ⟨⟩ ⟨⟩))) vs
noncomputable def g6i(ns:List Int)(st n:Nat):List Int:=(Cz (ns.length - st)).map fun i=>if n<=st+i then ns.getD (st+i - n) 0 else 0
def h8m:Sp:=fun vs H Q _=>cR (fun k=>cI (fun st=>cI (fun n=>cN (∃ (ns:List Int) (s m:Nat),H k=some (.lst (ns.map V.int))/\st=s/\n=m/\s<=ns.length/\ns.length<=1000000/\All (d5k H ((g6i ns s m).map V.int)) Q ⟨⟩ ⟨⟩)))) vs
def j6c:Sp:=fun vs H Q _=>cR (fun k=>cI (fun n=>cN (∃ (ns:List Int) (m:Nat),H k=some (.lst (ns.map V.int))/\n=m/\ns.length<=1000000/\All (d9g H ((ns.drop (ns.length - m)).map V.int)) Q ⟨⟩ ⟨⟩))) vs
noncomputable def h8n(n:Int)(m:Nat):List Int:=(Cz (m+1)).map fun j=>n ^ j
def k1y:Sp:=fun vs H Q _=>cI (fun n=>cI (fun t=>cN (∃ m:Nat,t=m/\m<=16/\intBits n<=10/\All (d5k H ((h8n n m).map V.int)) Q ⟨⟩ ⟨⟩))) vs
noncomputable def i0n(p q:Int)(t j:Nat):Int:=p ^ j*q ^ (t - j)
noncomputable def i0o(p q:Int)(t:Nat):List Int:=(Cz (t+1)).map (i0n p q t)
noncomputable def ecF(gt fa:Addr)(n t:Nat)(q:Int):List (Str×V):=[("gain",.ref gt),("many",.int n),("turns",.int t),("factors",.ref fa),("factor_bottom",.int (q ^ t))]
def IsE(C:Addr)(H:Hp)(o:Addr)(p q:Int)(n t:Nat):Prop:=∃ dx gt fa,H o=some (.ins C dx (ecF gt fa n t q))/\H gt=some (.tup [.int p,.int q])/\H fa=some (.tup ((i0o p q t).map V.int))
def i9i (C : Addr) : Sp := fun vs H Q _ => cR (fun o => cR (fun gt => cI (fun n => cI (fun t => cN (∃ (dx : Addr) (m tt : Nat) (p q : Int), n = m /\ t = tt /\ tt <= 16 /\ intBits p <= 10 /\ intBits q <= 10 /\ H gt = some (.tup [.int p, .int q]) /\ H o = some (.ins C dx []) /\
   (∀ (fa:Addr) (H1:Hp),a2j o H H1->H fa=none->H1 o=some (.ins C dx (ecF gt fa m tt q))->H1 fa=some (.tup ((i0o p q tt).map V.int))->Q .non H1)))))) vs
def i2v(C:Addr):Sp:=fun vs H Q _=>cR (fun o=>cN (∃ p q n t,IsE C H o p q n t/\Q (.int (q ^ t)) H)) vs
def i2w(C:Addr):Sp:=fun vs H Q _=>cR (fun o=>cN (∃ p q n t,IsE C H o p q n t/\n<=1000000/\Q (.int (((n*t:Nat)):Int)) H)) vs
noncomputable def i0p(kn:List Int)(st n:Nat)(p q:Int)(t:Nat):Nat->List Int
 | 0=>[]
 | j+1=>f5k (i0p kn st n p q t j) ((g6i kn st (j*n)).map (· * i0n p q t j))
def j6d (C : Addr) : Sp := fun vs H Q _ => cR (fun o => cR (fun st => cR (fun x => cI (fun _ => cN (∃ (p q : Int) (n t : Nat) (zs xs : List Int), IsE C H o p q n t /\ H st = some (.tup (zs.map V.int)) /\ H x = some (.lst (xs.map V.int)) /\ zs.length <= 100000 /\ xs.length <= 100000 /\ n <= 1000000 /\ t <= 16 /\ intBits p <= 10 /\ intBits q <= 10 /\ (∀ y ∈ zs ++ xs, intBits y <= 1000000) /\
   (∀ (r ou s2:Addr) (H1:Hp),Same H H1->H r=none->H ou=none->H1 r=some (.tup [.ref ou,.ref s2])->H1 ou=some (.lst ((i0p (zs++xs) zs.length n p q t (t+1)).map V.int))->H1 s2=some (.tup (((zs++xs).drop ((zs++xs).length - n*t)).map V.int))->Q (.ref r) H1)))))) vs
noncomputable def h4h(X:Nat->Int)(p q:Int)(t:Nat):Nat->Int
 | 0=>0
 | j+1=>h4h X p q t j+X j*i0n p q t j
def Tps(H:Hp)(qs:List Addr)(vs:List (List V)):Prop:=qs.length=vs.length/\∀ (i:Nat) q v,qs[i]? = some q->vs[i]? = some v->H q=some (.tup v)
def h0i(l:Addr)(H:Hp)(qs:List Addr)(vs:List (List V)):Prop:=qs.length=vs.length/\∀ (i:Nat) q v,qs[i]? = some q->vs[i]? = some v->q≠l/\H q=some (.tup v)
noncomputable def lnOf(S:Int)(c:Int×Rat)(s:Rat):Int×Int×Int:=(c.1,c.2.num*S.fdiv c.2.den,s.num*S.fdiv s.den)
noncomputable def lnV(l:Int×Int×Int):List V:=[.int l.1,.int l.2.1,.int l.2.2]
def SwOk(cs:List (Int×Rat))(ss:List Rat)(S:Int):Prop:=ss.length=cs.length/\(∀ j s,ss[j]? = some s->SlR cs j s)/\ss[cs.length - 1]? = some 0/\1<=S/\intBits S<=1600/\(∀ c∈cs,(c.2.den:Int)∣S)/\(∀ s∈ss,(s.den:Int)∣S)/\(∀ s∈ss,intBits s.num<=60)/\intBits S<=1+128*cs.length/\S=g5e ((cs.map fun c=>(c.2.den:Int))++ss.map fun s=>(s.den:Int))
noncomputable def swF(ct ln:Addr)(S:Int):List (Str×V):=[("corners",.ref ct),("shared",.int S),("lines",.ref ln)]
def i2x (C : Addr) : Sp := fun vs H Q _ => cR (fun o => cR (fun l => cN (∃ (dx : Addr) (ps : List Addr) (cs : List (Int × Rat)), H o = some (.ins C dx []) /\ H l = some (.lst (ps.map V.ref)) /\ Crn H ps cs /\ h8l cs /\ 1 <= cs.length /\ cs.length <= 12 /\
   (∀ ct ln S ss us H1,a2j o H H1->H ct=none->H1 o=some (.ins C dx (swF ct ln S))->H1 ct=some (.tup (ps.map V.ref))->H1 ln=some (.tup (us.map V.ref))->Tps H1 us ((Fi (lnOf S) cs ss).map lnV)->SwOk cs ss S->Q .non H1)))) vs
def i9j(C:Addr):Sp:=fun vs H Q _=>cR (fun o=>cR (fun gt=>cN (∃ dx,H o=some (.ins C dx [])/\(∀ H1,a2j o H H1->H1 o=some (.ins C dx [("gain",.ref gt)])->Q .non H1)))) vs
def i2y(C:Addr):Sp:=fun vs H Q _=>cR (fun o=>cI (fun n=>cN (∃ dx,H o=some (.ins C dx [])/\(∀ H1,a2j o H H1->H1 o=some (.ins C dx [("many",.int n)])->Q .non H1)))) vs
def i9k(C:Addr):Sp:=fun vs H Q _=>cR (fun o=>cR (fun gt=>cI (fun n=>cN (∃ dx,H o=some (.ins C dx [])/\(∀ H1,a2j o H H1->H1 o=some (.ins C dx [("gain",.ref gt),("many",.int n)])->Q .non H1))))) vs
noncomputable def j6e:List (Int×Rat)->List Rat
 | c :: d :: r=>((d.2 - c.2)*(((d.1 - c.1:Int):Rat))⁻¹) :: j6e (d :: r)
 | [_]=>[0]
 | []=>[]
noncomputable def swX(cs:List (Int×Rat)):List Rat×Int:=(j6e cs,g5e ((cs.map fun c=>(c.2.den:Int))++(j6e cs).map fun s=>(s.den:Int)))
noncomputable def clsOf(A:Ad):Dt->Addr
 | .gain _=>A.a8u
 | .delay _=>A.a4s
 | .echo .. => A.a5s
 | .swell _=>A.a2w
 | _=>A.a7q
noncomputable def gnF(g:Addr):List (Str×V):=[("gain",.ref g)]
noncomputable def dlF(n:Nat):List (Str×V):=[("many",.int n)]
noncomputable def bkF(g:Addr)(n:Nat):List (Str×V):=[("gain",.ref g),("many",.int n)]
noncomputable def j8s(H:Hp)(fs:List (Str×V)):Dt->Prop
 | .gain y=>∃ g,fs=gnF g/\H g=some (.tup (d5l y))
 | .delay n=>fs=dlF n
 | .echo y n t=>∃ g fa,fs=ecF g fa n t (y.den:Int)/\H g=some (.tup (d5l y))/\H fa=some (.tup ((i0o y.num (y.den:Int) t).map V.int))
 | .back y n=>∃ g,fs=bkF g n/\H g=some (.tup (d5l y))
 | .swell cs=>∃ ct ln us ps,fs=swF ct ln (swX cs).2/\H ct=some (.tup (O0 V.ref ps))/\H ln=some (.tup (O0 V.ref us))/\Tps H us ((Fi (lnOf (swX cs).2) cs (swX cs).1).map lnV)/\SwOk cs (swX cs).1 (swX cs).2/\Crn H ps cs
 | _=>False
def IsP(A:Ad)(H:Hp)(o:Addr)(d:Dt):Prop:=∃ dx fs,H o=some (.ins (clsOf A d) dx fs)/\j8s H fs d
def i9l(C:Addr)(H:Hp)(o:Addr)(ps:List Addr)(cs:List (Int×Rat))(ss:List Rat)(S:Int):Prop:=∃ dx ct ln us,H o=some (.ins C dx (swF ct ln S))/\H ct=some (.tup (ps.map V.ref))/\H ln=some (.tup (us.map V.ref))/\Tps H us ((Fi (lnOf S) cs ss).map lnV)/\Crn H ps cs
def j6f (C : Addr) : Sp := fun vs H Q _ => cR (fun o => cI (fun t => cN (∃ ps cs ss S, i9l C H o ps cs ss S /\ SwOk cs ss S /\ 1 <= cs.length /\ cs.length <= 12 /\
   (∀ (m:Nat) u c s,cs[m]? = some c->ss[m]? = some s->H u=some (.tup (lnV (lnOf S c s)))->(m=0\/c.1<=t)->(∀ d,cs[m+1]? = some d->t < d.1)->Q (.ref u) H)))) vs
noncomputable def g1r(S t:Int)(c:Int×Rat)(s:Rat):Int:=c.2.num*S.fdiv c.2.den+s.num*S.fdiv s.den*max 0 (t - c.1)
def i5r(cs:List (Int×Rat))(ss:List Rat)(t:Int)(m:Nat)(c:Int×Rat)(s:Rat):Prop:=cs[m]? = some c/\ss[m]? = some s/\(m=0\/c.1<=t)/\(∀ d,cs[m+1]? = some d->t < d.1)
def i3a(C:Addr):Sp:=fun vs H Q _=>cR (fun o=>cI (fun t=>cN (∃ ps cs ss S,i9l C H o ps cs ss S/\SwOk cs ss S/\h8l cs/\1<=cs.length/\cs.length<=12/\0<=t/\t<=100000/\(∀ m c s,i5r cs ss t m c s->intBits (g1r S t c s)<=2000->Q (.int (g1r S t c s)) H)))) vs
def h8o(C:Addr):Sp:=fun vs H Q _=>cR (fun o=>cN (∃ ps cs ss S,i9l C H o ps cs ss S/\Q (.int S) H)) vs
def g5f:Sp:=fun vs H Q _=>cR (fun _=>cN (Q (.int 0) H)) vs
def f5l:Sp:=fun vs H Q _=>cR (fun o=>cN (All (d9g H []) Q ⟨⟩ ⟨⟩)) vs
def IsG(C:Addr)(H:Hp)(o:Addr)(p q:Int):Prop:=∃ dx gt,H o=some (.ins C dx [("gain",.ref gt)])/\H gt=some (.tup [.int p,.int q])
def i3b(C:Addr):Sp:=fun vs H Q _=>cR (fun o=>cN (∃ p q,IsG C H o p q/\Q (.int q) H)) vs
def j6g (C : Addr) : Sp := fun vs H Q _ => cR (fun o => cR (fun st => cR (fun x => cI (fun _ => cN (∃ (p q : Int) (xs : List Int), IsG C H o p q /\ H x = some (.lst (xs.map V.int)) /\ xs.length <= 100000 /\ (∀ y ∈ xs, Fu y p) /\
   (∀ (r ou s2:Addr) (H1:Hp),Same H H1->H r=none->H ou=none->H1 r=some (.tup [.ref ou,.ref s2])->H1 ou=some (.lst ((xs.map (· * p)).map V.int))->Q (.ref r) H1)))))) vs
def IsD(C:Addr)(H:Hp)(o:Addr)(n:Nat):Prop:=∃ dx,H o=some (.ins C dx [("many",.int n)])
def h0j:Sp:=fun vs H Q _=>cR (fun o=>cN (Q (.int 1) H)) vs
def j6h (C : Addr) : Sp := fun vs H Q _ => cR (fun o => cR (fun st => cR (fun x => cI (fun _ => cN (∃ (n : Nat) (zs xs : List Int), IsD C H o n /\ H st = some (.tup (zs.map V.int)) /\ H x = some (.lst (xs.map V.int)) /\ zs.length <= 100000 /\ xs.length <= 100000 /\
   (∀ (r ou s2:Addr) (H1:Hp),Same H H1->H r=none->H ou=none->H1 r=some (.tup [.ref ou,.ref s2])->H1 ou=some (.lst ((g6i (zs++xs) zs.length n).map V.int))->H1 s2=some (.tup (((zs++xs).drop ((zs++xs).length - n)).map V.int))->Q (.ref r) H1)))))) vs
def i3c(C:Addr):Sp:=fun vs H Q _=>cR (fun o=>cN (∃ dx gt n p q,H o=some (.ins C dx (bkF gt n))/\H gt=some (.tup [.int p,.int q])/\Q (.int q) H)) vs
def j6i (C : Addr) : Sp := fun vs H Q _ => cR (fun o => cR (fun st => cR (fun x => cI (fun _ => cN (∃ dx gt n p q zs xs, H o = some (.ins C dx (bkF gt n)) /\ H gt = some (.tup [.int p, .int q]) /\ H st = some (.tup (zs.map V.int)) /\ H x = some (.lst (xs.map V.int)) /\ zs.length <= 100000 /\ xs.length <= 100000 /\ (∀ y ∈ zs, Fu y (-p)) /\ (∀ y ∈ xs, Fu y (-p)) /\ (∀ y ∈ xs, Fu y q) /\ Fu 0 (-p) /\
   (∀ (r ou s2:Addr) (H1:Hp),Same H H1->H r=none->H ou=none->H s2=none->H1 r=some (.tup [.ref ou,.ref s2])->H1 ou=some (.lst ((f5k (xs.map (· * q)) ((g6i (zs++xs) zs.length n).map (· * (-p)))).map V.int))->H1 s2=some (.tup (((zs++xs).drop ((zs++xs).length - n)).map V.int))->Q (.ref r) H1)))))) vs
noncomputable def h4i(S t:Int):List (Int×Rat)->List Rat->Int
 | c :: cs,s :: ss=>(match cs with
  | []=>g1r S t c s
  | d :: _=>if t < d.1 then g1r S t c s else h4i S t cs ss)
 | _,_=>0
noncomputable def d3h(xs:List Int)(i:Int):Int:=if i < 0 then 0 else xs.getD i.toNat 0
noncomputable def j8t:Dt->List ((Int->Int)×Nat)
 | .gain y=>[(fun _=>y.num,0)]
 | .delay n=>[(fun _=>1,n)]
 | .echo y n t=>(Cz (t+1)).map fun m=>(fun _=>i0n y.num (y.den:Int) t m,m*n)
 | .back y n=>[(fun _=>(y.den:Int),0),(fun _ => -y.num,n)]
 | .swell cs=>[(fun i=>h4i (swX cs).2 i cs (swX cs).1,0)]
 | _=>[]
noncomputable def tap(L:List ((Int->Int)×Nat))(X:Int->Int)(i:Int):Int:=(L.map fun c=>c.1 i*X (i - (c.2:Int))).sum
noncomputable def outs(d:Dt)(xs ys:List Int):List Int:=(Cz ys.length).map fun i=>tap (j8t d) (d3h (xs++ys)) ((xs.length+i:Nat):Int)
noncomputable def a8n:Dt->Int
 | .gain y=>y.den
 | .echo y _ t=>(y.den:Int) ^ t
 | .back y _=>y.den
 | .swell cs=>(swX cs).2
 | _=>1
noncomputable def StV(H:Hp)(xs:List Int)(st:V):Dt->Prop
 | .gain _=>∃ p,st=V.ref p
 | .delay n=>∃ p,st=V.ref p/\H p=some (.tup ((xs.drop (xs.length - n)).map V.int))
 | .echo _ n t=>∃ p,st=V.ref p/\H p=some (.tup ((xs.drop (xs.length - n*t)).map V.int))
 | .back _ n=>∃ p,st=V.ref p/\H p=some (.tup ((xs.drop (xs.length - n)).map V.int))
 | .swell _=>st=V.int (xs.length:Int)
 | _=>False
def f5m (A : Ad) (k : Nat) : Sp := fun vs H Q _ => cR (fun o => cV (fun st => cR (fun l => cI (fun _ => cN (∃ (d : Dt) (xs ys : List Int), d.kd = k /\ IsP A H o d /\ d.ok /\ StV H xs st d /\ H l = some (.lst (ys.map V.int)) /\ xs.length <= 40000 /\ ys.length <= 40000 /\ (∀ y ∈ xs ++ ys, intBits y <= 100000) /\
   (∀ r ou st' H1,Same H H1->H r=none->H ou=none->H1 r=some (.tup [.ref ou,st'])->H1 ou=some (.lst ((outs d xs ys).map V.int))->StV H1 (xs++ys) st' d->Q (.ref r) H1)))))) vs
def j6j (C : Addr) : Sp := fun vs H Q _ => cR (fun o => cI (fun n0 => cR (fun x => cI (fun _ => cN (∃ ps cs ss S, ∃ (m0 : Nat) (xs : List Int), n0 = m0 /\ i9l C H o ps cs ss S /\ SwOk cs ss S /\ h8l cs /\ 1 <= cs.length /\ cs.length <= 12 /\ H x = some (.lst (xs.map V.int)) /\ m0 <= 40000 /\ xs.length <= 40000 /\ (∀ y ∈ xs, intBits y <= 100000) /\
   (∀ (r ou:Addr) (H1:Hp),Same H H1->H r=none->H ou=none->H1 r=some (.tup [.ref ou,.int ((m0+xs.length:Nat):Int)])->H1 ou=some (.lst (((Cz xs.length).map fun i=>h4i S ((m0+i:Nat):Int) cs ss*xs.getD i 0).map V.int))->Q (.ref r) H1)))))) vs
def g5g(A:Ad)(k:Nat):Sp:=fun vs H Q _=>cR (fun o=>cN (∃ (d:Dt),d.kd=k/\IsP A H o d/\Q (.int (a8n d)) H)) vs
def spRG:Sp:=fun vs H Q _=>cS (fun x=>cN (∃ y:Rat,x=fW y/\YOk y/\All (d9g H (d5l y)) Q ⟨⟩ ⟨⟩)) vs
def spRN:Sp:=fun vs H Q _=>cS (fun x=>cI (fun a=>cI (fun b=>cN (∃ n:Nat,sg x=txt (n:Int)/\n < 10 ^ 9/\a<=n/\(n:Int)<=b/\Q (.int n) H)))) vs
def spRM:Sp:=fun vs H Q _=>cS (fun x=>cN (∃ n:Nat,x=nW n/\1<=n/\n<=1000/\Q (.int n) H)) vs
def spCC:Sp:=fun vs H Q _=>cR (fun l=>cI (fun c=>cN (∃ xs,H l=some (.lst xs)/\(xs.length:Int)=c/\Q .non H))) vs
def j6k(A:Ad)(k:Nat):Sp:=fun vs H Q _=>cR (fun l=>cN (∃ d:Dt,d.kd=k/\d.ok/\H l=some (.lst (d.vals.map V.str))/\(∀ o H1,H o=none->Same H H1->IsP A H1 o d->Q (.ref o) H1))) vs
def spRC:Sp:=fun vs H Q _=>cS (fun x=>cN (∃ c:Int×Rat,x=cW c/\0<=c.1/\c.1<=100000/\YOk c.2/\(∀ p g H1,H p=none->Same H H1->H1 p=some (.tup [.int c.1,.ref g])->H1 g=some (.tup (d5l c.2))->Q (.ref p) H1))) vs
def j6l(A:Ad):Sp:=fun vs H Q _=>cS (fun x=>cN (∃ d:Dt,d.ok/\d.kd≠4/\x=d.word/\(∀ o H1,H o=none->Same H H1->IsP A H1 o d->Q (.ref o) H1))) vs
noncomputable def run(ds:List Dt)(xs:List Int):List Int:=ds.foldl (fun r d=>outs d [] r) xs
noncomputable def blk:List Dt->List Int->List Int->List Int
 | [],_,b=>b
 | d :: ds,a,b=>blk ds (outs d [] a) (outs d a b)
noncomputable def a6o(b:Int)(ds:List Dt):Int:=ds.foldl (fun b d=>b*a8n d) b
noncomputable def Few:Dt->Prop
 | .echo _ _ t=>t<=4
 | .swell cs=>∃ c d:Int×Rat,cs = [c,d]/\d.1=c.1+3
 | _=>True
def okF(d:Dt):Prop:=d.ok/\Few d
def h3n(A:Ad)(H:Hp)(os:List Addr)(ds:List Dt):Prop:=os.length=ds.length/\∀ (i:Nat) o d,os[i]? = some o->ds[i]? = some d->IsP A H o d
def Sts(H:Hp)(ds:List Dt)(sts:List V)(xs:List Int):Prop:=sts.length=ds.length/\∀ (i:Nat) st d,sts[i]? = some st->ds[i]? = some d->StV H (run (ds.take i) xs) st d
noncomputable def chF(pl sl:Addr):List (Str×V):=[("parts",.ref pl),("states",.ref sl)]
noncomputable def ch1(pl:V):List (Str×V):=[("parts",pl)]
def ChS(A:Ad)(H:Hp)(o:Addr)(ds:List Dt)(xs:List Int):Prop:=∃ dx pl sl os sts,H o=some (.ins A.a7o dx (chF pl sl))/\H pl=some (.lst (os.map V.ref))/\H sl=some (.lst sts)/\h3n A H os ds/\Sts H ds sts xs
def Lk(H:Hp)(D:Addr):Prop:=(∀ ts,H D≠some (.tup ts))/\∀ c dx fs,H D=some (.ins c dx fs)->(fs = []\/(∃ pl:V,fs=ch1 pl)\/∃ pl sl,fs=chF pl sl)
def ChX(A:Ad)(H:Hp)(o:Addr)(ds:List Dt)(xs:List Int)(Z:Addr):Prop:=∃ dx pl sl os sts,H o=some (.ins A.a7o dx (chF pl sl))/\H pl=some (.lst (os.map V.ref))/\H sl=some (.lst sts)/\h3n A H os ds/\Sts H ds sts xs/\pl≠Z/\sl≠Z/\o≠Z
def k1z(A:Ad):Sp:=fun vs H Q _=>cR (fun l=>cN (∃ ds:List Dt,H l=some (.lst (ds.map fun d=>V.str d.word))/\ds.length<=8/\(∀ d∈ds,d.ok/\d.kd≠4)/\(∀ p os H1,H p=none->Same H H1->H1 p=some (.lst (os.map V.ref))->h3n A H1 os ds->Q (.ref p) H1))) vs
def i9m(A:Ad):Sp:=fun vs H Q _=>cR (fun o=>cR (fun l=>cN (∃ (dx:Addr) (ds:List Dt),H o=some (.ins A.a7o dx [])/\H l=some (.lst (ds.map fun d=>V.str d.word))/\ds.length<=8/\(∀ d∈ds,d.ok/\d.kd≠4)/\(∀ H1,a2j o H H1->ChS A H1 o ds []->(∀ Z,H Z≠none->Z≠o->ChX A H1 o ds [] Z)->Q .non H1)))) vs
def j6m (A : Ad) : Sp := fun vs H Q _ => cR (fun o => cR (fun l => cI (fun b => cN (∃ (ds : List Dt) (xs ys : List Int), ChS A H o ds xs /\ H l = some (.lst (ys.map V.int)) /\ ds.length <= 8 /\ (∀ d ∈ ds, okF d) /\ xs.length <= 10000 /\ ys.length <= 10000 /\ intBits b <= 8900 /\ (∀ y ∈ xs ++ ys, intBits y <= 90000) /\
   (∀ rr lo H1,a2j o H H1->H rr=none->H lo=none->H1 rr=some (.tup [.ref lo,.int (a6o b ds)])->H1 lo=some (.lst ((blk ds xs ys).map V.int))->ChS A H1 o ds (xs++ys)->Q (.ref rr) H1))))) vs
def k2a(A:Ad):Sp:=fun vs H Q _=>cR (fun o=>cN (∃ (ds:List Dt) (xs:List Int),ChS A H o ds xs/\ds.length<=8/\(∀ d∈ds,okF d)/\Q (.int (a6o 1 ds)) H)) vs
def spFW:Sp:=fun vs H Q _=>cR (fun p=>cN (∃ x:Rat,H p=some (.tup (d5l x))/\intBits x.num<=10/\intBits (x.den:Int)<=10/\Q (.str (fW x)) H)) vs
def spCW:Sp:=fun vs H Q _=>cR (fun p=>cN (∃ (c:Int×Rat) (g:Addr),H p=some (.tup [.int c.1,.ref g])/\H g=some (.tup (d5l c.2))/\c.1.natAbs < 2 ^ 20/\intBits c.2.num<=10/\intBits (c.2.den:Int)<=10/\Q (.str (cW c)) H)) vs
def i0q(A:Ad)(k:Nat):Sp:=fun vs H Q _=>cR (fun o=>cN (∃ d:Dt,d.kd=k/\IsP A H o d/\d.ok/\(∀ H1,Same H H1->Q (.str d.word) H1))) vs
def k2b(A:Ad):Sp:=fun vs H Q _=>cR (fun o=>cN (∃ ds:List Dt,ChS A H o ds []/\ds.length<=8/\(∀ d∈ds,d.ok)/\All (d5k H (ds.map fun d=>V.str d.word)) Q ⟨⟩ ⟨⟩)) vs
def f0r(x:Str):Prop:=x.length<=8/\x≠B0 ""/\∀ c∈x.cps.toList,97<=c/\c<=122
def i3d:Sp:=fun vs H Q _=>cS (fun x=>cN (f0r x/\(∀ H1,Same H H1->Q (.bl true) H1))) vs
noncomputable def ptF(t b sd ou:Addr):List (Str×V):=[("track_names",.ref t),("bus_names",.ref b),("told_sends",.ref sd),("told_outs",.ref ou)]
def Eds(H:Hp)(ps:List Addr)(es:List (Str×Str)):Prop:=ps.length=es.length/\∀ (i:Nat) p e,ps[i]? = some p->es[i]? = some e->∃ lw:Addr,H p=some (.tup [.str e.1,.str e.2,.ref lw])
def i5s(A:Ad)(H:Hp)(o t b sd:Addr)(ts bs:List Str)(es:List (Str×Str)):Prop:=∃ dx ou ps,H o=some (.ins A.a4t dx (ptF t b sd ou))/\H t=some (.lst (ts.map V.str))/\H b=some (.lst (bs.map V.str))/\H sd=some (.lst (ps.map V.ref))/\Eds H ps es/\t≠b/\t≠sd/\b≠sd
def k2c(A:Ad):Sp:=fun vs H Q _=>cR (fun o=>cS (fun x=>cN (∃ t b sd ts bs es,i5s A H o t b sd ts bs es/\f0r x/\x∉ts/\x∉bs/\(∀ H1,Same H H1->Q .non H1)))) vs
def c1p(A:Ad)(H:Hp)(N:Addr->Prop)(o:Addr)(p:Pd):Prop:=∃ dx t b sd ou,H o=some (.ins A.a4t dx (ptF t b sd ou))/\Fl H N t b sd ou p
def spPI(A:Ad):Sp:=fun vs H Q _=>cR (fun o=>cN (∃ dx,H o=some (.ins A.a4t dx [])/\(∀ H1,a2j o H H1->c1p A H1 (fun a=>H a=none) o ⟨[],[],[],[]⟩->Q .non H1))) vs
def k2d(A:Ad):Sp:=fun vs H Q _=>cR (fun o=>cS (fun x=>cN (∃ N p,c1p A H N o p/\f0r x/\x∉p.ts/\x∉p.bs/\p.ts.length<=100/\(∀ H1,c0t N H H1->c1p A H1 N o ⟨p.ts++[x],p.bs,p.es,p.os⟩->Q .non H1)))) vs
def k2e(A:Ad):Sp:=fun vs H Q _=>cR (fun o=>cS (fun x=>cN (∃ N p,c1p A H N o p/\f0r x/\x∉p.ts/\x∉p.bs/\p.bs.length<=100/\(∀ H1,c0t N H H1->c1p A H1 N o ⟨p.ts,p.bs++[x],p.es,p.os⟩->Q .non H1)))) vs
def Rch(es:List (Str×Str))(x y:Str):Prop:=∀ S:Str->Prop,S x->(∀ u v,S u->(u,v)∈es->S v)->S y
noncomputable def cnt(es:List (Str×Str))(ks:List Str):Nat:=(es.filter fun e=>decide (e.2∉ks)).length
def h4j(H:Hp)(L:Addr)(kvs:List (Key×V))(ks:List Str):Prop:=kvs.map (·.1)=ks.map kT/\∀ kv∈kvs,∃ (l:Addr) (ss:List Str),kv.2 = .ref l/\l≠L/\H l=some (.lst (ss.map V.str))/\ss.length<=kvs.length
def k2f(A:Ad):Sp:=fun vs H Q _=>cR (fun o=>cS (fun x=>cS (fun y=>cN (∃ t b sd ts bs es,i5s A H o t b sd ts bs es/\¬ Rch es x y/\es.length<=100/\D1 x=true/\(∀ e∈es,D1 e.2=true)/\All (d5k H []) Q ⟨⟩ ⟨⟩)))) vs
def j6n(A:Ad):Sp:=fun vs H Q _=>cR (fun o=>cS (fun x=>cS (fun y=>cR (fun l=>cN (∃ (N:Addr->Prop) (p:Pd) (ds:List Dt),c1p A H N o p/\H l=some (.lst (ds.map fun d=>V.str d.word))/\ds.length<=8/\(∀ d∈ds,d.ok/\d.kd≠4)/\(x∈p.ts\/x∈p.bs)/\y∈p.bs/\¬ Rch (prs p.es) y x/\p.es.length<=99/\D1 y=true/\(∀ e∈p.es,D1 e.2.1=true)/\(∀ H1,c0t N H H1->c1p A H1 (fun a=>N a\/H a=none) o ⟨p.ts,p.bs,p.es++[(x,y,ds.map Dt.word)],p.os⟩->Q .non H1)))))) vs
def i3e(A:Ad):Sp:=fun vs H Q _=>cR (fun o=>cN (∃ (N:Addr->Prop) (p:Pd),c1p A H N o p/\p.ts.length<=100/\All (d5k H (p.ts.map V.str)) Q ⟨⟩ ⟨⟩)) vs
def j6o(A:Ad):Sp:=fun vs H Q _=>cR (fun o=>cN (∃ (N:Addr->Prop) (p:Pd),c1p A H N o p/\p.os.length<=100/\(∀ l us H1,H l=none->Same H H1->H1 l=some (.lst us)->RpL H1 (fun a=>H a=none/\a≠l) us (p.os.map dOu)->Q (.ref l) H1))) vs
def i9n(A:Ad):Sp:=fun vs H Q _=>cR (fun o=>cN (∃ (N:Addr->Prop) (p:Pd),c1p A H N o p/\p.es.length<=100/\(∀ e∈p.es,e.2.2.length<=100)/\(∀ l us H1,H l=none->Same H H1->H1 l=some (.lst us)->RpL H1 (fun a=>H a=none/\a≠l) us (p.es.map dSd)->Q (.ref l) H1))) vs
noncomputable def c3s(bs:List Str)(es:List (Str×Str))(pl:List Str)(x:Str):Bool:=decide (x∉pl) && es.all fun e=>!(decide (e.2=x) && (decide (e.1∈bs) && !decide (e.1∈pl)))
noncomputable def c9v(bs:List Str)(es:List (Str×Str)):Nat->List Str
 | 0=>[]
 | k+1=>c9v bs es k++(bs.filter (c3s bs es (c9v bs es k))).head?.toList
def j6p(A:Ad):Sp:=fun vs H Q _=>cR (fun o=>cS (fun x=>cR (fun l=>cN (∃ t b sd ts bs es pl,i5s A H o t b sd ts bs es/\H l=some (.lst (pl.map V.str))/\Q (.bl (c3s bs es pl x)) H)))) vs
def k2g(A:Ad):Sp:=fun vs H Q _=>cR (fun o=>cN (∃ t b sd ts bs es,i5s A H o t b sd ts bs es/\bs.length<=100/\(∀ j,j < bs.length->bs.filter (c3s bs es (c9v bs es j))≠[])/\All (d5k H ((c9v bs es bs.length).map V.str)) Q ⟨⟩ ⟨⟩)) vs
def i9o(es:List (Str×Str)):Prop:=∃ r:Str->Nat,∀ e∈es,r e.1 < r e.2
noncomputable abbrev Ld:=Str×List Dt
noncomputable abbrev Sq:=Str×Str×List Dt
noncomputable def f8t(e:Sq):Sd:=(e.1,e.2.1,e.2.2.map Dt.word)
noncomputable def b8t(es:List Sq)(b:Str):List Ld:=(es.filter fun e=>decide (e.2.1=b)).map fun e=>(e.1,e.2.2)
noncomputable def j6q(es:List Sq)(f:Str->Int)(b:Str):Str->Int:=fun z=>if z=b then g5e ((b8t es b).map fun l=>f l.1*a6o 1 l.2) else f z
noncomputable def d3i(es:List Sq)(ob:List Str):Str->Int:=ob.foldl (j6q es) fun _=>1
def h8p(e:Sq):Prop:=e.2.2.length<=2/\∀ d∈e.2.2,d.ok/\d.kd≠4/\Few d
def Lds(A:Ad)(H:Hp)(us:List V)(cs:List Addr)(ls:List Ld):Prop:=us.length=ls.length/\cs.length=ls.length/\∀ (i:Nat) u c l,us[i]? = some u->cs[i]? = some c->ls[i]? = some l->∃ q,u = .ref q/\H q=some (.tup [.str l.1,.ref c])/\ChS A H c l.2 []
def LdX(A:Ad)(H:Hp)(us:List V)(cs:List Addr)(ls:List Ld)(Z:Addr):Prop:=us.length=ls.length/\cs.length=ls.length/\∀ (i:Nat) u c l,us[i]? = some u->cs[i]? = some c->ls[i]? = some l->∃ q,u = .ref q/\H q=some (.tup [.str l.1,.ref c])/\ChX A H c l.2 [] Z
noncomputable def enF(t b L B S:Addr):List (Str×V):=[("track_names",.ref t),("bus_order",.ref b),("leads",.ref L),("bottoms",.ref B),("settlers",.ref S)]
def Lea(A:Ad)(H:Hp)(kvs:List (Key×V))(ob:List Str)(es:List Sq)(cc:Str->List Addr):Prop:=(∀ b∈ob,(cc b).Nodup/\∃ q us,b9m kvs (kT b)=some (.ref q)/\H q=some (.lst us)/\Lds A H us (cc b) (b8t es b))/\∀ b∈ob,∀ b'∈ob,∀ c,c∈cc b->c∈cc b'->b=b'
def k2h(A:Ad)(H:Hp)(o:Addr)(ts ob:List Str)(es:List Sq):Prop:=∃ dx t b L B S kl kb cc,H o=some (.ins A.a4h dx (enF t b L B S))/\H t=some (.lst (ts.map V.str))/\H b=some (.lst (ob.map V.str))/\H L=some (.dK kl)/\H B=some (.dK kb)/\H S=some (.dK [])/\(∀ z∈ts++ob,b9m kb (kT z)=some (.int (d3i es ob z)))/\Lea A H kl ob es cc
def i9p:Sp:=fun vs H Q _=>cR (fun p=>cI (fun B=>cN (∃ (l:Addr) (ys:List Int) (b:Int),H p=some (.tup [.ref l,.int b])/\H l=some (.lst (ys.map V.int))/\b≠0/\intBits b<=8900/\intBits B<=8900/\(∀ y∈ys,intBits y<=90000)/\ys.length<=10000/\All (d5k H ((ys.map (· * B.fdiv b)).map V.int)) Q ⟨⟩ ⟨⟩))) vs
def j6r (A : Ad) : Sp := fun vs H Q _ => cR (fun o => cS (fun b => cR (fun l => cN (∃ (dx t bo L B S : Addr) (kl kb : List (Key × V)) (f : Str -> Int) (us : List V) (es : List Sq) (Bd : Nat), H o = some (.ins A.a4h dx (enF t bo L B S)) /\ H L = some (.dK kl) /\ H B = some (.dK kb) /\ L ≠ B /\ H l = some (.lst us) /\ RpL H (fun _ => True) us ((es.map f8t).map dSd) /\ (∀ e ∈ es, h8p e) /\ es.length <= 20 /\ kl.length <= 100 /\ kb.length <= 100 /\ (∀ e ∈ es, b9m kb (kT e.1) = some (.int (f e.1)) /\ 1 <= f e.1 /\ intBits (f e.1) <= Bd) /\ 1 + es.length * (Bd + 90) <= 8900 /\
   (∀ q us' cs H1,(∀ z u,z≠L->z≠B->H z=some u->H1 z=some u)->H1 L=some (.dK (putK kl (kT b) (.ref q)))->H1 B=some (.dK (putK kb (kT b) (.int (g5e (es.map fun e=>f e.1*a6o 1 e.2.2)))))->H q=none->H1 q=some (.lst us')->cs.Nodup->(∀ c∈cs,H c=none)->Lds A H1 us' cs (es.map fun e=>(e.1,e.2.2))->Q .non H1))))) vs
def k2i(A:Ad):Sp:=fun vs H Q _=>cR (fun o=>cR (fun po=>cN (∃ (dx:Addr) (N:Addr->Prop) (p:Pd) (es:List Sq),H o=some (.ins A.a4h dx [])/\c1p A H N po p/\p.es=es.map f8t/\p.os = []/\(∀ e∈es,h8p e)/\es.length<=6/\p.ts.length<=20/\p.bs.length<=20/\p.bs.Nodup/\(∀ x∈p.bs,x∉p.ts)/\i9o (prs p.es)/\(∀ e∈es,(e.1∈p.ts\/e.1∈p.bs)/\e.2.1∈p.bs)/\(∀ H1,a2j o H H1->k2h A H1 o p.ts (c9v p.bs (prs p.es) p.bs.length) es->Q .non H1)))) vs
noncomputable def f8u(es:List Sq)(l:List Str):Nat:=(l.map fun b=>(b8t es b).length).sum
noncomputable def g8o(H:Hp)(b:Str):V->Bool:=fun v=>match v with
 | .ref a=>(match H a with
  | some (.tup [_,.str y,_])=>decide (y=b)
  | _=>false)
 | _=>false
def h8q(xs:List Int):Prop:=xs.length<=1000/\∀ x∈xs,-1000000000000<=x/\x<=1000000000000
def k2j:Sp:=fun vs H Q _=>cR (fun l=>cN (∃ xs:List Int,H l=some (.lst (xs.map V.int))/\h8q xs/\(∀ H1,Same H H1->Q (.bl true) H1))) vs
def Fed(H:Hp)(kvs:List (Key×V))(ts:List Str)(f:Str->List Int)(n:Nat):Prop:=∀ z∈ts,∃ l,b9m kvs (kT z)=some (.ref l)/\H l=some (.lst ((f z).map V.int))/\h8q (f z)/\(f z).length=n
def k2k(A:Ad):Sp:=fun vs H Q _=>cR (fun o=>cR (fun d=>cN (∃ (ts ob:List Str) (es:List Sq) (kvs:List (Key×V)) (f:Str->List Int) (n:Nat),k2h A H o ts ob es/\H d=some (.dK kvs)/\kvs.length=ts.length/\ts.length<=20/\Fed H kvs ts f n/\(∀ H1,Same H H1->Q .non H1)))) vs
noncomputable def c6v(ls:List Ld)(F:Str->List Int)(g:Str->Int)(B:Int)(n:Nat):List Int:=ls.foldl (fun acc l=>f5k acc ((blk l.2 [] (F l.1)).map (· * B.fdiv (a6o (g l.1) l.2)))) (D0 n 0)
noncomputable def flS(es:List Sq)(g:Str->Int)(n:Nat)(F:Str->List Int)(b:Str):Str->List Int:=fun z=>if z=b then c6v (b8t es b) F g (g b) n else F z
noncomputable def flw(es:List Sq)(g:Str->Int)(n:Nat)(F:Str->List Int)(ob:List Str):Str->List Int:=ob.foldl (flS es g n) F
noncomputable def fdF(ts:List Str)(rows:List (List Int))(n:Nat)(z:Str):List Int:=rows.getD (ts.idxOf z) (D0 n 0)
def Lin(n:Nat)(a b:Int)(F G R:List Int):Prop:=F.length=n/\G.length=n/\R.length=n/\∀ i:Int,i < (n:Int)->d3h R i=a*d3h F i+b*d3h G i
def ChI(A:Ad)(H:Hp)(cs:List Addr):Prop:=∀ c∈cs,∃ dx pl sl,H c=some (.ins A.a7o dx (chF pl sl))
def Out(cs:List Addr)(H H':Hp):Prop:=∀ z u,z∉cs->H z=some u->H' z=some u
def j6s (A : Ad) : Sp := fun vs H Q _ => cR (fun o => cS (fun b => cR (fun d => cI (fun n => cN (∃ (dx t bo L B S : Addr) (kl kb kf : List (Key × V)) (q : Addr) (us : List V) (cs : List Addr) (ls : List Ld) (g : Str -> Int) (F : Str -> List Int) (bt : Int) (m : Nat), n = (m : Int) /\ H o = some (.ins A.a4h dx (enF t bo L B S)) /\ H L = some (.dK kl) /\ H B = some (.dK kb) /\ H d = some (.dK kf) /\ b9m kb (kT b) = some (.int bt) /\ b9m kl (kT b) = some (.ref q) /\ H q = some (.lst us) /\ Lds A H us cs ls /\ cs.Nodup /\ m <= 1000 /\ intBits bt <= 8900 /\ (∀ l ∈ ls, l.2.length <= 2 /\ (∀ d ∈ l.2, okF d) /\ (F l.1).length = m /\ (∀ y ∈ F l.1, intBits y <= 80000) /\ 1 <= g l.1 /\ intBits (g l.1) <= 8000 /\ ∃ pr lo, b9m kf (kT l.1) = some (.ref pr) /\ H pr = some (.tup [.ref lo, .int (g l.1)]) /\ H lo = some (.lst ((F l.1).map V.int))) /\
   (∀ rr lo H1,Out cs H H1->H rr=none->H lo=none->H1 rr=some (.tup [.ref lo,.int bt])->H1 lo=some (.lst ((c6v ls F g bt m).map V.int))->Q (.ref rr) H1)))))) vs
def Flo(R:Addr->Prop)(H:Hp)(kf:List (Key×V))(zs:List Str)(g:Str->Int)(F:Str->List Int):Prop:=∀ z∈zs,∃ pr lo,b9m kf (kT z)=some (.ref pr)/\H pr=some (.tup [.ref lo,.int (g z)])/\H lo=some (.lst ((F z).map V.int))/\R lo
def NoC(A:Ad)(u:HO):Prop:=∀ dx pl sl,u≠.ins A.a7o dx (chF pl sl)
def d3l(A:Ad)(H H':Hp):Prop:=∀ z u,NoC A u->H z=some u->H' z=some u
def FrN(A:Ad)(H:Hp)(lo:Addr):Prop:=∀ u,NoC A u->H lo≠some u
def j6t (A : Ad) : Sp := fun vs H Q _ => cR (fun o => cR (fun d => cN (∃ (ts ob : List Str) (es : List Sq) (kvs : List (Key × V)) (f : Str -> List Int) (n : Nat), k2h A H o ts ob es /\ H d = some (.dK kvs) /\ kvs.length = ts.length /\ ts.length <= 20 /\ ts.Nodup /\ ts ≠ [] /\ (∀ s ∈ ts, D1 s = true) /\ n <= 1000 /\ Fed H kvs ts f n /\ (∀ e ∈ es, h8p e) /\ es.length <= 6 /\ ob.length <= 8 /\ ob.Nodup /\ (∀ z ∈ ts, z ∉ ob) /\ (∀ (i : Nat) b, ob[i]? = some b -> ∀ l ∈ b8t es b, l.1 ∈ ts ++ ob.take i) /\
   (∀ rr d1 d2 kf H1,d3l A H H1->H1 rr=some (.tup [.ref d1,.ref d2])->H1 d1=some (.dK kf)->kf.map (·.1)=(ts++ob).map kT->Flo (FrN A H) H1 kf (ts++ob) (d3i es ob) (flw es (d3i es ob) n f ob)->Q (.ref rr) H1)))) vs
def j6u(K:Bw):Sp:=fun vs H Q _=>cR (fun a=>cI (fun k=>cN (∃ ns:List Int,SqL K H a (ns.map V.int)/\0<=k/\Q (.int (ns.getD k.toNat 0)) H))) vs
def j6v:Sp:=fun vs H Q _=>cI (fun a=>cI (fun b=>cN (0<=a/\0<=b/\Q (.int (Cv a b)) H))) vs
def i9q:Sp:=fun vs H Q _=>cI (fun m=>cN ((∀ (y:Rat),YOk y->Q (.str (fW y)) H))) vs
def i9r:Sp:=fun vs H Q _=>cI (fun c=>cN ((∀ (d:Dt) H1,d.ok->d.kd≠4->Few d->Same H H1->Q (.str d.word) H1))) vs
def Gd(ts bu bs:List Str)(es:List Sq):Prop:=(∀ z,z∈bs ↔ z∈bu)/\bs.Nodup/\bs.length=bu.length/\es.length<=6/\∀ e∈es,h8p e/\(e.1∈ts\/e.1∈bs)/\e.2.1∈bs/\(ts++bu).idxOf e.1 < (ts++bu).idxOf e.2.1
def Nms(ts bu:List Str):Prop:=(∀ z∈ts++bu,f0r z)/\(ts++bu).Nodup/\1<=ts.length/\ts.length<=3/\1<=bu.length/\bu.length<=4
def i3f(A:Ad)(K:Bw):Sp:=fun vs H Q _=>cR (fun sc=>cR (fun nl=>cI (fun nt=>cN (∃ (ns:List Int) (ts bu:List Str),nt=(ts.length:Int)/\SqL K H sc (ns.map V.int)/\(∀ k,intBits (ns.getD k 0)<=1100000)/\H nl=some (.lst ((ts++bu).map V.str))/\Nms ts bu/\(∀ o bs es H1,Same H H1->c1p A H1 (fun a=>H a=none) o ⟨ts,bs,es.map f8t,[]⟩->Gd ts bu bs es->Q (.ref o) H1))))) vs
noncomputable def obL(bs:List Str)(es:List Sq):List Str:=c9v bs (prs (es.map f8t)) bs.length
def Rws(H:Hp)(ras:List Addr)(rows:List (List Int)):Prop:=ras.length=rows.length/\∀ (i:Nat) a r,ras[i]? = some a->rows[i]? = some r->H a=some (.lst (r.map V.int))
def k2l (A : Ad) : Sp := fun vs H Q _ => cR (fun po => cR (fun nl => cR (fun rl => cN (∃ (ts bu bs : List Str) (es : List Sq) (N : Addr -> Prop) (rows : List (List Int)) (ras : List Addr) (n : Nat), c1p A H N po ⟨ts, bs, es.map f8t, []⟩ /\ Gd ts bu bs es /\ Nms ts bu /\ H nl = some (.lst ((ts ++ bu).map V.str)) /\ H rl = some (.lst (ras.map V.ref)) /\ Rws H ras rows /\ rows.length = ts.length /\ (∀ r ∈ rows, h8q r /\ r.length = n) /\ n <= 1000 /\
   (∀ d kf H1,d3l A H H1->H1 d=some (.dK kf)->kf.map (·.1)=(ts++obL bs es).map kT->Flo (FrN A H) H1 kf (ts++obL bs es) (d3i es (obL bs es)) (flw es (d3i es (obL bs es)) n (fdF ts rows n) (obL bs es))->Q (.ref d) H1))))) vs
def j6w:Sp:=fun vs H Q _=>cR (fun f=>cR (fun o=>cR (fun t=>cI (fun a=>cI (fun b=>cN (∃ (l1 l2 l3:Addr) (F G R:List Int) (g:Int) (n:Nat),H f=some (.tup [.ref l3,.int g])/\H l3=some (.lst (R.map V.int))/\H o=some (.tup [.ref l1,.int g])/\H l1=some (.lst (F.map V.int))/\H t=some (.tup [.ref l2,.int g])/\H l2=some (.lst (G.map V.int))/\Lin n a b F G R/\n<=1000/\intBits a<=20/\intBits b<=20/\intBits g<=8000/\(∀ y∈F,intBits y<=80000)/\(∀ y∈G,intBits y<=80000)/\(∀ y∈R,intBits y<=80000)/\Q (.bl true) H)))))) vs
noncomputable def nmT:List Str:=[B0 "dry",B0 "wet",B0 "x"]
noncomputable def nmB:List Str:=[B0 "mix",B0 "left",B0 "y",B0 "room"]
noncomputable def rwA(tn:List Int)(n k:Nat):List Int:=(tn.drop (k*n)).take n
noncomputable def h0k(a b:Int)(F G:List Int):List Int:=Fi (fun x y=>a*x+b*y) F G
local macro_rules | `(tactic| walk_at $s:str)=>do
 unless ["rd","rd*","rs","rs*","rf","rf*"].contains s.getString do Hn
 let mut ls:Array (Lean.TSyntax [`Lean.Parser.Tactic.simpStar,`Lean.Parser.Tactic.simpErase,`Lean.Parser.Tactic.simpLemma]) := #[]
 if s.getString.endsWith "*" then
  let y <- `(Lean.Parser.Tactic.simpStar| *)
  ls:=ls.push ⟨y.raw⟩
 for n in "j5x k1s k1t j5y k1u i9f j5z k1v j6a j6b i2t i9g i2u k1x i9h h8m j6c k1y i9i i2v i2w j6d i2x i9j i2y i9k j6f i3a h8o g5f f5l i3b j6g h0j j6h i3c j6i f5m j6j g5g spRG spRN spRM spCC j6k spRC j6l k1z i9m j6m k2a spFW spCW i0q k2b i3d k2c spPI k2d k2e k2f j6n i3e j6o i9n j6p k2g i9p j6r k2i k2j k2k j6s j6t j6u j6v i9q i9r i3f k2l j6w j4a iStr rSlA k0d k0f tFmt k0g j4b k0h j4c j8n tSl3R rSlR h7d h0c i5i j4z h7c i2f i8h k0u k0t j4q rSlG k0k i5d gSub rSetM j4v rIxD rNiD k0s j4s j8n j4n tSl3 rSl3 j5c i8j j4r j4t i5d qSeq qRet qRetN qNext qAsg qDrop h6g i7h j8o a8r h6h k4e j4e j4k rIsI k0j j4l i5b j4m qR qI qS qB qV qN j9c i4k b9n tC g2u tOp tUn j8k j8j j1v i6e tCB i6n f7v j3d j3e i0z j9b tOr k3d tBF j3p tOrF j3q i6f tIf j3c i6z i4s i4t k3s g3m tSl h5i h6c rIF i7b rUF j3f j3g j0x j0y j3j rSlM h5x j3s j3t j3r k3l k3t k3u k3v j3u rSumF j3x k0a k0b j9z i4v k3w k3x k3y k3z j1w j3z k4a k4c k4d hAs _root_.L2.start".splitOn " " do
  let i:=Lean.mkIdent n.toName
  let y <- `(Lean.Parser.Tactic.simpLemma| ↓$i:ident)
  ls:=ls.push ⟨y.raw⟩
 for n in "noxK Bool.bne_false Bool.bne_true noxK noxK asNew lookup_same d9i j4f j0z j8p List.lookup_nil nqS String.reduceBEq k3o k3p k3q k3r h5z h5w Ty.nm k3f k3n j3k j3l j3m j3n i4r i7a List.map_cons List.map_nil List.length_cons List.length_nil List.length_map List.replicate List.cons_append List.nil_append List.append_nil List.getElem?_cons_zero List.getElem?_cons_succ List.set_cons_zero List.set_cons_succ Option.some.injEq exists_eq_left' exists_eq_left exists_and_left V.int.injEq V.bl.injEq V.str.injEq V.ref.injEq V.ty.injEq Value.ref.injEq List.cons.injEq HO.lst.injEq HO.tup.injEq Int.zero_add List.length_append and_true true_and j9r j9s j9t j9u j9v two_line if_true reduceCtorEq if_false Bool.false_eq_true decide_eq_true_eq decide_eq_false_iff_not decide_true decide_false Bool.or_true Bool.true_or Bool.or_false Bool.false_or Bool.and_true Bool.true_and Bool.and_false Bool.false_and or_false false_or Nat.zero_add Nat.reduceAdd Nat.reduceSub exists_const false_and and_false Bool.not_true Bool.not_false Bool.not_eq_true' ne_eq not_true_eq_false not_false_eq_true Int.reduceEq Int.reduceNe Int.reduceLT Int.reduceLE Int.reducePow Int.reduceMul Int.reduceAdd Int.reduceSub Int.reduceNeg Int.reduceToNat Nat.reducePow Nat.reduceLT Nat.reduceLeDiff".splitOn " " do
  let i:=Lean.mkIdent n.toName
  let y <- `(Lean.Parser.Tactic.simpLemma| $i:ident)
  ls:=ls.push ⟨y.raw⟩
 let p <- `(tactic| simp (config:={ maxSteps:=1000000,dsimp:=false }) only [$ls,*])
 if s.getString.startsWith "rd" then return p
 let a:=He `zN
 let b:=He `zh
 let c:=He `zV
 let d:=He `zv
 let q ← `(tactic| first | (with_reducible refine nxGo $b ?_; try clear $b; try clear $a) | (with_reducible refine k0v $d ?_; try clear $d; try clear $c) | (with_reducible refine seqN fun $a $b=>?_))
 let f ← if s.getString.startsWith "rf" then `(tactic| walk_at "f") else `(tactic| fail)
 let q <- `(tactic| first | $q:tactic | $f:tactic | $p:tactic)
 `(tactic| $q:tactic; repeat $q:tactic)
local macro_rules | `(tactic| walk_at $s:str)=>do
 unless s.getString.startsWith "@" do Hn
 let z:=He `z
 let zr:=He `zr
 let w:=s.getString.splitOn "@"
 let e:=(w.getD 1 "").splitOn " "
 let mut b <- `(?_)
 let sg:=(w.drop 2).reverse
 for (g,k) in sg.zip (Cz sg.length) do
  let mut xs:=((g.drop 1).toString.splitOn " ").toArray.map fun n=>Lean.mkIdent (if n == "rfl" then `zr else if n == "_" then `y_ else n.toName)
  if k > 0 then xs:=xs.push z
  let f:=Lean.mkIdent ("o"++(g.take 1).toString++toString (if g.startsWith "c" then xs.size else xs.size - 1)).toName
  let mut a:Lean.TSyntax `term:=z
  if k+1 == sg.length then
   a:=He (e.getD 0 "").toName
   for n in e.drop 1 do
    let i : Lean.TSyntax `term ← if n == "_" then `(_) else pure (Lean.mkIdent n.toName)
    a <- `($a $i)
  b <- `($f $a fun $xs* => $b)
 `(tactic| (refine $b; (repeat clear $z); (repeat subst $zr)))
local macro_rules | `(tactic| walk_at $s:str)=>do
 let tb <- match s.getString with
  | "e"=>pure "ev_c: k4j:r ev_op:eee ev_cb:ee k4k: k0w:ee k4l:eaaal k0x:eeaa k0y:eea k0z:ee ev_un:e et_b:e k4y:e k1d:eb k1e:ebe k5a:ebe k4z:eb k4n:ebe k4m:ebe eo_no: eo_p:e er_i0: er_i:a k4q: k4r:a er_eq:r er_ne:r k4s:al k4t:al k4u:abb k1a:an k1b:an k1c:a k4v: k4w: k4x: el_is:ry"
  | "l"=>pure "lookup_same: lk_no:ql k4o: k4p:ql j3k: j3l: j3m: j3n:"
  | "y"=>pure "k3o: k3p: k3q: k3r: ty_l:a ty_t:a ty_d:a"
  | "f"=>pure "k1k: k1j: k5h:eb k5g:eb st_if:e k5e:e st_g:e k5f: k5i:e k1i: k1l: k1m:eee k5j:eeaaar k5k:e gn_at: at_e:e at_op:ee at_cb:e k1f:e k5b:e k5c:e at_bm:ebe k5d:eb k1g:eale k1h:e at_sl:eee at_dg:ee"
  | _=>Hn
 let mut q <- `(tactic| with_reducible assumption)
 if s.getString == "f" then q ← `(tactic| dsimp only [_root_.L2.start, Es, N6, Cq, Jb, Nat.reduceAdd, Nat.reduceSub, D0, Fd, Ex, Jc, List.set_cons_succ, List.set_cons_zero])
 for n in tb.splitOn " " do
  let ab:=n.splitOn ":"
  let i:=Lean.mkIdent ab.head!.toName
  let mut r <- `(tactic| with_reducible apply $i)
  for c in ab.getLast!.toList do
   let k:=Lean.Syntax.mkStrLit c.toString
   r ← `(tactic| ($r:tactic; (· walk_at $k:str)))
  q <- `(tactic| first | $q:tactic | $r:tactic)
 return q
local macro_rules
 | `(tactic| walk_at "a") => `(tactic| with_reducible assumption)
 | `(tactic| walk_at "r") => `(tactic| exact rfl)
 | `(tactic| walk_at "q") => `(tactic| exact nq_no (by decide))
 | `(tactic| walk_at "n") => `(tactic| ((try simp only [Cq, Jb, Bv, C1]); exact rfl))
 | `(tactic| walk_at "b") => `(tactic| first | with_reducible rfl | (walk_at "rd*"; done))
theorem h0l{l r:Int}(hl:0<=l)(hr:0 < r):Cv r (l.fmod r)=Cv l r:=by
 rw [Iv _ (by lia)]
 obtain⟨x,rfl⟩:=Hc hl
 obtain⟨y,rfl⟩:=Hc (by lia:0<=r)
 rw [<- Int.natCast_emod,Jg,Jg,Nat.gcd_comm x y,Nat.gcd_rec y x,Nat.gcd_comm]
theorem h8r{l r:Int}(hl:0<=l)(hr:0 < r):0<=l.fmod r/\l.fmod r < r:=by
 rw [Iv _ (by lia)]
 exact⟨Qq _ (by lia),Pq _ hr⟩
theorem b6p(a:Int){b:Int}(hb:0 < b):0<=a.fmod b/\a.fmod b < b:=by
 rw [Iv _ (by lia)]
 exact⟨Qq _ (by lia),Pq _ hb⟩
theorem h8s(a b:Int):Cv (a.natAbs:Int) (b.natAbs:Int)=Cv a b:=by
 rw [Jg]; rfl
theorem gcd_zero{l:Int}(hl:0<=l):((Cv l 0:Nat):Int)=l:=by
 rw [Int.gcd_zero_right]; lia
theorem j6x(a b:Int):(a.natAbs:Int).fdiv (Cv a b:Int)*(b.natAbs:Int)=(K7 a b:Int):=by
 rw [Iw _ (Int.natCast_nonneg _),<- Qh,<- Fj]
 congr 1
 show a.natAbs / Py a.natAbs b.natAbs*b.natAbs=Px a.natAbs b.natAbs
 unfold Px
 exact Nat.div_mul_right_comm (Qc _ _) _
theorem lcm_zero{a b:Int}(h:a=0\/b=0):K7 a b=0:=by
 rcases h with rfl | rfl
 .exact Int.lcm_zero_left _
 .exact Int.lcm_zero_right _
variable {n:Nat}
theorem h0m{a b:Int}(h:a≠0)(ha:intBits a<=n):intBits (Cv a b:Int)<=n:=by
 refine Ki ?_ ha
 rw [Hb]
 exact Nat.le_of_dvd (by lia) (Qc _ _)
theorem c8z{a g:Int}(hg:0 < g)(h:g∣a):(a.fdiv g).natAbs=a.natAbs / g.natAbs:=by
 rw [Iw _ (by omega)]
 obtain⟨k,rfl⟩:=h
 rw [Fm _ (by omega),Hi,Nat.mul_div_cancel_left _ (by omega)]
theorem i3g{a b:Int}(h:¬ (a=0/\b=0)):((Cv (a.fdiv (Cv a b:Int)) (b.fdiv (Cv a b:Int)):Nat):Int)=1:=by
 have hp:0 < Cv a b:=by
  rw [Int.gcd_pos_iff]
  lia
 have e:Cv (a.fdiv (Cv a b:Int)) (b.fdiv (Cv a b:Int))=1:=by
  show Py _ _=1
  rw [c8z (by lia) (Lq a b),c8z (by lia) (J5 a b),Hb]
  exact Nat.coprime_div_gcd_div_gcd hp
 rw [e]
 rfl
theorem j6y{t b:Int}(hb:b≠0):t.fdiv (if b < 0 then -(Cv t b:Int) else (Cv t b:Int))=(Gh t b).num:=by
 rw [Qr,Nr b t]
 have hp:0 < Cv t b:=G4 t hb
 obtain⟨k,hk⟩:(Cv t b:Int)∣t:=Lq t b
 generalize hg:(Cv t b:Int)=g at *
 have hg0:0 < g:=by lia
 by_cases h:b < 0
 .rw [if_pos h,Int.sign_eq_neg_one_of_neg h,hk]
  rw [show g*k=(-g)*(-k) by grind,Eh _ (by lia),show -1*(-g * -k)=g*(-k) by grind,Fm _ (by lia)]
 .rw [if_neg h,Int.sign_eq_one_of_pos (by lia),hk,Eh _ (by lia),Hz,Fm _ (by lia)]
theorem j6z{t b:Int}(hb:b≠0):b.fdiv (if b < 0 then -(Cv t b:Int) else (Cv t b:Int))=((Gh t b).den:Int):=by
 rw [Qs,if_neg hb,Nr b t]
 have hp:0 < Cv t b:=G4 t hb
 obtain⟨k,hk⟩:(Cv t b:Int)∣b:=J5 t b
 rw [Qh]
 generalize hg:(Cv t b:Int)=g at *
 have hg0:0 < g:=by lia
 by_cases h:b < 0
 .have e:((b.natAbs:Nat):Int) = -b:=by lia
  rw [if_pos h,e,hk,show g*k=(-g)*(-k) by grind,Eh _ (by lia),show -(-g * -k)=g*(-k) by grind,Fm _ (by lia)]
 .have e:((b.natAbs:Nat):Int)=b:=by lia
  rw [if_neg h,e,hk,Eh _ (by lia),Fm _ (by lia)]
theorem h0n(q r:Rat):Gh (q.num*(r.den:Int)+r.num*(q.den:Int)) ((q.den:Int)*(r.den:Int))=q+r:=by
 conv=>rhs; rw [<- Gy q,<- Gy r]
 rw [Rat.divInt_add_divInt _ _ (by have:=q.den_pos; lia) (by have:=r.den_pos; lia)]
theorem g5h(q r:Rat):Gh (q.num*r.num) ((q.den:Int)*(r.den:Int))=q*r:=by
 conv=>rhs; rw [<- Gy q,<- Gy r]
 rw [Rat.divInt_mul_divInt]
theorem neg_num(q:Rat):(-q).num = -q.num:=rfl
theorem neg_den(q:Rat):(-q).den=q.den:=rfl
theorem j7a{t b:Int}(hb:b≠0):(Gh t b).num.natAbs<=t.natAbs:=by
 rw [Qr]
 have e:(b.sign*t).natAbs=t.natAbs:=by
  rw [Hi,Int.natAbs_sign_of_ne_zero hb,Nat.one_mul]
 rw [<- e]
 exact Int.natAbs_ediv_le_natAbs _ _
theorem j7b{t b:Int}(hb:b≠0):(Gh t b).den<=b.natAbs:=by
 rw [Qs,if_neg hb]
 exact Jo _ _
theorem f8v(T:Tx K mg A):a1j P A.wd K mg base CX0 1 A.b9w A.b7g ["one","other"] j5x:=by
 refine T.c6n.ok c1t (fun _ _ _ _ h=>h7l h) (fun cdv A' outer s H vs Q E hr h=>?_)
 .walk_at"h"
  walk_at"@k1o h@ea b@czE q"
  walk_at"g"
  have q:Q (.int (Cv a b)) H:=q
  have hu:=hr.units
  refine⟨_,(a0h (a1t 2 c1t.nd (a3p c2k T.g8m Kk (a0g (pvF 0) a0i)))
   (a0h (a1t 3 c1t.nd (a3p c2k T.g8m Kk (a0g (pvF 1) a0i)))
   (a0h (d0g Ck (a3n (onT K hu) (pvF 3) a0j)
   (a0h (a1t 4 c1t.nd (a0t a8q (pvF 2) (pvF 3)))
   (a0h (a1t 2 c1t.nd (pvF 3))
   (a0k (a1t 3 c1t.nd (pvF 4))))))
   (a0k (a0w (pvF 2)))))),?_⟩
  clear hu
  walk_at"rd"
  refine d0h (fun m O H1=>∃ l r z,O = [some (.int a),some (.int b),some (.int l),some (.int r),z]/\H1=H/\0<=l/\0<=r/\m=r.toNat/\Cv l r=Cv a b) _
   ⟨_,_,_,rfl,rfl,by lia,by lia,rfl,h8s a b⟩ ?_
  rintro m O H1 ⟨l,r,z,rfl,rfl,hl,hr',rfl,hg⟩
  walk_at"rd"
  split
  .rename_i h
   have hp:0 < r:=by lia
   have f:=h8r hl hp
   exact⟨h,_,(by lia:(l.fmod r).toNat < r.toNat),_,_,_,⟨rfl,rfl,rfl⟩,hr',f.1,rfl,(h0l hl hp).trans hg⟩
  .rename_i h
   obtain rfl:r=0:=by lia
   rw [<- hg,gcd_zero hl] at q
   exact q
theorem g8p(T:Tx K mg A):a1j P A.wd K mg base CX0 2 A.b7h A.b7i ["one","other"] k1s:=by
 have f5n:a1j P A.wd K mg base CX0 1 A.b9w A.b7g ["one","other"] j5x:=f8v T
 refine T.c6o.ok g7k (fun _ _ _ _ h=>h7l h) (fun cdv A' outer s H vs Q E hr h=>?_)
 .walk_at"h"
  walk_at"@k1o h@ea b@czE ha hb q"
  walk_at"g"
  have hu:=hr.units
  refine⟨_,(a0h (a5j (pw_or (a3n (oeT K hu) (pvF 0) a0j) (pw_or1 (a3n (oeT K hu) (pvF 1) a0j))).pt
   (a0k (a0w a0j))
   a1u)
   (a0k (a0w (a0t a2l (a0t a7t (a3p c2k T.g8m Kk (a0g (pvF 0) a0i)) (a2m f5n hr.dn T.g4u T.c6n.kp T.g4t (a0g (pvF 0) (a0g (pvF 1) a0i)))) (a3p c2k T.g8m Kk (a0g (pvF 1) a0i)))))),?_⟩
  clear hu
  walk_at"rd"
  split
  .rename_i h
   rw [lcm_zero h] at q
   exact q
  .rename_i h
   simp only [not_or] at h
   have hg:=h0m (b:=b) h.1 ha
   have hn:(Cv a b:Int)≠0:=by
    have:=Int.gcd_pos_of_ne_zero_left b h.1
    omega
   refine⟨⟨hn,Bz hg (by decide)⟩,?_,?_⟩
   .exact Dr (Fo (Rn ha)) (Rn hb) (by decide)
   .rw [j6x]
    exact q
theorem h0o{t b:Int}(hb:b≠0)(h:intBits t<=n):intBits (Gh t b).num<=n:=Ki (j7a hb) h
theorem h0p{t b:Int}(hb:b≠0)(h:intBits b<=n):intBits ((Gh t b).den:Int)<=n:=by
 refine Ki ?_ h
 rw [Hb]
 exact j7b hb
theorem f5o(T:Tx K mg A):a1j P A.wd K mg base CX0 1 A.b6v A.b6w ["value"] k1t:=by
 refine T.b8p.ok g7i (fun _ _ _ _ h=>k1n h) (fun cdv A' outer s H vs Q E hr h=>?_)
 .walk_at"h"
  obtain⟨i,zE,q⟩:=j8q h
  walk_at"g"
  have hu:=hr.units
  refine⟨_,(a0k (a0w (g6w (a3p (c3v .int) T.a7r Fp (a0g (pvF 0) (a0g (c9w (v:=.ty "int") (u:=.type "int") (by rfl) T.h8j rfl rfl) a0i))) (h4p (i7d (a3p (c3v .bl) T.a7r Fp (a0g (pvF 0) (a0g (c9w (v:=.ty "bool") (u:=.type "bool") (by rfl) T.j5u rfl rfl) a0i)))))))),?_⟩
  clear hu
  walk_at"rf"
  exact q
theorem d4w(T:Tx K mg A):a1j P A.wd K mg base CX0 2 A.b7j A.b7k ["top","bottom"] j5y:=by
 have d3j:a1j P A.wd K mg base CX0 1 _ _ _ _:=f5o T
 have f5n:a1j P A.wd K mg base CX0 1 _ _ _ _:=f8v T
 refine T.b8q.ok d4j (fun _ _ _ _ h=>h7l h) (fun cdv A' outer s H vs Q E hr h=>?_)
 .walk_at"h"
  walk_at"@k1o h@et b@czE hb h1 h2 k"
  walk_at"g"
  have hu:=hr.units
  have f5p:b2u 1 _:=hr.dn
  refine⟨_,(a0h (a5j (pw_or (c9k (b3l (a2m d3j f5p T.d8o T.b8p.kp T.d8n (a0g (pvF 0) a0i)))) (pw_or1 (c9k (b3l (a2m d3j f5p T.d8o T.b8p.kp T.d8n (a0g (pvF 1) a0i)))))).pt
   (a0k a2r)
   a1u)
   (a0h (a5j (a3n (oeT K hu) (pvF 1) a0j)
   (a0k a2r)
   a1u)
   (a0h (a1t 2 d4j.nd (a2m f5n hr.dn T.g4u T.c6n.kp T.g4t (a0g (pvF 0) (a0g (pvF 1) a0i))))
   (a7u (a5j (a3n of_lt (pvF 1) a0j)
   (a0k (a1t 2 d4j.nd (i6h h6b (pvF 2))))
   a1u)
   (a0k (a0w (a6z (a0g (a0t a7t (pvF 0) (pvF 2)) (a0g (a0t a7t (pvF 1) (pvF 2)) a0i))))))))),?_⟩
  clear hu
  walk_at"rd"
  rw [if_neg hb]
  refine⟨fun Aa H'=>Aa = [some (.int t),some (.int b),some (.int (if b < 0 then -(Cv t b:Int) else (Cv t b:Int)))]/\H'=H,?_,?_⟩
  .walk_at"rd"
   split
   .rfl
   .rfl
  .rintro Aa H' ⟨rfl,rfl⟩
   have hg:intBits (Cv t b:Int)<=4000:=by
    rw [Nr]
    exact h0m hb h2
   have hp:0 < Cv t b:=G4 t hb
   have hc:CFd t (if b < 0 then -(Cv t b:Int) else (Cv t b:Int)):=by
    split
    .exact⟨by omega,Bz (Kh hg) (by decide)⟩
    .exact⟨by omega,Bz hg (by decide)⟩
   walk_at"rd"
   refine⟨hc,hc,fun p H1 n1 S1 h1=>k _ _ ⟨p,rfl,n1,S1,?_⟩⟩
   rw [h1,j6y hb,j6z hb]
   rfl
theorem g5i(h:n < 10 ^ 9):n.log2 < 1920:=by
 rcases Ha n with z | z
 .rw [z]; decide
 .rw [Oh (by lia)]
  exact Cr h (Bz (by decide:10 ^ 9<=2 ^ 30) (Ej (by decide) (by decide)))
theorem f8w{t:Int}(h:t.natAbs < 10 ^ 9):intBits t<=4000:=by
 refine Bz (D8.mpr (Cr h (by decide:10 ^ 9<=2 ^ 30))) (by decide)
theorem f8y(T:Tx K mg A):a1j P A.wd K mg base CX0 1 A.b0l A.b1k ["text"] k1u:=by
 refine T.b5p.ok d6l (fun _ _ _ _ h=>i5m h) (fun cdv A' outer s H vs Q E hr h=>?_)
 .walk_at"h"
  obtain⟨x,zE,q⟩:=j8r h
  walk_at"g"
  have q:Q (.bl (h6k (sg x))) H:=q
  have hu:=hr.units
  refine⟨_,(a0h (a3s Ck rfl (i4w (pvF 0)) (b2r 1 d6l.nd)
   (a0k (a5j (a3n d0j (pvF 1) (a6y (v:=.str "0123456789") (by rfl) T.h3j T.d8h))
   (a0k (a0w f0v))
   a1u)))
   (a0k (a0w (g6o (onT K hu) (pvF 0) a2p (h5a _))))),?_⟩
  clear hu
  walk_at"rf"
  refine i1r (fun i O H1=>H1=H/\(∃ z,O = [some (.str x),z])/\((sg x).take i).all (fun c=>decide (48<=c) && decide (c<=57))=true) ⟨rfl,⟨_,rfl⟩,rfl⟩ ?_ ?_
  .rintro i c O H1 hc ⟨rfl,⟨z,rfl⟩,ha⟩
   walk_at"rf"
   have hc':(sg x)[i]? = some c:=by
    unfold sg
    rw [G5]
    exact hc
   rw [i7n]
   split
   .rename_i hb
    have:h6k (sg x)=false:=by
     unfold h6k
     rw [show (sg x).all (fun c=>decide (48<=c) && decide (c<=57))=false from ?_,Mb]
     rw [Pp]
     exact⟨c,Ca hc',by rw [hb]; decide⟩
    rw [this] at q
    exact q
   .rename_i hb
    refine⟨⟨_,rfl⟩,?_⟩
    rw [Cu,hc',Qg,ha]
    simpa using hb
  .rintro O H1 ⟨rfl,⟨z,rfl⟩,ha⟩
   walk_at"rf"
   have hl:x.cps.size=(sg x).length:=by simp
   rw [hl,Dg] at ha
   have e:h6k (sg x) = !decide (x=B0 ""):=by
    unfold h6k
    rw [ha,Kb]
    congr 1
    rw [Gv,decide_eq_true_eq,List.isEmpty_iff]
    exact⟨fun h=>c3z (h.trans (by decide +kernel)),fun h=>by rw [h]; decide +kernel⟩
   rw [e] at q
   exact q
theorem i3h(T:Tx K mg A):a1j P A.wd K mg base CX0 1 A.a3y A.a4k ["one"] i9f:=by
 refine T.a2u.ok a5w (fun _ _ _ _ h=>d3p h) (fun cdv A' outer s H vs Q E hr h=>?_)
 .walk_at"h"
  walk_at"@g7g h@ep@czE@et b@chp l1 l2 q"
  walk_at"g"
  have hu:=hr.units
  refine⟨_,(a0h (a1t 1 a5w.nd (a0v a2s (pvF 0) a0j))
   (a0h (a1t 2 a5w.nd (a0v a2s (pvF 0) a0j))
   (a0k (a0w (b9q (a4i (c3w (pvF 1)) (a4i a2p (a4i (c3w (pvF 2)) d9h)))))))),?_⟩
  clear hu
  walk_at"rf*"
  have e0:Str.empty.length=0:=rfl
  have e1:(B0 "/").length=1:=by decide +kernel
  have e2:(B0 (toString t)).length=(txt t).length:=by rw [<- d0k,c9m]
  have e3:(B0 (toString b)).length=(txt b).length:=by rw [<- d0k,c9m]
  have f2:=g6y t
  have f3:=g6y b
  have hs:=szl
  simp only [E6,e0,e1,e2,e3]
  refine⟨by lia,by lia,by lia,by lia,q _ ?_⟩
  rw [a3k,a3k,a3k,c9m,c9m]
  unfold i1t
  have e4:sg F6 = []:=rfl
  have e5:sg (B0 "/") = [47]:=by decide +kernel
  rw [e4,e5]
  simp
theorem i9s(T:Tx K mg A):a1j P A.wd K mg base CX0 3 A.a5l A.a5y ["text"] j5z:=by
 have d2l:a1j P A.wd K mg base CX0 1 _ _ _ _:=f8y T
 have a3m:a1j P A.wd K mg base CX0 1 _ _ _ _:=i3h T
 have c6w:a1j P A.wd K mg base CX0 2 _ _ _ _:=d4w T
 refine T.b0r.ok a8t (fun _ _ _ _ h=>i5m h) (fun cdv A' outer s H vs Q E hr h=>?_)
 .walk_at"h"
  walk_at"@j8r h@ex@czE@et b@cg k"
  walk_at"g"
  have hu:=hr.units
  obtain⟨hx,hb,hg,l1,l2⟩:=g
  have hb0:b≠0:=by lia
  have tb:txt b=dg b.natAbs:=if_neg (by lia)
  have sl:B0 "/" = ⟨#[47]⟩:=by decide +kernel
  have mi:B0 "-" = ⟨#[45]⟩:=by decide +kernel
  have sp:=i1s (x:=x) (c:=47) (by decide) hx (d3o (by decide) (by decide)) (d3o (by decide) (by decide))
  have hs:=szl
  have q1:=j4i t
  have xl:x.length=(txt t).length+((txt b).length+1):=by rw [<- d0k,hx]; simp [i1t]
  rw [tb] at xl
  obtain⟨h0,e0⟩:∃ h0:Str,h0 = ⟨(txt t).toArray⟩:=⟨_,rfl⟩
  obtain⟨h1,e1⟩:∃ h1:Str,h1 = ⟨(txt b).toArray⟩:=⟨_,rfl⟩
  have s0:sg h0=txt t:=by rw [e0]
  have s1:sg h1=txt b:=by rw [e1]
  have n0:h0.length=(txt t).length:=by rw [<- d0k,s0]
  have n1:h1.length=(txt b).length:=by rw [<- d0k,s1]
  rw [<- e0,<- e1] at sp
  have sw:=j4j s0
  have i0:=d7g s0 (by lia)
  have i1:=d7g s1 (by rw [tb] at n1; lia)
  have r0:Gh t b = ⟨t,b.toNat,by lia,by
   show Py t.natAbs b.toNat=1
   rw [<- hg]
   unfold Cv
   congr 1
   lia⟩:=by
   rw [Rat.mk_eq_divInt]
   congr 1
   lia
  refine⟨_,(a0h (a5j (c9k (b3l (a3p (c3v .str) T.a7r Fp (a0g (pvF 0) (a0g (c9w (v:=.ty "str") (u:=.type "str") (by rfl) T.f5h rfl rfl) a0i)))))
   (a0k a2r)
   a1u)
   (a0h (a1t 1 a8t.nd (b5r c2l Em El Gz f1n (pvF 0) (a0g a2p a0i)))
   (a0h (a5j (a3n (onT K hu) (a3p a1q T.b0w Dq (a0g (pvF 1) a0i)) a0j)
   (a0k a2r)
   a1u)
   (a7u (a1t 2 a8t.nd (f9n (b3l (b5r c2l Em Hy Lf d5m (a0v a2s (pvF 1) a0j) (a0g a2p a0i))) (a3z g3s (a0v a2s (pvF 1) a0j) (a3j a0j) b0j) (a0v a2s (pvF 1) a0j)))
   (a0h (a3s Ck rfl (piT K (a4q (a0g (pvF 2) (a0g (a0v a2s (pvF 1) a0j) a0i)))) (b2r 3 a8t.nd)
   (a0k (a5j (pw_or (c9k (b3l (a2m d2l hr.dn T.f0j T.b5p.kp T.f0i (a0g (pvF 3) a0i)))) (pw_or1 (a3n f9v (a3p a1q T.b0w Dq (a0g (pvF 3) a0i)) (a6y (v:=.int 9) (by rfl) T.c9t T.b0h)))).pt
   (a0k a2r)
   a1u)))
   (a0h (a5j (a3n (oeT K hu) (a2o d5n (by rfl) T.h8j Qa (a0g (a0v a2s (pvF 1) a0j) a0i)) a0j)
   (a0k a2r)
   a1u)
   (a0h (a1t 4 a8t.nd (a2m c6w hr.dn T.d8q T.b8q.kp T.d8p (a0g (a2o d5n (by rfl) T.h8j Qa (a0g (a0v a2s (pvF 1) a0j) a0i)) (a0g (a2o d5n (by rfl) T.h8j Qa (a0g (a0v a2s (pvF 1) a0j) a0i)) a0i))))
   (a0h (a5j (a3n (onT K hu) (a2m a3m hr.dn T.b0v T.a2u.kp T.b0u (a0g (pvF 4) a0i)) (pvF 0))
   (a0k a2r)
   a1u)
   (a0k (a0w (pvF 4))))))))))),?_⟩
  clear hu
  rw [sl,mi]
  have hx':id (sg x=i1t t b):=hx
  clear e0 e1 hx sl mi
  have d1:((⟨#[47]⟩:Str).length == 0)=false:=rfl
  have d2:x.length<=Cb:=by lia
  have d3:2<=Cb:=by lia
  have d4:h0.length<=Cb:=by lia
  have d5:h1.length<=Cb:=by rw [tb] at n1; lia
  have N0:h0.length<=10:=by lia
  have N1:h1.length<=9:=by rw [tb] at n1; lia
  clear xl n0 n1 q1 hs
  walk_at"rf*"
  intro p H1 n1' S1 h1'
  walk_at"rf*"
  rw [if_neg (by decide)]
  walk_at"rf"
  refine⟨fun Aa H'=>∃ top:Str,sg top=dg t.natAbs/\Aa = [some (.str x),some (.ref p),some (.str top),none,none]/\H'=H1,?_,?_⟩
  .walk_at"rf*"
   split
   .rename_i ht
    have z:=i7o (x:=h0) (i:=1) (by
     rw [<- d0k,s0]
     unfold txt
     rw [if_pos ht]
     simp)
    rw [show ((1:Nat):Int)=1 from rfl] at z
    refine⟨_,?_,rfl⟩
    rw [z,s0]
    unfold txt
    rw [if_pos ht]
    rfl
   .rename_i ht
    refine⟨_,?_,rfl⟩
    rw [s0]
    unfold txt
    rw [if_neg ht]
  .rintro Aa H' ⟨top,st,rfl,rfl⟩
   walk_at"rd*"
   intro q H2 n2 S2 h2
   walk_at"rd*"
   have hp2:=S2 _ _ h1'
   refine⟨⟨_,SqL.of h2⟩,?_⟩
   have f0:h6k (sg top)=true:=by rw [st]; exact f9y.mpr ⟨d3n _,h6j _⟩
   have f1:h6k (sg h1)=true:=by rw [s1,tb]; exact f9y.mpr ⟨d3n _,h6j _⟩
   have m0:top.length<=9:=by rw [<- d0k,st]; exact l1
   have m1:top.length<=Cb:=Bz m0 (by decide)
   refine a5k (xs:=[.str top,.str h1]) (fun i O H'=>H'=H2/\∃ z,O = [some (.str x),some (.ref p),some (.str top),z,none]) ⟨rfl,_,rfl⟩ (fun i O H' _ h=>by rw [h.1]; exact SqL.of h2) ?_ ?_
   .rintro i v O H' hv ⟨rfl,z,rfl⟩
    match i,hv with
    | 0,hv =>
     cases hv
     walk_at"rd*"
     rw [st] at f0
     rw [f0,if_neg (by simp; lia)]
     exact⟨_,rfl⟩
    | 1,hv =>
     cases hv
     walk_at"rd*"
     rw [s1,tb] at f1
     rw [f1,if_neg (by simp; lia)]
     exact⟨_,rfl⟩
    | i+2,hv=>cases hv
   .rintro O H' ⟨rfl,z,rfl⟩
    walk_at"rd*"
    have v1:t.natAbs < 10 ^ 9:=by
     have:=i4z (d3n t.natAbs)
     rw [g9v] at this
     exact Cr this (Ej (by decide) l1)
    have v2:b.natAbs < 10 ^ 9:=by
     have:=i4z (d3n b.natAbs)
     rw [g9v] at this
     exact Cr this (Ej (by decide) l2)
    have g1:t.natAbs.log2 < 1920:=g5i v1
    have g2:b.natAbs.log2 < 1920:=g5i v2
    refine⟨by lia,by lia,by lia,f8w v1,f8w v2,?_⟩
    rw [r0]
    rintro _ H3 ⟨o,rfl,n3,S3,h3⟩
    replace h3:H3 o=some (.tup [.int t,.int b]):=by
     rw [h3]
     unfold d5l
     show some (HO.tup [V.int t,V.int ((b.toNat:Nat):Int)])=_
     rw [Oz (by lia)]
    walk_at"rs*"
    refine⟨t,b,⟨rfl,rfl⟩,g1,g2,fun y hy=>?_⟩
    rw [if_neg (not_not_intro (c3z (hy.trans hx'.symm)))]
    refine k _ _ ⟨o,rfl,?_,fun c u e=>S3 _ _ (S2 _ _ (S1 _ _ e)),h3⟩
    cases e:H o with
    | none=>rfl
    | some u =>
     have:=S2 _ _ (S1 _ _ e)
     rw [n3] at this
     cases this
theorem h8t{x:Str}(h:sg x=txt (n:Int)):(Hg x ⟨#[48]⟩ && !decide (x=(⟨#[48]⟩:Str)))=false:=by
 have e:txt (n:Int)=dg n:=if_neg (by lia)
 rw [e] at h
 rcases Ha n with z | z
 .subst z
  have:x = ⟨#[48]⟩:=c3z (by rw [h]; rfl)
  rw [this]
  simp
 .walk_at"@k0i z@ec r@ce1 e2"
  rw [i5a,h,e1]
  simp [e2]
theorem j7c(T:Tx K mg A):a1j P A.wd K mg base CX0 2 A.b6y A.b6z ["text"] k1v:=by
 have d2l:a1j P A.wd K mg base CX0 1 _ _ _ _:=f8y T
 refine T.c6m.ok g7j (fun _ _ _ _ h=>i5m h) (fun cdv A' outer s H vs Q E hr h=>?_)
 .walk_at"h"
  obtain⟨x,zE,⟨n,hx,hn,q⟩⟩:=j8r h
  walk_at"g"
  have hu:=hr.units
  have sl:B0 "0" = ⟨#[48]⟩:=by decide +kernel
  refine⟨_,(a0h (a5j (pw_or (c9k (b3l (a2m d2l hr.dn T.f0j T.b5p.kp T.f0i (a0g (pvF 0) a0i)))) (pw_or1 (a3n f9v (a3p a1q T.b0w Dq (a0g (pvF 0) a0i)) (a6y (v:=.int 13) (by rfl) T.c9s T.a9z)))).pt
   (a0k (a0w h4o))
   a1u)
   (a0h (a5j (pw_and (b3l (b5r c2l Em Hy Lf d5m (pvF 0) (a0g a2p a0i))) (pw_and1 (a3n (onT K hu) (pvF 0) a2p))).pt
   (a0k (a0w h4o))
   a1u)
   (a0k (a0w (a2o d5n (by rfl) T.h8j Qa (a0g (pvF 0) a0i)))))),?_⟩
  clear hu
  rw [sl]
  walk_at"rd*"
  have e:txt (n:Int)=dg n:=if_neg (by lia)
  have f:h6k (txt (n:Int))=true:=by rw [e]; exact f9y.mpr ⟨d3n _,h6j _⟩
  have lx:x.length<=13:=by
   rw [<- d0k,hx,e]
   have a:=i2c 12 n (by lia)
   lia
  have sw:=h8t hx
  have hs:=szl
  rw [f,if_neg (by decide)]
  refine⟨by lia,?_⟩
  rw [if_neg ?_]
  .exact⟨_,d7g hx (by lia),by lia,q⟩
  .rintro (z | ⟨z1,z2⟩)
   .lia
   .rw [z1,Kb] at sw
    simp [z2] at sw
theorem i5t(x:Rat):(x.den:Int)≠0:=by
 have:=x.den_pos
 lia
theorem g1s(x y:Rat):(x.den:Int)*(y.den:Int)≠0:=Int.mul_ne_zero (i5t x) (i5t y)
theorem i9t(T:Tx K mg A):a1j P A.wd K mg base CX0 3 A.f3s A.d7m ["one","other"] j6a:=by
 have c6w:a1j P A.wd K mg base CX0 2 _ _ _ _:=d4w T
 refine T.g4s.ok i8s (fun _ _ _ _ h=>g0h h) (fun cdv A' outer s H vs Q E hr h=>?_)
 .walk_at"h"
  obtain⟨p,q,zE,⟨x,y,⟨hp,hq,b1,b2,b3,b4⟩,k⟩⟩:=i2m h
  walk_at"g"
  have hu:=hr.units
  unfold d5l at hp hq
  refine⟨_,(a0k (a0w (a2m c6w hr.dn T.d8q T.b8q.kp T.d8p (a0g (a0t a1k (a0t a2l (a0v a2s (pvF 0) a0j) (a0v a2s (pvF 1) a0j)) (a0t a2l (a0v a2s (pvF 1) a0j) (a0v a2s (pvF 0) a0j))) (a0g (a0t a2l (a0v a2s (pvF 0) a0j) (a0v a2s (pvF 1) a0j)) a0i))))),?_⟩
  clear hu
  walk_at"rd*"
  refine⟨by walk_at"mul",by walk_at"mul",by walk_at"mul",g1s x y,by walk_at"le",by walk_at"le",?_⟩
  rw [h0n]
  exact k
theorem i9u(T:Tx K mg A):a1j P A.wd K mg base CX0 3 A.d4k A.d3g ["one","other"] j6b:=by
 have c6w:a1j P A.wd K mg base CX0 2 _ _ _ _:=d4w T
 refine T.d7z.ok i2o (fun _ _ _ _ h=>g0h h) (fun cdv A' outer s H vs Q E hr h=>?_)
 .walk_at"h"
  obtain⟨p,q,zE,⟨x,y,⟨hp,hq,b1,b2,b3,b4⟩,k⟩⟩:=i2m h
  walk_at"g"
  have hu:=hr.units
  unfold d5l at hp hq
  refine⟨_,(a0k (a0w (a2m c6w hr.dn T.d8q T.b8q.kp T.d8p (a0g (a0t a2l (a0v a2s (pvF 0) a0j) (a0v a2s (pvF 1) a0j)) (a0g (a0t a2l (a0v a2s (pvF 0) a0j) (a0v a2s (pvF 1) a0j)) a0i))))),?_⟩
  clear hu
  walk_at"rd*"
  refine⟨by walk_at"mul",by walk_at"mul",g1s x y,by walk_at"le",by walk_at"le",?_⟩
  rw [g5h]
  exact k
theorem f5q(bs:List Int)(b:Int):g5e (bs++[b])=(K7 (g5e bs) b:Int):=by
 unfold g5e
 rw [Jy]
 rfl
theorem i3i{a b:Int}{m:Nat}(ha:intBits a<=m)(hb:intBits b<=n):intBits (K7 a b:Int)<=m+n:=by
 have h:K7 a b<=a.natAbs*b.natAbs:=by
  show Px _ _<=_
  unfold Px
  exact Jo _ _
 have k:=Cn ha hb
 rw [D8] at k ⊢
 rw [Hi] at k
 exact E3 h k
theorem f5r:∀ (k:Nat) (bs:List Int) {B:Nat},bs.length=k->(∀ b∈bs,1<=b/\intBits b<=B)->1<=g5e bs/\intBits (g5e bs)<=1+bs.length*B/\∀ b∈bs,b∣g5e bs
 | 0,bs,B,hl,h=>by
  obtain rfl:=Fh.mp hl
  exact⟨by decide,by show intBits 1<=1+0*B; rw [Nat.zero_mul]; decide,fun b hb=>by cases hb⟩
 | k+1,bs,B,hl,h=>by
  obtain⟨cs,c,rfl⟩:∃ cs c,bs=cs++[c]:=by
   rcases Ii bs with e | ⟨cs,c,e⟩
   .rw [e] at hl; cases hl
   .exact⟨cs,c,by rw [e,Ij]⟩
  rw [C1,Cw] at hl
  obtain⟨i1,i2,i3⟩:=f5r k cs (B:=B) (by lia) fun b hb=>h b (Dp _ hb)
  have hc:=h c (Cj _ Ce)
  rw [f5q]
  refine⟨?_,?_,fun b hb=>?_⟩
  .have:=Nat.pos_of_ne_zero (n:=K7 (g5e cs) c) fun z=>by
    rcases Int.lcm_eq_zero_iff.mp z with z | z <;> lia
   lia
  .have:=i3i i2 hc.2
   rw [C1,Cw,Jk]
   lia
  .rcases De.mp hb with m | m
   .exact Int.dvd_trans (i3 b m) (Int.dvd_lcm_left _ _)
   .rw [Dh.mp m]
    exact Int.dvd_lcm_right _ _
theorem g5j(T:Tx K mg A):a1j P A.wd K mg base CX0 3 A.a5q A.a5z ["bottoms"] i2t:=by
 have h3o:a1j P A.wd K mg base CX0 2 _ _ _ _:=g8p T
 refine T.a7p.ok b2z (fun _ _ _ _ h=>d3p h) (fun cdv A' outer s H vs Q E hr h=>?_)
 .walk_at"h"
  walk_at"@g7g h@ep@czE@ebs B@chp Bo L q"
  walk_at"g"
  have hu:=hr.units
  refine⟨_,(a0h (a1t 1 b2z.nd a0j)
   (a0h (a3s Ck rfl (piT K (pvF 0)) (b2r 2 b2z.nd)
   (a0k (a1t 1 b2z.nd (a2m h3o hr.dn T.h2z T.c6o.kp T.h2y (a0g (pvF 1) (a0g (pvF 2) a0i))))))
   (a0k (a0w (pvF 1))))),?_⟩
  clear hu
  walk_at"rf"
  refine⟨⟨_,SqL.of hp⟩,?_⟩
  obtain⟨Pv,pin,pout⟩:=b9o (fun i O H'=>∃ (v2:Option V),O = [some (.ref p),some (.int (g5e (bs.take i))),v2]/\H'=H)
  refine a5k (xs:=bs.map V.int) Pv (pin _ _ _ ⟨_,rfl,rfl⟩) ?_ ?_ ?_
  .intro i O H2 hi hp'
   obtain⟨v2,rfl,rfl⟩:=pout _ _ _ hp'
   exact SqL.of hp
  .intro i v O H2 hv hp'
   obtain⟨v2,rfl,rfl⟩:=pout _ _ _ hp'
   rw [C9] at hv
   obtain⟨b,hb,rfl⟩:=C7.mp hv
   have hi:=(Bu.mp hb).1
   have Ob:=Bo b (Ca hb)
   have lk:=(f5r _ (bs.take i) rfl fun b hb=>Bo b (Eu hb)).2.1
   have et:bs.take (i+1)=bs.take i++[b]:=by rw [Cu,hb]; rfl
   have l1:(bs.take i).length*B<=bs.length*B:=Ek _ (by rw [D9]; lia)
   have l2:1*B<=bs.length*B:=Ek _ (by lia)
   walk_at"rf"
   refine⟨by lia,by lia,pin _ _ _ ⟨some (.int b),?_,rfl⟩⟩
   rw [et,f5q]
  .intro O H2 hp'
   obtain⟨v2,rfl,rfl⟩:=pout _ _ _ hp'
   rw [Bv,Ef (C0 _)]
   walk_at"rf"
   exact q
variable {p:Int}
theorem i5u{q:Int}(h:1<=q)(g:Cv p q=1):∃ y:Rat,y.num=p/\(y.den:Int)=q:=by
 refine⟨⟨p,q.toNat,by lia,?_⟩,rfl,?_⟩
 .show Py p.natAbs q.toNat=1
  rw [show q.toNat=q.natAbs by lia]
  exact g
 .show ((q.toNat:Nat):Int)=q
  lia
theorem f5s{x y:Rat}{a b c d:Nat}(h1:intBits x.num<=a)(h2:intBits (x.den:Int)<=b)(h3:intBits y.num<=c)(h4:intBits (y.den:Int)<=d):intBits (x*y).num<=a+c/\intBits ((x*y).den:Int)<=b+d:=by
 rw [<- g5h]
 have ne:(x.den:Int)*(y.den:Int)≠0:=g1s x y
 exact⟨h0o ne (Cn h1 h3),h0p ne (Cn h2 h4)⟩
theorem f8z{x y:Rat}{a:Nat}(h1:intBits x.num<=a)(h2:intBits (x.den:Int)<=a)(h3:intBits y.num<=a)(h4:intBits (y.den:Int)<=a):intBits (x+y).num<=a+a+1/\intBits ((x+y).den:Int)<=a+a:=by
 rw [<- h0n]
 have ne:(x.den:Int)*(y.den:Int)≠0:=g1s x y
 refine⟨h0o ne ?_,h0p ne (Cn h2 h4)⟩
 have:=Ff (Cn h1 h4) (Cn h3 h2)
 lia
variable {l:Addr}{H:Hp}{qs:List Addr}{ss:List Rat}
theorem h0h.rts(h:h0h l H qs ss):Rts H qs ss:=⟨h.1,fun i q s e1 e2=>(h.2 i q s e1 e2).2⟩
theorem Rts.same{H H':Hp}(h:Rts H qs ss)(S:Same H H'):Rts H' qs ss:=⟨h.1,fun i q s e1 e2=>S _ _ (h.2 i q s e1 e2)⟩
variable {o C dx:Addr}
theorem Rts.d6t{H H':Hp}{fs:List (Str×V)}(h:Rts H qs ss)(ho:H o=some (.ins C dx fs))(S:a2j o H H'):Rts H' qs ss :=
 ⟨h.1,fun i q s e1 e2=>S _ _ (fun z=>by have:=h.2 i q s e1 e2; rw [z,ho] at this; cases this) (h.2 i q s e1 e2)⟩
theorem h0h.d6t{H H':Hp}(h:h0h l H qs ss)(S:a2j l H H'):h0h l H' qs ss:=⟨h.1,fun i q s e1 e2=>⟨(h.2 i q s e1 e2).1,S _ _ (h.2 i q s e1 e2).1 (h.2 i q s e1 e2).2⟩⟩
theorem h0h.same{H H':Hp}(h:h0h l H qs ss)(S:Same H H'):h0h l H' qs ss:=h.d6t fun b o _ e=>S b o e
theorem h0h.nil:h0h l H [] []:=⟨rfl,fun i q s e=>by simp at e⟩
theorem h0h.snoc{q:Addr}{s:Rat}(h:h0h l H qs ss)(hl:q≠l)(hq:H q=some (.tup (d5l s))):h0h l H (qs++[q]) (ss++[s]):=by
 refine⟨by rw [C1,C1,h.1]; rfl,fun i q' s' e1 e2=>?_⟩
 by_cases hi:i < qs.length
 .rw [Cm hi] at e1
  rw [Cm (by rw [<- h.1]; exact hi)] at e2
  exact h.2 i q' s' e1 e2
 .rw [Df (by lia)] at e1
  rw [Df (by rw [<- h.1]; lia)] at e2
  rw [<- h.1] at e2
  cases hz:i - qs.length with
  | zero =>
   rw [hz] at e1 e2
   simp at e1 e2
   subst e1 e2
   exact⟨hl,hq⟩
  | succ n =>
   rw [hz] at e1
   simp at e1
variable {i:Nat}{v:V}
theorem Rts.get(h:Rts H qs ss)(e:(qs.map V.ref)[i]? = some v):∃ q s,v = .ref q/\ss[i]? = some s/\H q=some (.tup (d5l s)):=by
 rw [C9] at e
 obtain⟨q,hq,rfl⟩:=C7.mp e
 have hi:i < qs.length:=(Bu.mp hq).1
 have hr : ss[i]? = some (ss[i]'(by rw [<- h.1]; exact hi)) := By _
 exact⟨q,_,rfl,hr,h.2 i q _ hq hr⟩
variable {ps:List Addr}{cs:List (Int×Rat)}
theorem Crn.same{H H':Hp}(h:Crn H ps cs)(S:Same H H'):Crn H' ps cs:=⟨h.1,fun i p c e1 e2=>(h.2 i p c e1 e2).elim fun g z=>⟨g,S _ _ z.1,S _ _ z.2⟩⟩
theorem Crn.d6t{H H':Hp}{fs:List (Str×V)}(h:Crn H ps cs)(ho:H o=some (.ins C dx fs))(S:a2j o H H'):Crn H' ps cs :=
 ⟨h.1,fun i p c e1 e2=>(h.2 i p c e1 e2).elim fun g z=>⟨g,S _ _ (fun e=>by have:=z.1; rw [e,ho] at this; cases this) z.1,S _ _ (fun e=>by have:=z.2; rw [e,ho] at this; cases this) z.2⟩⟩
theorem Crn.get(h:Crn H ps cs)(e:(ps.map V.ref)[i]? = some v):∃ p c g,v = .ref p/\cs[i]? = some c/\H p=some (.tup [.int c.1,.ref g])/\H g=some (.tup (d5l c.2)):=by
 rw [C9] at e
 obtain⟨p,hp,rfl⟩:=C7.mp e
 have hi:i < ps.length:=(Bu.mp hp).1
 have hr : cs[i]? = some (cs[i]'(by rw [<- h.1]; exact hi)) := By _
 obtain⟨g,h1,h2⟩:=h.2 i p _ hp hr
 exact⟨p,_,g,rfl,hr,h1,h2⟩
theorem i3j(T:Tx K mg A):a1j P A.wd K mg base CX0 1 A.f3t A.d7n ["one","bottom"] i9g:=by
 refine T.f8q.ok i8t (fun _ _ _ _ h=>g0g h) (fun cdv A' outer s H vs Q E hr h=>?_)
 .walk_at"h"
  walk_at"@j5e h@ep S@czE@ey@chp b1 b2 b3 q"
  walk_at"g"
  have hu:=hr.units
  unfold d5l at hp
  have dp:=y.den_pos
  refine⟨_,(a0k (a0w (a0t a2l (a0v a2s (pvF 0) a0j) (a0t a7t (pvF 1) (a0v a2s (pvF 0) a0j))))),?_⟩
  clear hu
  walk_at"rf*"
  exact⟨⟨by lia,by lia⟩,Dr b1 (Fo b3) (by decide)⟩
theorem g1t(a:Rat):a*((a.den:Int):Rat)=(a.num:Rat):=by
 have h:((a.den:Int):Rat)≠0:=fun e=>by
  have:=Lu.mp (e.trans (by rfl:(0:Rat)=((0:Int):Rat)))
  have:=a.den_pos
  lia
 conv=>lhs; lhs; rw [<- Gy a]
 rw [Rat.divInt_eq_div,Rat.div_def,Mr,Pb _ h,O6]
theorem j7d{iv:Rat}{n:Int}(h1:iv.num=1)(h2:(iv.den:Int)=n)(x:Rat):x*iv*(n:Rat)=x:=by
 rw [<- h2,Mr,g1t,h1]
 exact O6 x
theorem h8u(T:Tx K mg A):a1j P A.wd K mg base CX0 4 A.b3q A.b4r ["corners"] i2u:=by
 have j7e:a1j P A.wd K mg base CX0 3 _ _ _ _:=i9t T
 have h8v:a1j P A.wd K mg base CX0 3 _ _ _ _:=i9u T
 refine T.c3j.ok b9u (fun _ _ _ _ h=>d3p h) (fun cdv A' outer s H vs Q E hr h=>?_)
 .walk_at"h"
  walk_at"@g7g h@ect@czE@eps cs@chct R Bo L1 L12 k"
  walk_at"g"
  have hu:=hr.units
  have h0q:b2u 3 _:=hr.dn
  have pl:=R.1
  refine⟨_,(a0h (a1t 1 b9u.nd (a4q a0i))
   (a0h (a3s Ck rfl (f7z (by rfl) T.h3i (a0g (pvF 0) (a0g (a3z k4g (pvF 0) (a3j a0j) b0j) a0i))) (d7h (n:=2) rfl (a8s (b2r 2 b9u.nd) (a8s (b2r 3 b9u.nd) d2z)))
   (a0h (a1t 4 b9u.nd (a2m j7e hr.dn T.j5p T.g4s.kp T.j5o (a0g (a0v a2s (pvF 3) a0j) (a0g (a2m h8v h0q T.h8b T.d7z.kp T.h8a (a0g (a6z (a0g (i6h h6b a0j) (a0g a0j a0i))) (a0g (a0v a2s (pvF 2) a0j) a0i))) a0i))))
   (a0k (a4p (b5r b1j Da D3 Dd a5v (pvF 1) (a0g (a2m h8v h0q T.h8b T.d7z.kp T.h8a (a0g (pvF 4) (a0g (a6z (a0g a0j (a0g (a0t d3m (a0v a2s (pvF 3) a0j) (a0v a2s (pvF 2) a0j)) a0i))) a0i))) a0i))))))
   (a0h (a4p (b5r b1j Da D3 Dd a5v (pvF 1) (a0g (a6z (a0g a0j (a0g a0j a0i))) a0i)))
   (a0k (a0w (pvF 1)))))),?_⟩
  clear hu
  walk_at"rs"
  refine⟨Dx _,fun l H1 n1 S1 h1=>?_⟩
  have k5l:=S1 _ _ hct
  walk_at"rs*"
  refine⟨fun z=>?_,fun c2 H2 n2 S2 h2=>?_⟩
  .have:=z.1
   rw [show (some (1:Int))=some ((1:Nat):Int) from rfl,HT.f2g] at this
   lia
  have e2:f0y (ps.map V.ref) (some 1) none=(ps.drop 1).map V.ref:=by
   show f1m (ps.map V.ref) (some ((1:Nat):Int)) none=_
   rw [a7g,Np]
  rw [e2] at h2
  have j7f:=S2 _ _ k5l
  have h12:=S2 _ _ h1
  clear k5l h1
  walk_at"rs*"
  obtain⟨Pv,pin,pout⟩:=b9o (fun i O H'=>∃ (v2 v3 v4:Option V) (qs:List Addr) (ss:List Rat),O = [some (.ref ct),some (.ref l),v2,v3,v4]/\Same H H'/\H' c2=some (.tup ((ps.drop 1).map V.ref))/\H' l=some (.lst (qs.map V.ref))/\h0h l H' qs ss/\ss.length=i/\(∀ s∈ss,intBits s.num<=60/\intBits (s.den:Int)<=60)/\∀ j s,ss[j]? = some s->SlR cs j s)
  refine d5q (xs:=ps.map V.ref) (ys:=(ps.drop 1).map V.ref) Pv (pin _ _ _ ⟨_,_,_,[],[],rfl,S1.trans S2,h2,h12,.nil,rfl,(fun s hs=>by cases hs),(fun j s e=>by simp at e)⟩) ?_ ?_ ?_
  .intro i O H3 hp
   walk_at"@pout _ _ _ hp@ev2 v3 v4 qs ss@crfl S3 h3 hl3 R3 L3 B3 V3"
   exact⟨SqT.of (S3 _ _ hct),SqT.of h3⟩
  .intro i x y O H3 p H4 hx hy hp np S4 h4
   walk_at"@pout _ _ _ hp@ev2 v3 v4 qs ss@crfl S3 h3 hl3 R3 L3 B3 V3"
   walk_at"@R.get hx@epc c g@crfl hc hpc hg"
   have hy':(ps.map V.ref)[i+1]? = some y:=by
    rw [Np,Jm] at hy
    rwa [Nn] at hy
   walk_at"@R.get hy'@epd d gd@crfl hd hpd hgd"
   have Oc:=Bo.1 c (Ca hc)
   have Od:=Bo.1 d (Ca hd)
   have lt:=Bo.2 i c d hc hd
   have S04:=S3.trans S4
   have hpc4:=S04 _ _ hpc
   have hpd4:=S04 _ _ hpd
   clear j7f h12 h2
   walk_at"rs*"
   refine fun m H5 n5 S5 h5=>?_
   have S05:=S04.trans S5
   have hpc5:=S05 _ _ hpc
   clear hpc4
   walk_at"rs*"
   refine⟨-1,c.2,⟨h5,S05 _ _ hg,by decide,by decide,by lia,by lia⟩,?_⟩
   rintro _ H6 ⟨t6,rfl,n6,S6,h6⟩
   have S06:=S05.trans S6
   have m1:=f5s (x := -1) (y:=c.2) (a:=1) (b:=1) (by decide) (by decide) Oc.2.2.1 Oc.2.2.2
   walk_at"rs"
   refine⟨d.2,-1*c.2,⟨S06 _ _ hgd,h6,by lia,by lia,by lia,by lia⟩,?_⟩
   rintro _ H7 ⟨t7,rfl,n7,S7,h7⟩
   have S07:=S06.trans S7
   have m2:=f8z (x:=d.2) (y := -1*c.2) (a:=11) (by lia) (by lia) (by lia) (by lia)
   have hpc7:=S07 _ _ hpc
   have hpd7:=S07 _ _ hpd
   have hl7:=S7 _ _ (S6 _ _ (S5 _ _ (S4 _ _ hl3)))
   clear hpd4 hpc5 h5 h4
   walk_at"rs*"
   refine fun u H8 n8 S8 h8=>?_
   obtain⟨iv,in1,in2⟩:=i5u (p:=1) (q:=d.1 - c.1) (by lia) (by rw [Int.gcd_one_left])
   have h8':H8 u=some (.tup (d5l iv)):=by rw [h8,<- in1,<- in2]; rfl
   have b1:intBits iv.num<=1:=by rw [in1]; decide
   have b2:intBits (iv.den:Int)<=20:=by rw [in2]; exact D8.mpr (E3 (by lia:(d.1 - c.1).natAbs<=200000) (by decide))
   have m3:=f5s (x:=d.2 + -1*c.2) (y:=iv) m2.1 m2.2 b1 b2
   walk_at"rs"
   refine⟨d.2 + -1*c.2,iv,⟨S8 _ _ h7,h8',by lia,by lia,by lia,by lia⟩,?_⟩
   rintro _ H9 ⟨t9,rfl,n9,S9,h9⟩
   have S79:=S8.trans S9
   have hl9:=S79 _ _ hl7
   have tl:t9≠l:=fun e=>by rw [e,S8 _ _ hl7] at n9; cases n9
   have ql:=R3.1
   have hc2l:c2≠l:=fun e=>by rw [e,hl3] at h3; cases h3
   clear hpc7 hpd7 h8
   walk_at"rs*"
   refine⟨by rw [Dm]; have:=(Bu.mp hc).1; lia,?_⟩
   rintro _ H10 ⟨rfl,B10,h10⟩
   have S39:Same H3 H9:=S4.trans (S5.trans (S6.trans (S7.trans S79)))
   refine pin _ _ _ ⟨_,_,_,qs++[t9],ss++[(d.2 + -1*c.2)*iv],rfl,(S3.trans S39).step n1 B10,B10 _ _ hc2l (S39 _ _ h3),by rw [h10,Co]; rfl,((R3.same S39).snoc tl h9).d6t B10,by rw [C1,L3]; rfl,fun s hs=>?_,fun j s e=>?_⟩
   .rcases De.mp hs with z | z
    .exact B3 s z
    .rw [Dh.mp z]
     lia
   .rcases F0 j ss.length with hj | hj
    .rw [Cm hj] at e
     exact V3 j s e
    .rw [Df hj] at e
     have hj0:j - ss.length=0:=by
      rcases Ha (j - ss.length) with z | z
      .exact z
      .rw [Dz (by rw [Cw]; lia)] at e
       cases e
     rw [hj0] at e
     cases e
     have ji:j=i:=by lia
     subst ji
     intro c' d' hc' hd'
     rw [hc] at hc'
     rw [hd] at hd'
     cases hc'
     cases hd'
     rw [j7d in1 in2]
     rw [Pa,Rat.neg_mul,Rat.one_mul]
  .intro O H3 hp
   walk_at"@pout _ _ _ hp@ev2 v3 v4 qs ss@crfl S3 h3 hl3 R3 L3 B3 V3"
   have ql:=R3.1
   rw [Bv,Bv,Ev] at L3
   clear j7f h12 h2
   walk_at"rs*"
   refine fun u H4 n4 S4 h4=>?_
   have hl4:=S4 _ _ hl3
   have ul:u≠l:=fun e=>by rw [e,hl3] at n4; cases n4
   have h4':H4 u=some (.tup (d5l 0)):=h4
   walk_at"rs*"
   refine⟨by rw [Dm]; lia,?_⟩
   rintro _ H5 ⟨rfl,B5,h5⟩
   walk_at"rs"
   refine k l H5 (qs++[u]) (ss++[0]) n1 ((S3.trans S4).step n1 B5) (by rw [h5,Co]; rfl) (((R3.same S4).snoc ul h4').d6t B5).rts (by rw [C1,Cw]; lia) (fun s hs=>?_) (fun j s e=>?_) ?_
   .rcases De.mp hs with z | z
    .exact B3 s z
    .rw [Dh.mp z]
     exact⟨by decide,by decide⟩
   .rcases F0 j ss.length with hj | hj
    .rw [Cm hj] at e
     exact V3 j s e
    .intro c' d' hc' hd'
     have:=(Bu.mp hd').1
     lia
   .rw [Df (by lia),show cs.length - 1 - ss.length=0 by lia]
    rfl
theorem c4z(ns ms:List Int):(f5k ns ms).length=max ns.length ms.length:=by unfold f5k; simp
variable {ns:List Int}
theorem g1u{ms:List Int}(h:i < max ns.length ms.length):(f5k ns ms).getD i 0=ns.getD i 0+ms.getD i 0:=by
 unfold f5k
 rw [C3,C9,Ed h]
 rfl
theorem i9v(ns ms:List Int):k1w ns ms=f5k ns ms:=by
 apply Kr
 intro i
 unfold k1w f5k
 rw [C9]
 by_cases h1:i < min ns.length ms.length
 .rw [Eg,Cm (by simp; lia),C9,Ed h1,Ed (by lia)]
 .rw [Eg,Df (by simp; lia),Bv,Ga]
  by_cases h2:i < max ns.length ms.length
  .rw [Ed h2]
   show _=some (ns.getD i 0+ms.getD i 0)
   by_cases h3:ns.length<=ms.length
   .rw [Ie h3,Hd (C0 _),Ex,Jm,C3,C3,Dz (l:=ns) (by lia),show ns.length+(i - ns.length)=i by lia,By (by lia)]
    simp
   .rw [Go (by lia),Hd (l:=ms) (C0 _),Jc,Jm,C3,C3,Dz (l:=ms) (by lia),show ms.length+(i - ms.length)=i by lia,By (by lia)]
    simp
  .rw [Dz (by simp; lia),Dz (by simp; lia)]
   rfl
theorem g1v(T:Tx K mg A):a1j P A.wd K mg base CX0 1 A.b0m A.b1l ["one","other"] k1x:=by
 refine T.b0s.ok c7m (fun _ _ _ _ h=>g0h h) (fun cdv A' outer s H vs Q E hr h=>?_)
 .walk_at"h"
  walk_at"@i2m h@ep q@czE@ens ms@chp hq hl1 hl2 k"
  walk_at"g"
  have hu:=hr.units
  refine⟨_,(a0h (a1t 2 c7m.nd (a3p (h6d rfl) T.k1q boot_min (a0g (a3p a1q T.b0w Dq (a0g (pvF 0) a0i)) (a0g (a3p a1q T.b0w Dq (a0g (pvF 1) a0i)) a0i))))
   (a0h (f2p (i:=3) c7m.nd rfl rfl (a8w (by rfl) T.c3r (a0g (pvF 2) a0i)) (fun _ _ _ _ _=>(a0t a1k (a0v a2s (pvF 1) (pvF 0)) (a0v a2s (pvF 2) (pvF 0)))) (c5w (sc:=a0l d0n) (N:=["one","other","shared","both"]) rfl rfl (by decide +kernel)) rfl)
   (a0k (a0w (a0t a1k (a0t a1k (pvF 3) (a3z g3s (pvF 0) (a3j (pvF 2)) b0j)) (a3z g3s (pvF 1) (a3j (pvF 2)) b0j)))))),?_⟩
  clear hu
  walk_at"rs*"
  refine⟨by omega,by omega,fun D H2 n2 S2 h2=>?_⟩
  have hmn:(min (ns.length:Int) (ms.length:Int)).toNat=min ns.length ms.length:=by omega
  rw [hmn]
  refine d6z (fun i=>.int (ns.getD i 0+ms.getD i 0)) n2 S2 h2 (by rw [Dm]; omega) ?_ ?_
  .intro i H' Q' hi S' q'
   have hp':=S' _ _ hp
   have hq':=S' _ _ hq
   have e1:=g3r (ns:=ns) (i:=i) (by omega)
   have e2:=g3r (ns:=ms) (i:=i) (by omega)
   walk_at"rs*"
  intro H3 S3 h3
  have e3:(Cz (min ns.length ms.length)).map (fun i=>V.int (ns.getD i 0+ms.getD i 0))=((Cz (min ns.length ms.length)).map fun i=>ns.getD i 0+ms.getD i 0).map V.int:=by
   rw [Hv]
   rfl
  rw [e3] at h3
  have hp3:=S3 _ _ hp
  have hq3:=S3 _ _ hq
  walk_at"rs*"
  intro c H4 n4 S4 h4
  rw [show min (ns.length:Int) (ms.length:Int)=((min ns.length ms.length:Nat):Int) by omega,c5y,a7g] at h4
  have h34:=S4 _ _ h3
  walk_at"rs*"
  refine⟨by rw [Dm]; simp; omega,fun d H5 n5 S5 h5=>?_⟩
  have hq5:=S5 _ _ (S4 _ _ hq3)
  walk_at"rs*"
  intro e H6 n6 S6 h6
  rw [show min (ns.length:Int) (ms.length:Int)=((min ns.length ms.length:Nat):Int) by omega,c5y,a7g] at h6
  have h56:=S6 _ _ h5
  walk_at"rs*"
  refine⟨by rw [Dm]; simp; omega,fun f H7 n7 S7 h7=>?_⟩
  have S07:Same H H6:=S3.trans (S4.trans (S5.trans S6))
  refine k _ _ ⟨f,rfl,S07.free n7,S07.trans S7,?_⟩
  rw [h7,<- i9v]
  unfold k1w
  simp only [Co]
theorem c6y(ns:List Int)(b:Int)(i:Nat):(ns.map (· * b)).getD i 0=ns.getD i 0*b:=by
 rw [C3,C3,C9]
 cases ns[i]? with
 | none=>exact (La b).symm
 | some x=>rfl
theorem f1p(T:Tx K mg A):a1j P A.wd K mg base CX0 1 A.b3n A.b3z ["row","by"] i9h:=by
 refine T.a8m.ok g4l (fun _ _ _ _ h=>g0g h) (fun cdv A' outer s H vs Q E hr h=>?_)
 .walk_at"h"
  walk_at"@j5e h@ep b@czE@ens@chp hb hl k"
  walk_at"g"
  have hu:=hr.units
  refine⟨_,(a0k (a0w (b6t (piT K (pvF 0)) (fun _ _ _ _ _=>(a0t a2l (pvF 0) (pvF 2))) (c5w (sc:=a0l d4h) (N:=["row","by"]) rfl rfl (by decide +kernel)) rfl))),?_⟩
  clear hu
  walk_at"rf"
  refine⟨⟨_,SqL.of hp⟩,fun D H2 n2 S2 h2=>?_⟩
  refine h6f (fun v=>match v with | .int c=>.int (c*b) | v=>v) n2 S2 h2 (SqL.of hp) (by rw [Bv,Dm]; lia) ?_ ?_
  .intro i x H' Q' hx S' q'
   rw [C9] at hx
   obtain⟨c,hc,rfl⟩:=C7.mp hx
   walk_at"rf"
   exact⟨hb c (Ca hc),q'⟩
  intro H3 S3 h3
  refine k _ _ ⟨D,rfl,n2,S3,?_⟩
  rw [h3,Hv,Hv]
  rfl
theorem b9l(ns:List Int)(st n:Nat):(g6i ns st n).length=ns.length - st:=by unfold g6i; simp
theorem d6u{st:Nat}(h:i < ns.length - st):(g6i ns st n).getD i 0=if n<=st+i then ns.getD (st+i - n) 0 else 0:=by
 unfold g6i
 rw [C3,C9,Ed h]
 rfl
theorem h0r{st:Nat}{x:Int}(h:x∈g6i ns st n):x∈ns\/x=0:=by
 unfold g6i at h
 obtain⟨i,hi,rfl⟩:=E4.mp h
 split
 .by_cases h2:st+i - n < ns.length
  .exact .inl (getD_mem h2)
  .rw [C3,Dz (by lia)]
   exact .inr rfl
 .exact .inr rfl
theorem d8r(T:Tx K mg A):a1j P A.wd K mg base CX0 1 A.c2o A.c1u ["known","start","many"] h8m:=by
 refine T.c3g.ok h2p (fun _ _ _ _ h=>j5g h) (fun cdv A' outer s H vs Q E hr h=>?_)
 .walk_at"h"
  walk_at"@j5f h@ek st n@czE@ens s m@chk e1 e2 hs hl q"
  walk_at"g"
  subst e1 e2
  have hu:=hr.units
  refine⟨_,(a0k (a0w (b6t (h2a (by rfl) T.c3r (a0g (pvF 1) (a0g (a3p a1q T.b0w Dq (a0g (pvF 0) a0i)) a0i))) (fun _ _ _ _ _=>(f9n (a3n j3o (pvF 0) (pvF 3)) (a0v a2s (pvF 1) (a0t d3m (pvF 0) (pvF 3))) a0j)) (c5w (sc:=a0l f2t) (N:=["known","start","many"]) rfl rfl (by decide +kernel)) rfl))),?_⟩
  clear hu
  walk_at"rf*"
  refine⟨by lia,fun D H2 n2 S2 h2=>?_⟩
  have hmn:((ns.length:Int) - (s:Int)).toNat=ns.length - s:=by lia
  rw [hmn]
  refine d6z (fun i=>.int (if m<=s+i then ns.getD (s+i - m) 0 else 0)) n2 S2 h2 (by rw [Dm]; lia) ?_ ?_
  .intro i H' Q' hi S' q'
   have hk':=S' _ _ hk
   walk_at"rf*"
   split
   .rename_i h
    rw [if_pos (by lia)] at q'
    refine⟨_,?_,q'⟩
    rw [show (s:Int)+(i:Int) - (m:Int)=((s+i - m:Nat):Int) by lia]
    exact g3r (by lia)
   .rename_i h
    rw [if_neg (by lia)] at q'
    exact q'
  intro H3 S3 h3
  refine q _ _ ⟨D,rfl,n2,S3,?_⟩
  rw [h3]
  unfold g6i
  rw [Hv]
  rfl
theorem g8q(T:Tx K mg A):a1j P A.wd K mg base CX0 1 A.c2p A.c1v ["known","many"] j6c:=by
 refine T.c3h.ok h2q (fun _ _ _ _ h=>g0g h) (fun cdv A' outer s H vs Q E hr h=>?_)
 .walk_at"h"
  walk_at"@j5e h@ek n@czE@ens m@chk e1 hl q"
  walk_at"g"
  subst e1
  have hu:=hr.units
  refine⟨_,(a0k (a0w (a2o d5o (by rfl) T.g1o Nm (a0g (a3z g3s (pvF 0) (a3j (a3p (g3n rfl) T.j5w boot_max (a0g a0j (a0g (a0t d3m (a3p a1q T.b0w Dq (a0g (pvF 0) a0i)) (pvF 1)) a0i)))) b0j) a0i)))),?_⟩
  clear hu
  walk_at"rf*"
  intro l H1 n1 S1 h1
  rw [show max 0 ((ns.length:Int) - (m:Int))=((ns.length - m:Nat):Int) by lia,c5y,a7g] at h1
  walk_at"rf*"
  intro t H2 n2 S2 h2
  exact q _ _ ⟨t,rfl,S1.free n2,S1.trans S2,h2⟩
theorem f1q(n:Int)(m:Nat):(h8n n m).length=m+1:=by unfold h8n; simp
theorem g1w{n:Int}{m:Nat}(h:i < m+1):(h8n n m).getD i 0=n ^ i:=by
 unfold h8n
 rw [C3,C9,Ed h]
 rfl
theorem d3k{n:Int}(h:intBits n<=10):∀ j:Nat,intBits (n ^ j)<=1+10*j
 | 0=>by rw [Int.pow_zero]; decide
 | j+1=>by
  rw [Int.pow_succ]
  exact Bz (Cn (d3k h j) h) (by lia)
theorem j7g(T:Tx K mg A):a1j P A.wd K mg base CX0 1 A.b3o A.b4k ["number","most"] k1y:=by
 refine T.b8r.ok d0w (fun _ _ _ _ h=>h7l h) (fun cdv A' outer s H vs Q E hr h=>?_)
 .walk_at"h"
  walk_at"@k1o h@en t@czE@em@ce hm hb k"
  walk_at"g"
  subst e
  have hu:=hr.units
  refine⟨_,(a0h (a1t 2 d0w.nd (a4q (a0g a0j a0i)))
   (a0h (a3s Ck rfl (a8w (by rfl) T.c3r (a0g (pvF 1) a0i)) (b2r 3 d0w.nd)
   (a0k (a4p (b5r b1j Da D3 Dd a5v (pvF 2) (a0g (a0t a2l (a0v a2s (pvF 2) (pvF 3)) (pvF 0)) a0i)))))
   (a0k (a0w (pvF 2))))),?_⟩
  clear hu
  walk_at"rd"
  refine⟨by decide,?_⟩
  intro l H1 n1 S1 h1
  walk_at"rd*"
  refine⟨by lia,by lia,?_⟩
  rw [Dy]
  obtain⟨Pv,pin,pout⟩:=b9o (fun i O H'=>∃ v3:Option V,O = [some (.int n),some (.int m),some (.ref l),v3]/\Same H H'/\H' l=some (.lst ((h8n n i).map V.int)))
  refine c1s (lo:=0) Pv (pin _ _ _ ⟨_,rfl,S1,by rw [h1]; show _=some (HO.lst [V.int (n ^ 0)]); rw [Int.pow_zero]⟩) ?_ ?_
  .intro i O H2 hi hp
   walk_at"@pout _ _ _ hp@ev3@crfl S2 h2"
   have e1:=g3r (ns:=h8n n i) (i:=i) (by rw [f1q]; lia)
   rw [g1w (by lia)] at e1
   have pl:=f1q n i
   clear h1 hp
   walk_at"rd*"
   refine⟨Fc (Bz hb (by decide)),by rw [Dm]; lia,?_⟩
   rintro _ H3 ⟨rfl,B3,h3⟩
   refine pin _ _ _ ⟨_,rfl,S2.step n1 B3,?_⟩
   rw [h3]
   unfold h8n
   rw [No (n:=i+1),Co,Co]
   show _=some (HO.lst (_++[V.int (n ^ (i+1))]))
   rw [Int.pow_succ]
  .intro O H2 hp
   walk_at"@pout _ _ _ hp@ev3@crfl S2 h2"
   walk_at"rd"
   exact k _ _ ⟨l,rfl,n1,S2,h2⟩
theorem i3k(p q:Int)(t:Nat):(i0o p q t).length=t+1:=by unfold i0o; simp
theorem i3l{q:Int}{t i:Nat}(h:i < t+1):(i0o p q t).getD i 0=i0n p q t i:=by
 unfold i0o
 rw [C3,C9,Ed h]
 rfl
theorem IsE.same{H H':Hp}{q:Int}{n t:Nat}(h:IsE C H o p q n t)(S:Same H H'):IsE C H' o p q n t:=by
 walk_at"@h@edx gt fa@ch1 h2 h3"; clear h
 exact⟨dx,gt,fa,S _ _ h1,S _ _ h2,S _ _ h3⟩
theorem i3m(T:Tx K mg A):a1j P A.wd K mg base CX0 2 A.b7n A.b4l ["self","gain","many","turns"] (i9i A.a5s):=by
 have f5t:a1j P A.wd K mg base CX0 1 _ _ _ _:=j7g T
 have a3q:=T.a3q
 have a1o:=T.a1o
 have a1p:=T.a1p
 have a1l:=T.a1l
 have a0y:=T.a0y
 have a0q:=T.a0q
 refine T.c8m.ok d0y (fun _ _ _ _ h=>i8n h) (fun cdv A' outer s H vs Q E hr h=>?_)
 .walk_at"h"
  walk_at"@i8m h@eo gt n t@czE@edx m tt p q@ce1 e2 ht bp bq hg ho k"
  walk_at"g"
  subst e1 e2
  have hu:=hr.units
  have f0s:b2u 1 _:=hr.dn
  have gto:gt≠o:=fun e=>by rw [e,ho] at hg; cases hg
  refine⟨_,(a0h (sfT K (pvF 0) (pvF 1))
   (a0h (sfT K (pvF 0) (pvF 2))
   (a0h (sfT K (pvF 0) (pvF 3))
   (a0h (d8w (i:=4) d0y.nd rfl (G3 rfl) (a2m f5t f0s T.f4s T.b8r.kp T.f4r (a0g (a0v a2s (pvF 1) a0j) (a0g (pvF 3) a0i))))
   (a0h (d8w (i:=5) d0y.nd rfl (G3 rfl) (a2m f5t f0s T.f4s T.b8r.kp T.f4r (a0g (a0v a2s (pvF 1) a0j) (a0g (pvF 3) a0i))))
   (a0h (sfT K (pvF 0) (a2o d5o (by rfl) T.g1o Nm (a0g (b6t (a8w (by rfl) T.c3r (a0g (a0t a1k (pvF 3) a0j) a0i)) (fun _ _ _ _ _=>(a0t a2l (a0v a2s (pvF 5) (pvF 0)) (a0v a2s (pvF 6) (a0t d3m (pvF 4) (pvF 0))))) (c5w (sc:=a0l d4i) (N:=["self","gain","many","turns","tops","bottoms"]) rfl rfl (by decide +kernel)) rfl) a0i)))
   (a0k (sfT K (pvF 0) (a0v a2s (pvF 5) (pvF 3)))))))))),?_⟩
  clear hu
  walk_at"rf*"
  intro H1 B1 h1
  walk_at"rf*"
  intro H2 B2 h2
  walk_at"rf*"
  intro H3 B3 h3
  have hg3:=B3 _ _ gto (B2 _ _ gto (B1 _ _ gto hg))
  walk_at"rf*"
  refine⟨tt,rfl,ht,?_⟩
  rintro _ H4 ⟨l4,rfl,n4,S4,h4⟩
  have hg4:=S4 _ _ hg3
  walk_at"rf*"
  refine⟨tt,rfl,ht,?_⟩
  rintro _ H5 ⟨l5,rfl,n5,S5,h5⟩
  have h45:=S5 _ _ h4
  have h35:=S5 _ _ (S4 _ _ h3)
  have pl1:=f1q p tt
  have pl2:=f1q q tt
  clear h4 hg4 hg3
  walk_at"rf*"
  refine⟨by lia,by lia,fun D H6 n6 S6 h6=>?_⟩
  rw [show ((tt:Int)+1).toNat=tt+1 by lia]
  refine d6z (fun i=>.int (i0n p q tt i)) n6 S6 h6 (by rw [Dm]; lia) ?_ ?_
  .intro i H' Q' hi S' q'
   have h4':=S' _ _ h45
   have h5':=S' _ _ h5
   have e1:=g3r (ns:=h8n p tt) (i:=i) (by lia)
   have e2:=g3r (ns:=h8n q tt) (i:=tt - i) (by lia)
   rw [g1w (by lia)] at e1 e2
   rw [show ((tt - i:Nat):Int)=(tt:Int) - (i:Int) by lia] at e2
   clear h45 h35 h5 hg ho h1 h2 h3 pl1 pl2
   walk_at"rf*"
   exact⟨Dr (d3k bp i) (d3k bq (tt - i)) (by lia),q'⟩
  intro H7 S7 h7
  have e7:(Cz (tt+1)).map (fun i=>V.int (i0n p q tt i))=(i0o p q tt).map V.int:=by
   unfold i0o
   rw [Hv]
   rfl
  rw [e7] at h7
  walk_at"rf*"
  intro fa H8 n8 S8 h8
  have h38:=S8 _ _ (S7 _ _ h35)
  have h58:=S8 _ _ (S7 _ _ h5)
  have e2:=g3r (ns:=h8n q tt) (i:=tt) (by lia)
  rw [g1w (by lia)] at e2
  clear h45 h35 h5 h7 e7
  walk_at"rf*"
  intro H9 B9 h9
  have l5o:l5≠o:=fun e=>by
   rw [e,h38] at h58
   cases h58
  have h59:=B9 _ _ l5o h58
  clear h38 h58
  walk_at"rf*"
  intro H10 B10 h10
  have S38:Same H3 H8:=S4.trans (S5.trans (S7.trans S8))
  have fao:fa≠o:=fun e=>by
   have:=S38 _ _ h3
   rw [e] at h8
   rw [h8] at this
   cases this
  refine k fa H10 (fun b u hb e=>B10 _ _ hb (B9 _ _ hb (S38 _ _ (B3 _ _ hb (B2 _ _ hb (B1 _ _ hb e)))))) ?_ h10 (B10 _ _ fao (B9 _ _ fao h8))
  cases hn:H fa with
  | none=>rfl
  | some u =>
   exfalso
   have:=(S4.trans (S5.trans S7)) _ _ (B3 _ _ fao (B2 _ _ fao (B1 _ _ fao hn)))
   rw [this] at n8
   cases n8
theorem h8w(T:Tx K mg A):a1j P A.wd K mg base CX0 1 A.b0p A.a7w ["self"] (i2v A.a5s):=by
 have a3q:=T.a3q
 have a1o:=T.a1o
 have a1p:=T.a1p
 have a1l:=T.a1l
 have a0y:=T.a0y
 have a0q:=T.a0q
 refine T.c4m.ok g0n (fun _ _ _ _ h=>d3p h) (fun cdv A' outer s H vs Q E hr h=>?_)
 .walk_at"h"
  obtain⟨o,zE,⟨p,q,n,t,⟨dx,gt,fa,ho,hg,hf⟩,k⟩⟩:=g7g h
  walk_at"g"
  have hu:=hr.units
  unfold ecF at ho
  refine⟨_,(a0k (a0w (pfT K (pvF 0)))),?_⟩
  clear hu
  walk_at"rf*"
theorem h8x(T:Tx K mg A):a1j P A.wd K mg base CX0 1 A.b4m A.b1q ["self"] (i2w A.a5s):=by
 have a3q:=T.a3q
 have a1o:=T.a1o
 have a1p:=T.a1p
 have a1l:=T.a1l
 have a0y:=T.a0y
 have a0q:=T.a0q
 refine T.c4n.ok g0o (fun _ _ _ _ h=>d3p h) (fun cdv A' outer s H vs Q E hr h=>?_)
 .walk_at"h"
  obtain⟨o,zE,⟨p,q,n,t,⟨dx,gt,fa,ho,hg,hf⟩,hn,k⟩⟩:=g7g h
  walk_at"g"
  have hu:=hr.units
  unfold ecF at ho
  refine⟨_,(a0k (a0w (a0t a2l (pfT K (pvF 0)) (pfT K (pvF 0))))),?_⟩
  clear hu
  walk_at"rf*"
  exact⟨Du (Ei (by omega) (by omega)),by rw [<- Fj]; exact k⟩
theorem g8r(kn:List Int)(st n:Nat)(p q:Int)(t:Nat):∀ j,(i0p kn st n p q t j).length<=kn.length - st
 | 0=>Dx _
 | j+1=>by
  have:=g8r kn st n p q t j
  rw [i0p,c4z,Bv,b9l]
  lia
theorem i3n(kn:List Int)(st n:Nat)(p q:Int)(t j:Nat):(i0p kn st n p q t (j+1)).length=kn.length - st:=by
 have:=g8r kn st n p q t j
 rw [i0p,c4z,Bv,b9l]
 lia
theorem g5k{q:Int}(bp:intBits p<=10)(bq:intBits q<=10){t j:Nat}(ht:t<=16)(hj:j<=t):intBits (i0n p q t j)<=170 :=
 Bz (Cn (d3k bp j) (d3k bq (t - j))) (by lia)
theorem i9w(T:Tx K mg A):a1j P A.wd K mg base CX0 2 A.a6r A.a5o ["self","state","tops","bottom"] (j6d A.a5s):=by
 have d2m:a1j P A.wd K mg base CX0 1 _ _ _ _:=d8r T
 have d2n:a1j P A.wd K mg base CX0 1 _ _ _ _:=g8q T
 have c0h:a1j P A.wd K mg base CX0 1 _ _ _ _:=g1v T
 have b0y:a1j P A.wd K mg base CX0 1 _ _ _ _:=f1p T
 have g5l:a1j P A.wd K mg base CX0 1 _ _ _ _:=h8x T
 have a3q:=T.a3q
 have a1o:=T.a1o
 have a1p:=T.a1p
 have a1l:=T.a1l
 have a0y:=T.a0y
 have a0q:=T.a0q
 refine T.b9i.ok a7h (fun _ _ _ _ h=>g0i h) (fun cdv A' outer s H vs Q E hr h=>?_)
 .walk_at"h"
  walk_at"@g7h h@eo st x bt@czE@ep q n t zs xs@cis hz hx lz lx hn ht bp bq by0 k"
  walk_at"g"
  have hu:=hr.units
  have is0:=is
  walk_at"@is@edx gt fa@cho hg hf"; clear is
  unfold ecF at ho
  refine⟨_,(a0h (a1t 4 a7h.nd (a0t a1k (a2o b1h (by rfl) T.d2k Ic (a0g (pvF 1) a0i)) (pvF 2)))
   (a0h (a1t 5 a7h.nd (a4q a0i))
   (a0h (a3s Ck rfl (a8w (by rfl) T.c3r (a0g (a0t a1k (pfT K (pvF 0)) a0j) a0i)) (b2r 6 a7h.nd)
   (a0h (a1t 7 a7h.nd (a2m d2m hr.dn T.f4n T.c3g.kp T.f4m (a0g (pvF 4) (a0g (a3p a1q T.b0w Dq (a0g (pvF 1) a0i)) (a0g (a0t a2l (pvF 6) (pfT K (pvF 0))) a0i)))))
   (a0k (a1t 5 a7h.nd (a2m c0h hr.dn T.d2g T.b0s.kp T.d1z (a0g (pvF 5) (a0g (a2m b0y hr.dn T.c3q T.a8m.kp T.c3p (a0g (pvF 7) (a0g (a0v a2s (pfT K (pvF 0)) (pvF 6)) a0i))) a0i)))))))
   (a0k (a0w (a6z (a0g (pvF 5) (a0g (a2m d2n hr.dn T.f4p T.c3h.kp T.f4o (a0g (pvF 4) (a0g (a2k (pvF 0) T.a3q T.c7y g5l hr.dn T.g4x .nil a3i) a0i))) a0i)))))))),?_⟩
  clear hu
  walk_at"rs*"
  intro l1 H1 n1 S1 h1
  have hx1:=S1 _ _ hx
  walk_at"rs*"
  refine⟨by rw [Dm]; lia,?_⟩
  intro kn H2 n2 S2 h2
  rw [<- Co] at h2
  have S02:Same H H2:=S1.trans S2
  clear h1 hx1
  walk_at"rs*"
  refine⟨Dx _,?_⟩
  intro o0 H3 n3 S3 h3
  have S03:=S02.trans S3
  have h23:=S3 _ _ h2
  have ho3:=S03 _ _ ho
  clear h2
  walk_at"rs*"
  refine⟨by lia,by lia,?_⟩
  rw [show ((t:Int)+1).toNat=t+1 by lia]
  obtain⟨Pv,pin,pout⟩:=b9o (fun j O H'=>∃ (ou:Addr) (v6 v7:Option V),O = [some (.ref o),some (.ref st),some (.ref x),some (.int bt),some (.ref kn),some (.ref ou),v6,v7]/\Same H2 H'/\H' kn=some (.lst ((zs++xs).map V.int))/\H2 ou=none/\H' ou=some (.lst ((i0p (zs++xs) zs.length n p q t j).map V.int)))
  refine c1s (lo:=0) Pv (pin _ _ _ ⟨o0,_,_,rfl,S3,h23,n3,h3⟩) ?_ ?_
  .intro j O H4 hj hp
   walk_at"@pout _ _ _ hp@eou v6 v7@crfl S4 hk4 nou hou"
   have S04:=S02.trans S4
   have ho4:=S04 _ _ ho
   have hz4:=S04 _ _ hz
   have hf4:=S04 _ _ hf
   have e1:=g3r (ns:=i0o p q t) (i:=j) (by rw [i3k]; lia)
   rw [i3l (by lia)] at e1
   have fb:=g5k bp bq (t:=t) (j:=j) ht (by lia)
   clear h23 ho3 h3 hp ho hz hf hx hg
   walk_at"rs*"
   refine⟨Du (Ei (by lia) (by lia)),zs++xs,rfl,zs.length,rfl,j*n,(Fj j n).symm,by simp,by simp; lia,?_⟩
   rintro _ H5 ⟨hd,rfl,n5,S5,h5⟩
   have ho5:=S5 _ _ ho4
   have hf5:=S5 _ _ hf4
   have dl:=b9l (zs++xs) zs.length (j*n)
   clear ho4 hf4 hz4
   walk_at"rs*"
   refine⟨_,rfl,?_,by rw [dl]; simp; lia,?_⟩
   .intro y hy
    rcases h0r hy with h | h
    .exact Dr (by0 y h) fb (by decide)
    .rw [h]; exact Du (by decide)
   rintro _ H6 ⟨l6,rfl,n6,S6,h6⟩
   have hou6:=S6 _ _ (S5 _ _ hou)
   have el:=g8r (zs++xs) zs.length n p q t j
   rw [C1] at el
   walk_at"rs*"
   refine⟨_,rfl,_,rfl,by lia,by rw [Bv,dl]; simp; lia,?_⟩
   rintro _ H7 ⟨ou',rfl,n7,S7,h7⟩
   have S47:=S5.trans (S6.trans S7)
   exact pin _ _ _ ⟨ou',_,_,rfl,S4.trans S47,S47 _ _ hk4,(S4.trans (S5.trans S6)).free n7,h7⟩
  .intro O H4 hp
   walk_at"@pout _ _ _ hp@eou v6 v7@crfl S4 hk4 nou hou"
   have S04:=S02.trans S4
   have ho4:=S04 _ _ ho
   have is4:=is0.same S04
   clear h23 ho3 h3 hp ho hz hf hx hg is0
   walk_at"rs*"
   refine⟨p,q,n,t,is4,hn,zs++xs,rfl,n*t,rfl,by simp; lia,?_⟩
   rintro _ H5 ⟨s2,rfl,n5,S5,h5⟩
   walk_at"rs*"
   intro r H6 n6 S6 h6
   exact k r ou s2 H6 (S04.trans (S5.trans S6)) ((S04.trans S5).free n6) (S02.free nou) h6 (S6 _ _ (S5 _ _ hou)) (S6 _ _ h5)
theorem h0s{kn:List Int}{st n:Nat}{p q:Int}{t i:Nat}(h:i < kn.length - st):∀ j,(i0p kn st n p q t j).getD i 0=h4h (fun m=>(g6i kn st (m*n)).getD i 0) p q t j
 | 0=>rfl
 | j+1=>by
  rw [i0p,g1u (by rw [Bv,b9l]; omega),c6y,h0s h j,h4h]
variable {vs:List (List V)}
theorem h0i.tps(h:h0i l H qs vs):Tps H qs vs:=⟨h.1,fun i q s e1 e2=>(h.2 i q s e1 e2).2⟩
theorem Tps.same{H H':Hp}(h:Tps H qs vs)(S:Same H H'):Tps H' qs vs:=⟨h.1,fun i q s e1 e2=>S _ _ (h.2 i q s e1 e2)⟩
theorem Tps.d6t{H H':Hp}{fs:List (Str×V)}(h:Tps H qs vs)(ho:H o=some (.ins C dx fs))(S:a2j o H H'):Tps H' qs vs :=
 ⟨h.1,fun i q s e1 e2=>S _ _ (fun z=>by have:=h.2 i q s e1 e2; rw [z,ho] at this; cases this) (h.2 i q s e1 e2)⟩
theorem h0i.d6t{H H':Hp}(h:h0i l H qs vs)(S:a2j l H H'):h0i l H' qs vs:=⟨h.1,fun i q s e1 e2=>⟨(h.2 i q s e1 e2).1,S _ _ (h.2 i q s e1 e2).1 (h.2 i q s e1 e2).2⟩⟩
theorem h0i.same{H H':Hp}(h:h0i l H qs vs)(S:Same H H'):h0i l H' qs vs:=h.d6t fun b o _ e=>S b o e
theorem h0i.nil:h0i l H [] []:=⟨rfl,fun i q s e=>by simp at e⟩
theorem h0i.snoc{q:Addr}{v:List V}(h:h0i l H qs vs)(hl:q≠l)(hq:H q=some (.tup v)):h0i l H (qs++[q]) (vs++[v]):=by
 refine⟨by rw [C1,C1,h.1]; rfl,fun i q' s' e1 e2=>?_⟩
 by_cases hi:i < qs.length
 .rw [Cm hi] at e1
  rw [Cm (by rw [<- h.1]; exact hi)] at e2
  exact h.2 i q' s' e1 e2
 .rw [Df (by lia)] at e1
  rw [Df (by rw [<- h.1]; lia)] at e2
  rw [<- h.1] at e2
  cases hz:i - qs.length with
  | zero =>
   rw [hz] at e1 e2
   simp at e1 e2
   subst e1 e2
   exact⟨hl,hq⟩
  | succ n =>
   rw [hz] at e1
   simp at e1
theorem h8y(T:Tx K mg A):a1j P A.wd K mg base CX0 5 A.b4s A.b1r ["self","corners"] (i2x A.a2w):=by
 have g8s:a1j P A.wd K mg base CX0 4 _ _ _ _:=h8u T
 have c3t:a1j P A.wd K mg base CX0 3 _ _ _ _:=g5j T
 have i5v:a1j P A.wd K mg base CX0 1 _ _ _ _:=i3j T
 have a2n:=T.a2n
 have a0s:=T.a0s
 have a0u:=T.a0u
 have a0z:=T.a0z
 refine T.c4p.ok d6n (fun _ _ _ _ h=>g0h h) (fun cdv A' outer s H vs Q E hr h=>?_)
 .walk_at"h"
  walk_at"@i2m h@eo l@czE@edx ps cs@cho hl R Bo L1 L12 k"
  walk_at"g"
  have hu:=hr.units
  have h8z:b2u 1 _:=hr.dn
  have pl:=R.1
  have lo:l≠o:=fun e=>by rw [e,ho] at hl; cases hl
  refine⟨_,(a0h (sfT K (pvF 0) (a2o d5o (by rfl) T.g1o Nm (a0g (pvF 1) a0i)))
   (a0h (a1t 2 d6n.nd (a2m g8s hr.dn T.g8h T.c3j.kp T.g8g (a0g (pfT K (pvF 0)) a0i)))
   (a0h (sfT K (pvF 0) (a2m c3t hr.dn T.d2i T.a7p.kp T.d2h (a0g (a0t a1k (b6t (piT K (pvF 1)) (fun _ _ _ _ _=>(a0v a2s (a0v a2s (pvF 0) a0j) a0j)) (c5w (sc:=a0l b9s) (N:=["self","corners","slopes"]) rfl rfl (by decide +kernel)) rfl) (b6t (piT K (pvF 2)) (fun _ _ _ _ _=>(a0v a2s (pvF 0) a0j)) (c5w (sc:=a0l b9s) (N:=["self","corners","slopes"]) rfl rfl (by decide +kernel)) rfl)) a0i)))
   (a0k (sfT K (pvF 0) (a2o d5o (by rfl) T.g1o Nm (a0g (g9y (f7z (by rfl) T.h3i (a0g (pfT K (pvF 0)) (a0g (pvF 2) a0i))) (fun _ _ _ _ _=>(a6z (a0g (a0v a2s (pvF 0) a0j) (a0g (a2m i5v h8z T.i5q T.f8q.kp T.i5p (a0g (a0v a2s (pvF 0) a0j) (a0g (pfT K (pvF 2)) a0i))) (a0g (a2m i5v h8z T.i5q T.f8q.kp T.i5p (a0g (pvF 1) (a0g (pfT K (pvF 2)) a0i))) a0i))))) (h6n (sc:=a0l b9s) (N:=["self","corners","slopes"]) rfl rfl (by decide +kernel)) rfl) a0i))))))),?_⟩
  clear hu
  walk_at"rf*"
  refine fun ct H1 n1 S1 h1=>?_
  have ho1:=S1 _ _ ho
  walk_at"rf*"
  refine fun H2 B2 h2=>?_
  have cto:ct≠o:=fun e=>by rw [e,ho] at n1; cases n1
  have j7f:=B2 _ _ cto h1
  have hl2:=B2 _ _ lo (S1 _ _ hl)
  have R2:=(R.same S1).d6t ho1 B2
  clear ho1 h1
  walk_at"rf*"
  refine⟨ps,rfl,cs,R2,Bo,L1,L12,fun l3 H3 qs ss n3 S3 h3 R3 L3 B3 V3 Z3=>?_⟩
  have hl3:=S3 _ _ hl2
  have R23:=R2.same S3
  have ho3:=S3 _ _ h2
  have j8u:=S3 _ _ j7f
  have ql:=R3.1
  clear hl2 j7f h2
  try walk_at"rf"
  refine⟨⟨_,SqL.of hl3⟩,fun D4 H4 n4 S4 h4=>?_⟩
  refine f9z (cs.map fun c=>V.int (c.2.den:Nat)) (by rw [Bv,Bv,pl]) n4 S4 h4 (SqL.of hl3) (by rw [Bv,pl,Dm]; lia) ?_ ?_
  .intro i x z H' Q' hx hz S' q'
   walk_at"@R23.get hx@ep c g@crfl hc hp hg"
   rw [C9,hc] at hz
   cases hz
   have hp':=S' _ _ hp
   have hg':=S' _ _ hg
   unfold d5l at hg'
   clear ho3 j8u hl3 h3 h4 hp hg
   walk_at"rf*"
  intro H5 S5 h5
  have h35:=S5 _ _ h3
  try walk_at"rf"
  refine⟨⟨_,SqL.of h35⟩,fun D6 H6 n6 S6 h6=>?_⟩
  have R35:=R3.same S5
  refine f9z (ss.map fun s=>V.int (s.den:Nat)) (by rw [Bv,Bv,ql]) n6 S6 h6 (SqL.of h35) (by rw [Bv,ql,Dm]; lia) ?_ ?_
  .intro i x z H' Q' hx hz S' q'
   walk_at"@R35.get hx@ep c@crfl hc hp"
   rw [C9,hc] at hz
   cases hz
   have hp':=S' _ _ hp
   unfold d5l at hp'
   clear ho3 j8u hl3 h3 h4 hp h35 h5 h6
   walk_at"rf*"
  intro H7 S7 h7
  have h57:=S7 _ _ h5
  clear h4 h6 h35
  walk_at"rf*"
  refine⟨by rw [Dm]; lia,fun b8 H8 n8 S8 h8=>?_⟩
  have e8:cs.map (fun c=>V.int (c.2.den:Nat))++ss.map (fun s=>V.int (s.den:Nat))=((cs.map fun c=>(c.2.den:Int))++ss.map fun s=>(s.den:Int)).map V.int:=by
   rw [Co,Hv,Hv]
   rfl
  rw [e8] at h8
  have S38:Same H3 H8:=S5.trans (S7.trans S8)
  have ho8:=S38 _ _ ho3
  have k5m:=S38 _ _ j8u
  have j8v:=S38 _ _ h3
  have R8:=R23.same S38
  have Q8:=R3.same S38
  have bk:∀ b∈(cs.map fun c=>(c.2.den:Int))++ss.map fun s=>(s.den:Int),1<=b/\intBits b<=64:=fun b hb=>by
   rcases De.mp hb with z | z
   .obtain⟨c,hc,rfl⟩:=E4.mp z
    have:=Bo.1 c hc
    have:=c.2.den_pos
    lia
   .obtain⟨s,hs,rfl⟩:=E4.mp z
    have:=B3 s hs
    have:=s.den_pos
    lia
  have lk:=(f5r _ _ rfl bk)
  have dv:=lk.2.2
  have ll:((cs.map fun c=>(c.2.den:Int))++ss.map fun s=>(s.den:Int)).length=cs.length+ss.length:=by simp
  clear h57 h7 h5 ho3 j8u hl3
  walk_at"rf"
  refine⟨_,h8,64,bk,by rw [ll]; lia,?_⟩
  rw [ll] at lk
  have hSw:SwOk cs ss (g5e ((cs.map fun c=>(c.2.den:Int))++ss.map fun s=>(s.den:Int))):=⟨L3,V3,Z3,lk.1,by lia,fun c hc=>dv _ (Dp _ (E4.mpr ⟨c,hc,rfl⟩)),fun s hs=>dv _ (Cj _ (E4.mpr ⟨s,hs,rfl⟩)),fun s hs=>(B3 s hs).1,by lia,rfl⟩
  clear dv
  generalize g5e ((cs.map fun c=>(c.2.den:Int))++ss.map fun s=>(s.den:Int))=S at lk hSw
  clear h8
  walk_at"rf*"
  refine fun H9 B9 h9=>?_
  have k2m:=B9 _ _ cto k5m
  have l3o:l3≠o:=fun e=>by rw [e,ho8] at j8v; cases j8v
  have k5n:=B9 _ _ l3o j8v
  have R9:=R8.d6t ho8 B9
  have Q9:=Q8.d6t ho8 B9
  clear ho8 k5m j8v
  walk_at"rf*"
  refine fun D10 H10 n10 S10 h10=>?_
  refine h2e (xs:=ps.map V.ref) (ys:=qs.map V.ref) (fun i zs H'=>Same H9 H'/\H' D10=some (.lst zs)/\zs.length=i/\∃ us,zs=us.map V.ref/\h0i D10 H' us (((Fi (lnOf S) cs ss).map lnV).take i)) ⟨S10,h10,rfl,[],rfl,.nil⟩ (by rw [Bv,pl,Dm]; lia) ?_ ?_ ?_
  .intro i zs H' hi ⟨S',h',zl,_⟩
   exact⟨h',SqT.of (S' _ _ k2m),SqL.of (S' _ _ k5n),zl⟩
  .intro i x y zs H' p H'' hx hy ⟨S',h',zl,us,ez,TN⟩ np S'' h''
   walk_at"@R9.get hx@epc c g@crfl hc hpc hg"
   walk_at"@Q9.get hy@eps' s'@crfl hs' hps"
   have Oc:=Bo.1 c (Ca hc)
   have Bs:=B3 s' (Ca hs')
   have SS:=S'.trans S''
   have hpc':=SS _ _ hpc
   have hg':=SS _ _ hg
   have ho':=SS _ _ h9
   have hD':=S'' _ _ h'
   clear k2m k5n h9 h10 hpc hg h' h''
   walk_at"rf*"
   refine⟨c.2,rfl,by lia,by lia,by lia,s',SS _ _ hps,by lia,by lia,by lia,by decide,fun u H3' n3' S3' h3'=>⟨S3' _ _ hD',fun H4' B4' h4'=>⟨(SS.trans S3').step n10 B4',h4',by rw [C1,zl]; rfl,us++[u],by rw [ez,Co]; rfl,?_⟩⟩⟩
   have uD:u≠D10:=fun e=>by rw [e,hD'] at n3'; cases n3'
   have et:((Fi (lnOf S) cs ss).map lnV).take (i+1)=((Fi (lnOf S) cs ss).map lnV).take i++[lnV (lnOf S c s')]:=by
    rw [Cu,C9,Jp,hc,hs']
    rfl
   rw [et]
   exact (((TN.same S'').same S3').snoc uD h3').d6t B4'
  intro zs H11 ⟨S11,h11,zl,us,ez,TN⟩
  have j1f:=S11 _ _ h9
  have j7h:=S11 _ _ k2m
  clear h10
  walk_at"rf*"
  refine fun ln H12 n12 S12 h12=>?_
  have j7i:=S12 _ _ j1f
  have k2n:=S12 _ _ j7h
  clear h11 j1f j7h
  walk_at"rf*"
  refine fun H13 B13 h13=>?_
  have el:((Fi (lnOf S) cs ss).map lnV).take (min (ps.map V.ref).length (qs.map V.ref).length)=(Fi (lnOf S) cs ss).map lnV:=Ef (by rw [Bv,Km,Bv,Bv,pl,ql]; exact C0 _)
  rw [el] at TN
  have lno:ln≠o:=fun e=>by rw [e,j7i] at h12; cases h12
  exact k ct ln S ss us H13 (fun b u hb e=>B13 _ _ hb (S12 _ _ (S11 _ _ (B9 _ _ hb (S38 _ _ (S3 _ _ (B2 _ _ hb (S1 _ _ e)))))))) n1 h13 (B13 _ _ cto k2n) (B13 _ _ lno h12) ((TN.tps.same S12).d6t j7i B13) hSw
theorem i3o(T:Tx K mg A):a1j P A.wd K mg base CX0 1 A.b7l A.b4g ["self","gain"] (i9j A.a8u):=by
 have a4n:=T.a4n
 have a1w:=T.a1w
 refine T.c8k.ok g4m (fun _ _ _ _ h=>g0h h) (fun cdv A' outer s H vs Q E hr h=>?_)
 .walk_at"h"
  walk_at"@i2m h@eo gt@czE@edx@cho k"
  walk_at"g"
  have hu:=hr.units
  refine⟨_,(a0k (sfT K (pvF 0) (pvF 1))),?_⟩
  clear hu
  walk_at"rf*"
  intro H1 B1 h1
  exact k H1 B1 h1
theorem h9a(T:Tx K mg A):a1j P A.wd K mg base CX0 1 A.b4i A.b1o ["self","many"] (i2y A.a4s):=by
 have a3l:=T.a3l
 have a1v:=T.a1v
 refine T.c4k.ok g0m (fun _ _ _ _ h=>g0g h) (fun cdv A' outer s H vs Q E hr h=>?_)
 .walk_at"h"
  walk_at"@j5e h@eo n@czE@edx@cho k"
  walk_at"g"
  have hu:=hr.units
  refine⟨_,(a0k (sfT K (pvF 0) (pvF 1))),?_⟩
  clear hu
  walk_at"rf*"
  intro H1 B1 h1
  exact k H1 B1 h1
theorem i3p(T:Tx K mg A):a1j P A.wd K mg base CX0 1 A.b7p A.b4o ["self","gain","many"] (i9k A.a7q):=by
 have a4o:=T.a4o
 have a1y:=T.a1y
 have a1z:=T.a1z
 refine T.c8o.ok g4n (fun _ _ _ _ h=>h7n h) (fun cdv A' outer s H vs Q E hr h=>?_)
 .walk_at"h"
  walk_at"@h7m h@eo gt n@czE@edx@cho k"
  walk_at"g"
  have hu:=hr.units
  refine⟨_,(a0h (sfT K (pvF 0) (pvF 1))
   (a0k (sfT K (pvF 0) (pvF 2)))),?_⟩
  clear hu
  walk_at"rf*"
  intro H1 B1 h1
  walk_at"rf*"
  intro H2 B2 h2
  exact k H2 (fun b u hb e=>B2 _ _ hb (B1 _ _ hb e)) h2
theorem i5w:∀ {cs:List (Int×Rat)} {ss:List Rat},ss.length=cs.length->(∀ j s,ss[j]? = some s->SlR cs j s)->(cs≠[]->ss[cs.length - 1]? = some 0)->(∀ (i:Nat) c d,cs[i]? = some c->cs[i+1]? = some d->c.1 < d.1)->ss=j6e cs
 | [],ss,hl,_,_,_=>Fh.mp hl
 | [c],ss,hl,_,h0,_=>by
  obtain⟨s,rfl⟩:=List.length_eq_one_iff.mp hl
  have : [s][0]? = some 0:=h0 (by simp)
  have:s=0:=by simpa using this
  rw [this]
  rfl
 | c :: d :: r,[],hl,_,_,_=>by simp at hl
 | c :: d :: r,s :: ss,hl,hs,h0,Bo=>by
  have ih:=i5w (cs:=d :: r) (ss:=ss) (by simpa using hl) (fun j s' h c' d' h1 h2=>hs (j+1) s' (by rw [D7]; exact h) c' d' (by rw [D7]; exact h1) (by rw [D7]; exact h2)) (fun _=>by
   have:=h0 (by simp)
   rw [Cq,Nat.add_sub_cancel,Cq,D7] at this
   exact this) (fun i c' d' h1 h2=>Bo (i+1) c' d' (by rw [D7]; exact h1) (by rw [D7]; exact h2))
  have lt:=Bo 0 c d rfl rfl
  have p:=hs 0 s rfl c d rfl rfl
  have z:((d.1 - c.1:Int):Rat)≠0:=fun e=>by
   have:=Lu.mp (e.trans (by rfl:(0:Rat)=((0:Int):Rat)))
   lia
  show s :: ss=_ :: j6e (d :: r)
  rw [ih,<- p,Mr,Rat.mul_inv_cancel _ z,O6]
theorem j7j{S:Int}(Bo:∀ (i:Nat) c d,cs[i]? = some c->cs[i+1]? = some d->c.1 < d.1)(h:SwOk cs ss S):swX cs=(ss,S):=by
 have e:=i5w h.1 h.2.1 (fun _=>h.2.2.1) Bo
 rw [h.2.2.2.2.2.2.2.2.2,e]
 rfl
variable {d:Dt}
theorem j8s.same{H H':Hp}{fs:List (Str×V)}(h:j8s H fs d)(S:Same H H'):j8s H' fs d:=by
 cases d with
 | gain y=>obtain⟨g,e,h1⟩:=h; exact⟨g,e,S _ _ h1⟩
 | delay n=>exact h
 | echo y n t=>obtain⟨g,fa,e,h1,h2⟩:=h; exact⟨g,fa,e,S _ _ h1,S _ _ h2⟩
 | back y n=>obtain⟨g,e,h1⟩:=h; exact⟨g,e,S _ _ h1⟩
 | swell cs=>obtain⟨ct,ln,us,ps,e,h1,h2,h3,h4,h5⟩:=h; exact⟨ct,ln,us,ps,e,S _ _ h1,S _ _ h2,h3.same S,h4,h5.same S⟩
 | hall y n=>exact h.elim
theorem IsP.same{H H':Hp}(h:IsP A H o d)(S:Same H H'):IsP A H' o d:=by
 walk_at"@h@edx fs@ch1 h2"; clear h
 exact⟨dx,fs,S _ _ h1,h2.same S⟩
theorem g7d.crn(h:g7d cs):h8l cs:=⟨fun c hc=>⟨(h.1 c hc).1,Int.le_trans (h.1 c hc).2.1 (by decide),(h.1 c hc).2.2.b.1,(h.1 c hc).2.2.b.2⟩,h.2.1⟩
variable {us:List Addr}
theorem h9b{u:Addr}(h:us[i]? = some u):atI (us.map V.ref) (i:Int)=some (.ref u):=c0j (by rw [C9,h]; rfl)
theorem i9l.same{H H':Hp}{S:Int}(h:i9l C H o ps cs ss S)(Z:Same H H'):i9l C H' o ps cs ss S:=by
 walk_at"@h@edx ct ln us@ch1 h2 h3 h4 h5"; clear h
 exact⟨dx,ct,ln,us,Z _ _ h1,Z _ _ h2,Z _ _ h3,h4.same Z,h5.same Z⟩
theorem h0t{S:Int}(h:Tps H us ((Fi (lnOf S) cs ss).map lnV))(hl:ss.length=cs.length)(hi:i < cs.length) :
  ∃ u c s,us[i]? = some u/\cs[i]? = some c/\ss[i]? = some s/\H u=some (.tup (lnV (lnOf S c s))):=by
 have ul:us.length=cs.length:=by
  rw [h.1,Bv,Km,hl,Io]
 have h1:us[i]? = some us[i]:=By (by omega)
 have h2:cs[i]? = some cs[i]:=By (by omega)
 have h3:ss[i]? = some ss[i]:=By (by omega)
 refine⟨_,_,_,h1,h2,h3,h.2 i _ _ h1 ?_⟩
 rw [C9,Jp,h2,h3]
 rfl
theorem i9x(T:Tx K mg A):a1j P A.wd K mg base CX0 1 A.a7i A.a6g ["self","at"] (j6f A.a2w):=by
 have a2n:=T.a2n
 have a0s:=T.a0s
 have a0u:=T.a0u
 have a0z:=T.a0z
 refine T.b5w.ok c0k (fun _ _ _ _ h=>g0g h) (fun cdv A' outer s H vs Q E hr h=>?_)
 .walk_at"h"
  obtain⟨o,t,zE,⟨ps,cs,ss,S,⟨dx,ct,ln,us,ho,hct,hln,TP,R⟩,Bo,L1,L12,k⟩⟩:=j5e h
  walk_at"g"
  have hu:=hr.units
  have ul:us.length=cs.length:=by
   rw [TP.1,Bv,Km,Bo.1,Io]
  unfold swF at ho
  refine⟨_,(a0h (a1t 2 c0k.nd a0j)
   (a0h (d0g Ck (pw_and (a3n of_lt (a0t a1k (pvF 2) a0j) (a3p a1q T.b0w Dq (a0g (pfT K (pvF 0)) a0i))) (pw_and1 (a3n of_le (a0v a2s (a0v a2s (pfT K (pvF 0)) (a0t a1k (pvF 2) a0j)) a0j) (pvF 1)))).pt
   (a0k (i7m (i:=2) c0k.nd rfl (Kp rfl) a0j i7l)))
   (a0k (a0w (a0v a2s (pfT K (pvF 0)) (pvF 2)))))),?_⟩
  clear hu
  walk_at"rd"
  refine d0h (fun m O H1=>∃ j:Nat,O = [some (.ref o),some (.int t),some (.int j)]/\H1=H/\j < cs.length/\m=cs.length - j/\(j=0\/∀ c,cs[j]? = some c->c.1<=t)) _
   ⟨0,rfl,rfl,by lia,rfl,.inl rfl⟩ ?_
  rintro m O H1 ⟨j,rfl,rfl,hj,rfl,hjt⟩
  have fin:(∀ d,cs[j+1]? = some d->t < d.1)->∃ v,atI (O0 V.ref us) (j:Int)=some v/\Q v H1:=fun hd=>by
   obtain⟨u,c,s',e1,e2,e3,e4⟩:=h0t TP Bo.1 hj
   exact⟨_,h9b e1,k j u c s' e2 e3 e4 (hjt.imp id fun z=>z c e2) hd⟩
  walk_at"rd*"
  split
  .obtain⟨u,c,s',e1,e2,e3,e4⟩:=h0t TP Bo.1 (i:=j+1) (by lia)
   have e5:=h9b e1
   rw [Gx] at e5
   refine⟨_,e5,?_⟩
   unfold lnV lnOf at e4
   walk_at"rd*"
   split
   .rename_i hc
    exact⟨_,by lia,j+1,by lia,by lia,rfl,.inr fun c' h'=>by rw [e2] at h'; cases h'; exact hc⟩
   .rename_i hc
    exact fin fun d hd=>by
     rw [e2] at hd
     cases hd
     lia
  .rename_i hc
   refine fin fun d hd=>?_
   have:=(Bu.mp hd).1
   lia
theorem h9c(T:Tx K mg A):a1j P A.wd K mg base CX0 2 A.a7j A.a6h ["self","at"] (i3a A.a2w):=by
 have f5u:a1j P A.wd K mg base CX0 1 _ _ _ _:=i9x T
 have a2n:=T.a2n
 have a0s:=T.a0s
 have a0u:=T.a0u
 have a0z:=T.a0z
 refine T.b5y.ok c9p (fun _ _ _ _ h=>g0g h) (fun cdv A' outer s H vs Q E hr h=>?_)
 .walk_at"h"
  walk_at"@j5e h@eo t@czE@eps cs ss S@cI Bo CO L1 L12 t0 t1 k"
  walk_at"g"
  have hu:=hr.units
  walk_at"@id I@edx ct ln us@cho _"
  unfold swF at ho
  refine⟨_,(a0h (a1t 2 c9p.nd (a4r (pvF 0) T.a2n T.c0m f5u hr.dn T.f4t .nil a3i (a0g (pvF 1) a0i)))
   (a0k (a0w (a0t a1k (a0v a2s (pvF 2) a0j) (a0t a2l (a0v a2s (pvF 2) a0j) (a3p (g3n rfl) T.j5w boot_max (a0g a0j (a0g (a0t d3m (pvF 1) (a0v a2s (pvF 2) a0j)) a0i)))))))),?_⟩
  clear hu
  walk_at"rf*"
  refine⟨ps,cs,ss,S,I,Bo,L1,L12,fun m u c s' e1 e2 e3 e4 e5=>?_⟩
  unfold lnV lnOf at e3
  have Oc:=CO.1 c (Ca e1)
  walk_at"@Bo@c_ _ _ _ O5 _ _ O8 O9"; clear Bo
  clear O9
  have b1:intBits (c.2.num*S.fdiv c.2.den)<=10+1600:=Cn Oc.2.2.1 (Fo O5)
  have b2:intBits (s'.num*S.fdiv s'.den)<=60+1600:=Cn (O8 s' (Ca e2)) (Fo O5)
  have b3:intBits (max 0 (t - c.1))<=64:=Ei (by omega) (by omega)
  have b4:=Cn b2 b3
  have b5:=Ff b1 b4
  have q:=k m c s' ⟨e1,e2,e4,e5⟩ (Bz b5 (by decide))
  unfold g1r at q
  walk_at"rf*"
  exact Dr b2 b3 (by decide)
theorem h3p(T:Tx K mg A):a1j P A.wd K mg base CX0 1 A.a8g A.a6t ["self"] (h8o A.a2w):=by
 have a2n:=T.a2n
 have a0s:=T.a0s
 have a0u:=T.a0u
 have a0z:=T.a0z
 refine T.c0y.ok f6s (fun _ _ _ _ h=>d3p h) (fun cdv A' outer s H vs Q E hr h=>?_)
 .walk_at"h"
  obtain⟨o,zE,⟨ps,cs,ss,S,⟨dx,ct,ln,us,ho,_⟩,k⟩⟩:=g7g h
  walk_at"g"
  have hu:=hr.units
  unfold swF at ho
  refine⟨_,(a0k (a0w (pfT K (pvF 0)))),?_⟩
  clear hu
  walk_at"rf*"
theorem h3q(T:Tx K mg A):a1j P A.wd K mg base CX0 1 A.b1s A.a9g ["self"] g5f:=by
 refine T.c0z.ok f6t (fun _ _ _ _ h=>d3p h) (fun cdv A' outer s H vs Q E hr h=>?_)
 .walk_at"h"
  obtain⟨o,zE,k⟩:=g7g h
  walk_at"g"
  have hu:=hr.units
  refine⟨_,(a0k (a0w a0j)),?_⟩
  clear hu
  walk_at"rd*"
  all_goals exact k
theorem i3q(T:Tx K mg A):a1j P A.wd K mg base CX0 1 A.a4z A.b1n ["self"] f5l:=by
 refine T.c4i.ok g0k (fun _ _ _ _ h=>d3p h) (fun cdv A' outer s H vs Q E hr h=>?_)
 .walk_at"h"
  obtain⟨o,zE,k⟩:=g7g h
  walk_at"g"
  have hu:=hr.units
  refine⟨_,(a0k (a0w (a6z a0i))),?_⟩
  clear hu
  walk_at"rs"
  refine⟨Dx _,fun t H1 n1 S1 h1=>k _ _ ⟨t,rfl,n1,S1,h1⟩⟩
theorem h9d(T:Tx K mg A):a1j P A.wd K mg base CX0 1 A.b0o A.a7v ["self"] (i3b A.a8u):=by
 have a4n:=T.a4n
 have a1w:=T.a1w
 refine T.c4j.ok g0l (fun _ _ _ _ h=>d3p h) (fun cdv A' outer s H vs Q E hr h=>?_)
 .walk_at"h"
  obtain⟨o,zE,⟨p,q,⟨dx,gt,ho,hg⟩,k⟩⟩:=g7g h
  walk_at"g"
  have hu:=hr.units
  refine⟨_,(a0k (a0w (a0v a2s (pfT K (pvF 0)) a0j))),?_⟩
  clear hu
  walk_at"rf*"
theorem i9y(T:Tx K mg A):a1j P A.wd K mg base CX0 2 A.a6q A.a5m ["self","state","tops","bottom"] (j6g A.a8u):=by
 have b0y:a1j P A.wd K mg base CX0 1 _ _ _ _:=f1p T
 have a4n:=T.a4n
 have a1w:=T.a1w
 refine T.b9h.ok f3q (fun _ _ _ _ h=>g0i h) (fun cdv A' outer s H vs Q E hr h=>?_)
 .walk_at"h"
  obtain⟨o,st,x,bt,zE,⟨p,q,xs,⟨dx,gt,ho,hg⟩,hx,lx,mx,k⟩⟩:=g7h h
  walk_at"g"
  have hu:=hr.units
  refine⟨_,(a0k (a0w (a6z (a0g (a2m b0y hr.dn T.c3q T.a8m.kp T.c3p (a0g (pvF 2) (a0g (a0v a2s (pfT K (pvF 0)) a0j) a0i))) (a0g (pvF 1) a0i))))),?_⟩
  clear hu
  walk_at"rf*"
  refine⟨xs,rfl,mx,by omega,?_⟩
  rintro _ H1 ⟨ou,rfl,n1,S1,h1⟩
  walk_at"rf*"
  intro r H2 n2 S2 h2
  exact k r ou st H2 (S1.trans S2) (S1.free n2) n1 h2 (S2 _ _ h1)
theorem g5m(T:Tx K mg A):a1j P A.wd K mg base CX0 1 A.b0n A.b1m ["self"] h0j:=by
 refine T.c4h.ok g0j (fun _ _ _ _ h=>d3p h) (fun cdv A' outer s H vs Q E hr h=>?_)
 .walk_at"h"
  obtain⟨o,zE,k⟩:=g7g h
  walk_at"g"
  have hu:=hr.units
  refine⟨_,(a0k (a0w a0j)),?_⟩
  clear hu
  walk_at"rd"
  exact k
theorem i9z(T:Tx K mg A):a1j P A.wd K mg base CX0 2 A.a5n A.a4l ["self","state","tops","bottom"] (j6h A.a4s):=by
 have d2m:a1j P A.wd K mg base CX0 1 _ _ _ _:=d8r T
 have d2n:a1j P A.wd K mg base CX0 1 _ _ _ _:=g8q T
 have a3l:=T.a3l
 have a1v:=T.a1v
 refine T.b5u.ok c9o (fun _ _ _ _ h=>g0i h) (fun cdv A' outer s H vs Q E hr h=>?_)
 .walk_at"h"
  obtain⟨o,st,x,bt,zE,⟨n,zs,xs,⟨dx,ho⟩,hz,hx,lz,lx,k⟩⟩:=g7h h
  walk_at"g"
  have hu:=hr.units
  refine⟨_,(a0h (a1t 4 c9o.nd (a0t a1k (a2o b1h (by rfl) T.d2k Ic (a0g (pvF 1) a0i)) (pvF 2)))
   (a0k (a0w (a6z (a0g (a2m d2m hr.dn T.f4n T.c3g.kp T.f4m (a0g (pvF 4) (a0g (a3p a1q T.b0w Dq (a0g (pvF 1) a0i)) (a0g (pfT K (pvF 0)) a0i)))) (a0g (a2m d2n hr.dn T.f4p T.c3h.kp T.f4o (a0g (pvF 4) (a0g (pfT K (pvF 0)) a0i))) a0i)))))),?_⟩
  clear hu
  walk_at"rs*"
  intro l1 H1 n1 S1 h1
  have hx1:=S1 _ _ hx
  walk_at"rs*"
  refine⟨by rw [Dm]; lia,?_⟩
  intro kn H2 n2 S2 h2
  rw [<- Co] at h2
  have S02:Same H H2:=S1.trans S2
  have ho2:=S02 _ _ ho
  have hz2:=S02 _ _ hz
  clear h1 hx1
  walk_at"rs*"
  refine⟨zs++xs,rfl,zs.length,rfl,n,rfl,by simp,by simp; lia,?_⟩
  rintro _ H3 ⟨ou,rfl,n3,S3,h3⟩
  have ho3:=S3 _ _ ho2
  have h23:=S3 _ _ h2
  clear h2 ho2 hz2
  walk_at"rs*"
  refine⟨zs++xs,rfl,n,rfl,by simp; lia,?_⟩
  rintro _ H4 ⟨s2,rfl,n4,S4,h4⟩
  walk_at"rs*"
  intro r H5 n5 S5 h5
  exact k r ou s2 H5 (S02.trans (S3.trans (S4.trans S5))) ((S02.trans (S3.trans S4)).free n5) (S02.free n3) h5 (S5 _ _ (S4 _ _ h3)) (S5 _ _ h4)
theorem h9e(T:Tx K mg A):a1j P A.wd K mg base CX0 1 A.b0q A.a7y ["self"] (i3c A.a7q):=by
 have a4o:=T.a4o
 have a1y:=T.a1y
 have a1z:=T.a1z
 refine T.c4o.ok g0p (fun _ _ _ _ h=>d3p h) (fun cdv A' outer s H vs Q E hr h=>?_)
 .walk_at"h"
  walk_at"@g7g h@eo@czE@edx gt n p q@cho hg k"
  walk_at"g"
  have hu:=hr.units
  unfold bkF at ho
  refine⟨_,(a0k (a0w (a0v a2s (pfT K (pvF 0)) a0j))),?_⟩
  clear hu
  walk_at"rf*"
theorem j0a(T:Tx K mg A):a1j P A.wd K mg base CX0 2 A.a6s A.a5p ["self","state","tops","bottom"] (j6i A.a7q):=by
 have d2m:a1j P A.wd K mg base CX0 1 _ _ _ _:=d8r T
 have d2n:a1j P A.wd K mg base CX0 1 _ _ _ _:=g8q T
 have c0h:a1j P A.wd K mg base CX0 1 _ _ _ _:=g1v T
 have b0y:a1j P A.wd K mg base CX0 1 _ _ _ _:=f1p T
 have a4o:=T.a4o
 have a1y:=T.a1y
 have a1z:=T.a1z
 refine T.b9j.ok b5s (fun _ _ _ _ h=>g0i h) (fun cdv A' outer s H vs Q E hr h=>?_)
 .walk_at"h"
  walk_at"@g7h h@eo st x bt@czE@edx gt n p q zs xs@cho hg hz hx lz lx mz mx mq m0 k"
  walk_at"g"
  have hu:=hr.units
  have f0t:b2u 1 _:=hr.dn
  unfold bkF at ho
  refine⟨_,(a0h (a1t 4 b5s.nd (a0t a1k (a2o b1h (by rfl) T.d2k Ic (a0g (pvF 1) a0i)) (pvF 2)))
   (a0h (a1t 5 b5s.nd (a2m d2m hr.dn T.f4n T.c3g.kp T.f4m (a0g (pvF 4) (a0g (a3p a1q T.b0w Dq (a0g (pvF 1) a0i)) (a0g (pfT K (pvF 0)) a0i)))))
   (a0h (a1t 6 b5s.nd (a2m c0h hr.dn T.d2g T.b0s.kp T.d1z (a0g (a2m b0y f0t T.c3q T.a8m.kp T.c3p (a0g (pvF 2) (a0g (a0v a2s (pfT K (pvF 0)) a0j) a0i))) (a0g (a2m b0y f0t T.c3q T.a8m.kp T.c3p (a0g (pvF 5) (a0g (i6h h6b (a0v a2s (pfT K (pvF 0)) a0j)) a0i))) a0i))))
   (a0k (a0w (a6z (a0g (pvF 6) (a0g (a2m d2n hr.dn T.f4p T.c3h.kp T.f4o (a0g (pvF 4) (a0g (pfT K (pvF 0)) a0i))) a0i)))))))),?_⟩
  clear hu
  walk_at"rs*"
  intro l1 H1 n1 S1 h1
  have hx1:=S1 _ _ hx
  walk_at"rs*"
  refine⟨by rw [Dm]; lia,?_⟩
  intro kn H2 n2 S2 h2
  rw [<- Co] at h2
  have S02:Same H H2:=S1.trans S2
  have ho2:=S02 _ _ ho
  have hz2:=S02 _ _ hz
  clear h1 hx1
  walk_at"rs*"
  refine⟨zs++xs,rfl,zs.length,rfl,n,rfl,by simp,by simp; lia,?_⟩
  rintro _ H3 ⟨hd,rfl,n3,S3,h3⟩
  have S03:=S02.trans S3
  have ho3:=S03 _ _ ho
  have hg3:=S03 _ _ hg
  have hx3:=S03 _ _ hx
  have h23:=S3 _ _ h2
  clear h2 ho2 hz2
  walk_at"rs*"
  refine⟨xs,rfl,mq,by lia,?_⟩
  rintro _ H4 ⟨t4,rfl,n4,S4,h4⟩
  have ho4:=S4 _ _ ho3
  have hg4:=S4 _ _ hg3
  have h34:=S4 _ _ h3
  clear ho3 hg3 hx3
  walk_at"rs*"
  have dl:=b9l (zs++xs) zs.length n
  refine⟨_,rfl,?_,by rw [dl]; simp; lia,?_⟩
  .intro y hy
   rcases h0r hy with h | h
   .rcases De.mp h with h | h
    .exact mz y h
    .exact mx y h
   .rw [h]; exact m0
  rintro _ H5 ⟨t5,rfl,n5,S5,h5⟩
  have h45:=S5 _ _ h4
  walk_at"rs*"
  refine⟨_,rfl,_,rfl,by simp; lia,by rw [Bv,dl]; simp; lia,?_⟩
  rintro _ H6 ⟨ou,rfl,n6,S6,h6⟩
  have S36:Same H3 H6:=(S4.trans S5).trans S6
  have ho6:=S36 _ _ (S03 _ _ ho)
  have h26:=S36 _ _ h23
  clear h4 h45 ho4 hg4 h34 h5 h3
  walk_at"rs*"
  refine⟨zs++xs,rfl,n,rfl,by simp; lia,?_⟩
  rintro _ H7 ⟨s2,rfl,n7,S7,h7⟩
  walk_at"rs*"
  intro r H8 n8 S8 h8
  have S06:=S03.trans S36
  exact k r ou s2 H8 (S06.trans (S7.trans S8)) ((S06.trans S7).free n8) ((S03.trans (S4.trans S5)).free n6) (S06.free n7) h8 (S8 _ _ (S7 _ _ h6)) (S8 _ _ h7)
theorem j1g{a b:List Int}(hl:a.length=b.length)(h:∀ i,i < a.length->a.getD i 0=b.getD i 0):a=b:=by
 apply Kr
 intro i
 by_cases hi:i < a.length
 .have:=h i hi
  rw [C3,C3,By hi,By (by lia)] at this
  rw [By hi,By (by lia)]
  simpa using this
 .rw [Dz (by lia),Dz (by lia)]
theorem g1x(a b:List Int)(i:Nat):(a++b).getD i 0=if i < a.length then a.getD i 0 else b.getD (i - a.length) 0:=by
 rw [C3]
 split
 .rename_i h
  rw [Cm h,<- C3]
 .rename_i h
  rw [Df (by lia),<- C3]
theorem h9f(a:List Int)(k i:Nat):(a.drop k).getD i 0=a.getD (k+i) 0:=by
 rw [C3,Jm,<- C3]
variable {xs ys:List Int}
theorem h0u{k:Nat}(h:k<=xs.length):xs.drop k++ys=(xs++ys).drop k:=(List.drop_append_of_le_length h).symm
theorem f5v{N k:Nat}(hk:k<=N):g6i (xs.drop (xs.length - N)++ys) (xs.drop (xs.length - N)).length k=g6i (xs++ys) xs.length k:=by
 refine j1g (by rw [b9l,b9l]; simp) fun i hi=>?_
 rw [b9l,C1] at hi
 rw [d6u (by rw [C1]; lia),d6u (by rw [C1]; lia),h0u (by lia),Ev,h9f]
 by_cases h1:k<=xs.length+i
 .by_cases h2:N<=xs.length
  .rw [if_pos h1,if_pos (by lia)]
   congr 1
   lia
  .have e:xs.length - N=0:=by lia
   rw [e,if_pos h1,if_pos (by lia)]
   congr 1
   lia
 .rw [if_neg h1,if_neg (by lia)]
theorem f5w(xs ys:List Int)(N:Nat):(xs.drop (xs.length - N)++ys).drop ((xs.drop (xs.length - N)++ys).length - N)=(xs++ys).drop ((xs++ys).length - N):=by
 rw [h0u (by omega),List.drop_drop,Ev,C1]
 congr 1
 omega
theorem i5x{S t:Int}:∀ {cs:List (Int×Rat)} {ss:List Rat} {m:Nat} {c:Int×Rat} {s:Rat},(∀ (i:Nat) c d,cs[i]? = some c->cs[i+1]? = some d->c.1 < d.1)->i5r cs ss t m c s->h4i S t cs ss=g1r S t c s
 | [],ss,m,c,s,_,L=>by
  have:=L.1
  simp at this
 | c0 :: cs,[],m,c,s,_,L=>by
  have:=L.2.1
  simp at this
 | c0 :: cs,s0 :: ss,0,c,s,_,L=>by
  walk_at"@L@cl1 l2 l3 l4"; clear L
  simp at l1 l2
  subst l1 l2
  unfold h4i
  cases cs with
  | nil=>rfl
  | cons d r =>
   rw [D7] at l4
   have:=l4 d rfl
   show (if t < d.1 then _ else _)=_
   rw [if_pos this]
 | c0 :: cs,s0 :: ss,m+1,c,s,Bo,L=>by
  walk_at"@L@cl1 l2 l3 l4"; clear L
  rw [D7] at l1 l2
  have O':∀ (i:Nat) c d,cs[i]? = some c->cs[i+1]? = some d->c.1 < d.1:=fun i c d h1 h2=>Bo (i+1) c d (by rw [D7]; exact h1) (by rw [D7]; exact h2)
  have ct:c.1<=t:=by
   rcases l3 with z | z
   .lia
   .exact z
  have ih:=i5x (S:=S) (t:=t) (cs:=cs) (ss:=ss) (m:=m) O' ⟨l1,l2,.inr ct,fun d hd=>l4 d (by rw [D7]; exact hd)⟩
  unfold h4i
  cases cs with
  | nil=>simp at l1
  | cons d r =>
   have mono:∀ (k:Nat) e,(d :: r)[k]? = some e->d.1<=e.1:=fun k=>by
    induction k with
    | zero=>intro e he; simp at he; rw [he]; exact Int.le_refl _
    | succ k ih2 =>
     intro e he
     have hk:=(Bu.mp he).1
     have h1 : (d :: r)[k]? = some ((d :: r)[k]'(by lia)) := By _
     have:=O' k _ e h1 he
     have:=ih2 _ h1
     lia
   have:=mono m c l1
   show (if t < d.1 then _ else _)=_
   rw [if_neg (by lia)]
   exact ih
theorem StV.same{H H':Hp}{st:V}(h:StV H xs st d)(Z:Same H H'):StV H' xs st d:=by
 cases d with
 | gain y=>exact h
 | delay n=>obtain⟨p,e,h⟩:=h; exact⟨p,e,Z _ _ h⟩
 | echo y n t=>obtain⟨p,e,h⟩:=h; exact⟨p,e,Z _ _ h⟩
 | back y n=>obtain⟨p,e,h⟩:=h; exact⟨p,e,Z _ _ h⟩
 | swell cs=>exact h
 | hall y n=>exact h.elim
theorem a5t(d:Dt)(xs ys:List Int):(outs d xs ys).length=ys.length:=by unfold outs; simp
theorem c5g(h:i < ys.length):(outs d xs ys).getD i 0=tap (j8t d) (d3h (xs++ys)) ((xs.length+i:Nat):Int):=by
 unfold outs
 rw [C3,C9,Ed h]
 rfl
theorem d8s(xs:List Int)(i n:Nat):d3h xs ((i:Int) - (n:Int))=if n<=i then xs.getD (i - n) 0 else 0:=by
 unfold d3h
 by_cases h:n<=i
 .rw [if_neg (by lia),if_pos h]
  congr 1
  lia
 .rw [if_pos (by lia),if_neg h]
theorem getD_at(xs ys:List Int)(i:Nat):(xs++ys).getD (xs.length+i) 0=ys.getD i 0:=by
 rw [g1x,if_neg (by lia)]
 congr 1
 lia
theorem f9g{X Y:Nat->Int}{p q:Int}{t:Nat}:∀ {j:Nat},(∀ m,m < j->X m=Y m)->h4h X p q t j=h4h Y p q t j
 | 0,_=>rfl
 | j+1,h=>by rw [h4h,h4h,f9g (fun m hm=>h m (by lia)),h j (by lia)]
theorem f5y(p q:Int)(t n:Nat)(X:Int->Int)(j:Int):∀ k,tap ((Cz k).map fun m=>(fun _=>i0n p q t m,m*n)) X j=h4h (fun m=>X (j - ((m*n:Nat):Int))) p q t k
 | 0=>rfl
 | k+1=>by
  rw [No,Co,h4h,<- f5y p q t n X j k]
  unfold tap
  rw [Co,Qe]
  congr 1
  show _*_+0=_
  rw [F4,Jn]
theorem h9g(y:Rat)(xs ys:List Int):outs (.gain y) xs ys=ys.map (· * y.num):=by
 refine j1g (by rw [a5t,Bv]) fun i hi=>?_
 rw [a5t] at hi
 rw [c5g hi,c6y]
 show y.num*d3h (xs++ys) (((xs.length+i:Nat):Int) - ((0:Nat):Int))+0=_
 rw [F4,d8s,if_pos (Dx _),Kz,getD_at,Jn]
theorem h3r(n:Nat)(xs ys:List Int):outs (.delay n) xs ys=g6i (xs++ys) xs.length n:=by
 refine j1g (by rw [a5t,b9l,C1]; lia) fun i hi=>?_
 rw [a5t] at hi
 rw [c5g hi,d6u (by rw [C1]; lia)]
 show 1*d3h (xs++ys) (((xs.length+i:Nat):Int) - (n:Int))+0=_
 rw [F4,Hz,d8s]
theorem h9h(y:Rat)(n t:Nat)(xs ys:List Int):outs (.echo y n t) xs ys=i0p (xs.drop (xs.length - n*t)++ys) (xs.drop (xs.length - n*t)).length n y.num y.den t (t+1):=by
 refine j1g (by rw [a5t,i3n,C1]; lia) fun i hi=>?_
 rw [a5t] at hi
 rw [c5g hi,h0s (by rw [C1]; lia)]
 show tap ((Cz (t+1)).map _) _ _=_
 rw [f5y]
 refine f9g fun m hm=>?_
 have le:m*n<=n*t:=by
  rw [L7 n t]
  exact Ek n (by lia)
 rw [f5v le,d6u (by rw [C1]; lia),d8s]
theorem h9i(y:Rat)(n:Nat)(xs ys:List Int):outs (.back y n) xs ys=f5k (ys.map (· * (y.den:Int))) ((g6i (xs++ys) xs.length n).map (· * (-y.num))):=by
 refine j1g (by rw [a5t,c4z,Bv,Bv,b9l,C1]; lia) fun i hi=>?_
 rw [a5t] at hi
 rw [c5g hi,g1u (by rw [Bv]; lia),c6y,c6y,d6u (by rw [C1]; lia)]
 show (y.den:Int)*d3h (xs++ys) (((xs.length+i:Nat):Int) - ((0:Nat):Int))+(-y.num*d3h (xs++ys) (((xs.length+i:Nat):Int) - (n:Int))+0)=_
 rw [d8s,d8s,if_pos (Dx _),Kz,getD_at,F4,Jn,Jn (-y.num)]
theorem h3s(cs:List (Int×Rat))(xs ys:List Int):outs (.swell cs) xs ys=(Cz ys.length).map fun i=>h4i (swX cs).2 ((xs.length+i:Nat):Int) cs (swX cs).1*ys.getD i 0:=by
 unfold outs
 refine Oi fun i _=>?_
 show h4i (swX cs).2 ((xs.length+i:Nat):Int) cs (swX cs).1*d3h (xs++ys) (((xs.length+i:Nat):Int) - ((0:Nat):Int))+0=_
 rw [F4,d8s,if_pos (Dx _),Kz,getD_at]
theorem j0b{i:Int}(h:i < (xs.length:Int)):d3h (xs++ys) i=d3h xs i:=by
 unfold d3h
 split
 .rfl
 .rw [g1x,if_pos (by omega)]
variable {L:List ((Int->Int)×Nat)}{X:Int->Int}
theorem g5n{Y:Int->Int}{i:Int}(h:∀ j,j<=i->X j=Y j):tap L X i=tap L Y i:=by
 unfold tap
 congr 1
 refine Oi fun c _=>?_
 rw [h _ (by lia)]
theorem i3r(d:Dt)(xs ys zs:List Int):outs d xs (ys++zs)=outs d xs ys++outs d (xs++ys) zs:=by
 refine j1g (by rw [C1,a5t,a5t,a5t,C1]) fun i hi=>?_
 rw [a5t,C1] at hi
 rw [c5g (by rw [C1]; exact hi),g1x,a5t]
 split
 .rename_i h
  rw [c5g h,<- Eg]
  exact g5n fun j hj=>j0b (by rw [C1]; omega)
 .rename_i h
  rw [c5g (by omega),<- Eg,C1]
  congr 2
  omega
theorem c9g{k:Nat}{f:Addr}{fd:C8}{ps:List Str}{sp sp':Sp}(F:a1j P A.wd K mg base CX0 k f fd ps sp)(h:∀ vs H Q E,sp' vs H Q E->sp vs H Q E):a1j P A.wd K mg base CX0 k f fd ps sp' :=
 ⟨fun vs H Q E z=>F.len vs H Q E (h _ _ _ _ z),fun A outer s H args us vs Q E hr e0 hb hv z=>F.run A outer s H args us vs Q E hr e0 hb hv (h _ _ _ _ z)⟩
theorem h9j(T:Tx K mg A):a1j P A.wd K mg base CX0 2 A.a6q A.a5m ["self","state","tops","bottom"] (f5m A 0):=c9g (i9y T) fun vs H Q E h=>by
 walk_at"@k1p h@eo st l b@crfl@ed xs ys@chk hp ok hst hl lx ly by0 q"
 .cases d with
  | gain y =>
   obtain⟨p,rfl⟩:=hst
   walk_at"@hp@edx _@cho@eg@crfl hg"; clear hp
   have yb:=YOk.b ok
   exact⟨y.num,y.den,ys,⟨dx,g,ho,hg⟩,hl,by lia,fun z hz=>Fc (by lia),fun r ou s2 H1 S1 nr no h1 h2=>q r ou _ H1 S1 nr no h1 (by rw [h2,h9g]) ⟨s2,rfl⟩⟩
  | _=>simp [Dt.kd] at hk
theorem h3t(T:Tx K mg A):a1j P A.wd K mg base CX0 2 A.a5n A.a4l ["self","state","tops","bottom"] (f5m A 1):=c9g (i9z T) fun vs H Q E h=>by
 walk_at"@k1p h@eo st l b@crfl@ed xs ys@chk hp ok hst hl lx ly by0 q"
 .cases d with
  | delay n =>
   obtain⟨p,rfl,hs⟩:=hst
   walk_at"@hp@edx _@cho rfl"; clear hp
   exact⟨n,_,ys,⟨dx,ho⟩,hs,hl,by rw [Ev]; lia,by lia,fun r ou s2 H1 S1 nr no h1 h2 h3=>q r ou _ H1 S1 nr no h1 (by rw [h2,h3r,f5v (C0 _)]) ⟨s2,rfl,by rw [h3,f5w]⟩⟩
  | _=>simp [Dt.kd] at hk
theorem h9k(T:Tx K mg A):a1j P A.wd K mg base CX0 2 A.a6r A.a5o ["self","state","tops","bottom"] (f5m A 2):=c9g (i9w T) fun vs H Q E h=>by
 walk_at"@k1p h@eo st l b@crfl@ed xs ys@chk hp ok hst hl lx ly by0 q"
 .cases d with
  | echo y n t =>
   obtain⟨p,rfl,hs⟩:=hst
   walk_at"@hp@edx _@cho@eg fa@crfl hg hf"; clear hp
   walk_at"@ok@coy n1 n2 t2"; clear ok
   have yb:=oy.b
   refine⟨y.num,y.den,n,t,_,ys,⟨dx,g,fa,ho,hg,hf⟩,hs,hl,by rw [Ev]; lia,by lia,by lia,t2,yb.1,yb.2,fun z hz=>?_,fun r ou s2 H1 S1 nr no h1 h2 h3=>q r ou _ H1 S1 nr no h1 (by rw [h2,h9h]) ⟨s2,rfl,by rw [h3,f5w]⟩⟩
   refine Bz (by0 z ?_) (by decide)
   rcases De.mp hz with h | h
   .exact Dp _ (Ir h)
   .exact Cj _ h
  | _=>simp [Dt.kd] at hk
theorem h9l(T:Tx K mg A):a1j P A.wd K mg base CX0 2 A.a6s A.a5p ["self","state","tops","bottom"] (f5m A 3):=c9g (j0a T) fun vs H Q E h=>by
 walk_at"@k1p h@eo st l b@crfl@ed xs ys@chk hp ok hst hl lx ly by0 q"
 .cases d with
  | back y n =>
   obtain⟨p,rfl,hs⟩:=hst
   walk_at"@hp@edx _@cho@eg@crfl hg"; clear hp
   obtain⟨oy,n1,n2⟩:=ok
   have yb:=oy.b
   have nb:=Kh yb.1
   exact⟨dx,g,n,y.num,y.den,_,ys,ho,hg,hs,hl,by rw [Ev]; lia,by lia,fun z hz=>Fc (by lia),fun z hz=>Fc (by lia),fun z hz=>Fc (by lia),Du (by decide),fun r ou s2 H1 S1 nr no n2' h1 h2 h3=>q r ou _ H1 S1 nr no h1 (by rw [h2,h9i,f5v (C0 _)]) ⟨s2,rfl,by rw [h3,f5w]⟩⟩
  | _=>simp [Dt.kd] at hk
theorem j0c(T:Tx K mg A):a1j P A.wd K mg base CX0 3 A.a5r A.a4m ["self","state","tops","bottom"] (j6j A.a2w):=by
 have f5z:a1j P A.wd K mg base CX0 2 _ _ _ _:=h9c T
 have a2n:=T.a2n
 have a0s:=T.a0s
 have a0u:=T.a0u
 have a0z:=T.a0z
 refine T.b5z.ok c9q (fun _ _ _ _ h=>i8l h) (fun cdv A' outer s H vs Q E hr h=>?_)
 .walk_at"h"
  walk_at"@i8k h@eo n0 x bt@czE@eps cs ss S m0 xs@ce0 I Bo CO L1 L12 hx ml xl xb k"
  walk_at"g"
  subst e0
  have hu:=hr.units
  refine⟨_,(a0h (i1x (i:=4) c9q.nd rfl rfl (i7r (by rfl) T.g8n (a0g (pvF 2) a0i) (i6p (pvF 1) j2k)) (fun _ _ _ _ _=>(a0t a2l (a4r (pvF 2) T.a2n T.c0n f5z hr.dn T.f4u .nil a3i (a0g (pvF 0) a0i)) (pvF 1))) (h6n (sc:=a0l c2m) (N:=["self","state","tops","bottom","out"]) rfl rfl (by decide +kernel)) rfl)
   (a0k (a0w (a6z (a0g (pvF 4) (a0g (a0t a1k (pvF 1) (a3p a1q T.b0w Dq (a0g (pvF 2) a0i))) a0i)))))),?_⟩
  clear hu
  walk_at"rf*"
  refine⟨by lia,by lia,?_⟩
  intro D H2 n2 S2 h2
  refine g7b (xs:=xs.map V.int) (fun i zs H'=>Same H H'/\H' D=some (.lst zs)/\zs=((Cz i).map fun j=>h4i S ((m0+j:Nat):Int) cs ss*xs.getD j 0).map V.int) ⟨S2,h2,rfl⟩ (by rw [Bv,Dm]; lia) ?_ ?_ ?_
  .intro i zs H' hi ⟨S',h',ez⟩
   exact⟨h',SqL.of (S' _ _ hx),by rw [ez,Bv,Bv,Ga]⟩
  .intro i x' zs H' p H'' hx' ⟨S',h',ez⟩ np S'' h''
   rw [C9] at hx'
   obtain⟨xi,hxi,rfl⟩:=C7.mp hx'
   have hi:=(Bu.mp hxi).1
   have SS:=S'.trans S''
   have I':=I.same SS
   have hD':=S'' _ _ h'
   have xbi:=xb xi (Ca hxi)
   walk_at"@id I'@edx ct ln us@cho _"
   unfold swF at ho
   clear hx h2 h'
   walk_at"rf*"
   refine⟨ps,cs,ss,S,I',Bo,CO,L1,L12,by lia,by lia,fun m c s' LA bg=>?_⟩
   refine⟨Dr bg xbi (by decide),fun H4 B4 h4=>⟨SS.step n2 B4,h4,?_⟩⟩
   rw [No,Co,Co,<- ez]
   have e1:=i5x (S:=S) CO.2 LA
   have e2:xs.getD i 0=xi:=by rw [C3,hxi]; rfl
   show _=_++[V.int (h4i S ((m0+i:Nat):Int) cs ss*xs.getD i 0)]
   rw [e2,Gx,e1]
  .intro zs H3 ⟨S3,h3,ez⟩
   rw [Bv] at ez
   have hx3:=S3 _ _ hx
   clear hx h2
   walk_at"rf*"
   refine fun r H4 n4 S4 h4=>k r D H4 (S3.trans S4) (S3.free n4) n2 (by rw [h4,Gx]) (S4 _ _ (by rw [h3,ez]))
theorem h3u(T:Tx K mg A):a1j P A.wd K mg base CX0 3 A.a5r A.a4m ["self","state","tops","bottom"] (f5m A 5):=c9g (j0c T) fun vs H Q E h=>by
 walk_at"@k1p h@eo st l b@crfl@ed xs ys@chk hp ok hst hl lx ly by0 q"
 .cases d with
  | swell cs =>
   have hst:st=V.int (xs.length:Int):=hst
   subst hst
   walk_at"@hp@edx _@cho@ect ln us ps@crfl hct hln TP sok R"; clear hp
   have ok:g7d cs:=ok
   exact⟨ps,cs,(swX cs).1,(swX cs).2,xs.length,ys,rfl,⟨dx,ct,ln,us,ho,hct,hln,TP,R⟩,sok,g7d.crn ok,ok.2.2.1,ok.2.2.2,hl,lx,ly,fun y hy=>by0 y (Cj _ hy),fun r ou H1 S1 nr no h1 h2=>q r ou _ H1 S1 nr no h1 (by rw [h2,h3s]) (by show _=V.int _; rw [C1])⟩
  | _=>simp [Dt.kd] at hk
theorem g5o(T:Tx K mg A):a1j P A.wd K mg base CX0 1 A.b0o A.a7v ["self"] (g5g A 0):=c9g (h9d T) fun vs H Q E h=>by
 walk_at"@g7g h@eo@crfl@ed@chk hp q"
 .cases d with
  | gain y =>
   walk_at"@hp@edx _@cho@eg@crfl hg"; clear hp
   exact⟨y.num,y.den,⟨dx,g,ho,hg⟩,q⟩
  | _=>simp [Dt.kd] at hk
theorem g5p(T:Tx K mg A):a1j P A.wd K mg base CX0 1 A.b0p A.a7w ["self"] (g5g A 2):=c9g (h8w T) fun vs H Q E h=>by
 walk_at"@g7g h@eo@crfl@ed@chk hp q"
 .cases d with
  | echo y n t =>
   walk_at"@hp@edx _@cho@eg fa@crfl hg hf"; clear hp
   exact⟨y.num,y.den,n,t,⟨dx,g,fa,ho,hg,hf⟩,q⟩
  | _=>simp [Dt.kd] at hk
theorem g5q(T:Tx K mg A):a1j P A.wd K mg base CX0 1 A.b0q A.a7y ["self"] (g5g A 3):=c9g (h9e T) fun vs H Q E h=>by
 walk_at"@g7g h@eo@crfl@ed@chk hp q"
 .cases d with
  | back y n =>
   walk_at"@hp@edx _@cho@eg@crfl hg"; clear hp
   exact⟨dx,g,n,y.num,y.den,ho,hg,q⟩
  | _=>simp [Dt.kd] at hk
theorem f9h(T:Tx K mg A):a1j P A.wd K mg base CX0 1 A.a8g A.a6t ["self"] (g5g A 5):=c9g (h3p T) fun vs H Q E h=>by
 walk_at"@g7g h@eo@crfl@ed@chk hp q"
 .cases d with
  | swell cs =>
   walk_at"@hp@edx _@cho@ect ln us ps@crfl hct hln TP sok R"; clear hp
   exact⟨ps,cs,(swX cs).1,(swX cs).2,⟨dx,ct,ln,us,ho,hct,hln,TP,R⟩,q⟩
  | _=>simp [Dt.kd] at hk
theorem i3s(hk:d.kd < 4){p:Addr}(h:H p=some (.tup [])):StV H [] (.ref p) d:=by
 cases d with
 | gain=>exact⟨p,rfl⟩
 | delay=>exact⟨p,rfl,by rw [drop_nil]; exact h⟩
 | echo=>exact⟨p,rfl,by rw [drop_nil]; exact h⟩
 | back=>exact⟨p,rfl,by rw [drop_nil]; exact h⟩
 | hall=>exact absurd hk (by simp [Dt.kd])
 | swell=>exact absurd hk (by simp [Dt.kd])
theorem i3t(T:Tx K mg A):a1j P A.wd K mg base CX0 4 A.b3r A.b4u ["text"] spRG:=by
 have f6g:a1j P A.wd K mg base CX0 3 _ _ _ _:=i9s T
 refine T.b0t.ok d9z (fun _ _ _ _ h=>i5m h) (fun cdv A' outer s H vs Q E hr h=>?_)
 .walk_at"h"
  walk_at"@j8r h@ex@czE@ey@chx oy k"
  walk_at"g"
  subst hx
  have hu:=hr.units
  refine⟨_,(a0h (i7t (a1t 1 d9z.nd (a2m f6g hr.dn T.f4l T.b0r.kp T.f4k (a0g (pvF 0) a0i))))
   (a0h (a5j (pw_or (a3n f9v (a3p c2k T.g8m Kk (a0g (a0v a2s (pvF 1) a0j) a0i)) (a6y (v:=.int 1000) (by rfl) T.f0p T.c4v)) (pw_or1 (a3n f9v (a0v a2s (pvF 1) a0j) (a6y (v:=.int 1000) (by rfl) T.f0p T.c4v)))).pt
   (a0k a2r)
   a1u)
   (a0k (a0w (pvF 1))))),?_⟩
  clear hu
  walk_at"rf"
  refine⟨y.num,(y.den:Int),i7y oy,?_⟩
  rintro _ H1 ⟨o,rfl,n1,S1,h1⟩
  have y1:¬ 1000 < (y.num.natAbs:Int):=by have:=oy.1; lia
  have y2:¬ 1000 < (y.den:Int):=by have:=oy.2; lia
  walk_at"rf*"
  exact k _ _ ⟨o,rfl,n1,S1,h1⟩
theorem i3u(T:Tx K mg A):a1j P A.wd K mg base CX0 3 A.a8h A.a9h ["text","least","most"] spRN:=by
 have h3v:a1j P A.wd K mg base CX0 2 _ _ _ _:=j7c T
 refine T.a6m.ok d3v (fun _ _ _ _ h=>j5n h) (fun cdv A' outer s H vs Q E hr h=>?_)
 .walk_at"h"
  walk_at"@j5m h@ex a b@czE@en@chx hn h1 h2 q"
  walk_at"g"
  have hu:=hr.units
  refine⟨_,(a0h (a1t 3 d3v.nd (a2m h3v hr.dn T.h2x T.c6m.kp T.h2w (a0g (pvF 0) a0i)))
   (a0h (a5j (pw_or (a3n j2g (pvF 3) h4o) (pw_or (a3n of_lt (pvF 3) (pvF 1)) (pw_or1 (a3n f9v (pvF 3) (pvF 2))))).pt
   (a0k a2r)
   a1u)
   (a0k (a0w (pvF 3))))),?_⟩
  clear hu
  walk_at"rf"
  refine⟨n,hx,by lia,?_⟩
  have z1:¬ (n:Int) < a:=by lia
  have z2:¬ b < (n:Int):=by lia
  walk_at"rf*"
theorem j7k(T:Tx K mg A):a1j P A.wd K mg base CX0 4 A.b3s A.b4v ["text"] spRM:=by
 have a8o:a1j P A.wd K mg base CX0 3 _ _ _ _:=i3u T
 refine T.b8s.ok g4p (fun _ _ _ _ h=>i5m h) (fun cdv A' outer s H vs Q E hr h=>?_)
 .walk_at"h"
  walk_at"@j8r h@ex@czE@en@chx n1 n2 q"
  walk_at"g"
  subst hx
  have hu:=hr.units
  refine⟨_,(a0k (a0w (a2m a8o hr.dn T.c1o T.a6m.kp T.c1n (a0g (pvF 0) (a0g a0j (a0g (a6y (v:=.int 1000) (by rfl) T.f0q T.c4w) a0i)))))),?_⟩
  clear hu
  walk_at"rf"
  exact⟨n,i2d n,by lia,by lia,by lia,q⟩
theorem h9m(T:Tx K mg A):a1j P A.wd K mg base CX0 1 A.a8i A.a9i ["values","count"] spCC:=by
 refine T.a4v.ok f6u (fun _ _ _ _ h=>g0g h) (fun cdv A' outer s H vs Q E hr h=>?_)
 .walk_at"h"
  walk_at"@j5e h@el c@czE@exs@chl e q"
  walk_at"g"
  have hu:=hr.units
  refine⟨_,(a0k (a5j (a3n (onT K hu) (a3p a1q T.b0w Dq (a0g (pvF 0) a0i)) (pvF 1))
   (a0k a2r)
   a1u)),?_⟩
  clear hu
  walk_at"rf*"
theorem h3w(T:Tx K mg A):a1j P A.wd K mg base CX0 6 A.b9y A.c1w ["values"] (j6k A 0):=by
 have a4w:a1j P A.wd K mg base CX0 1 _ _ _ _:=h9m T
 have b3w:a1j P A.wd K mg base CX0 4 _ _ _ _:=i3t T
 have g8t:a1j P A.wd K mg base CX0 1 _ _ _ _:=i3o T
 have a4n:=T.a4n
 have a1w:=T.a1w
 refine T.d1o.ok h2r (fun _ _ _ _ h=>d3p h) (fun cdv A' outer s H vs Q E hr h=>?_)
 .walk_at"h"
  walk_at"@g7g h@el@czE@ed@chk ok hl q"
  walk_at"g"
  cases d with
  | gain y =>
   have hu:=hr.units
   have a3v:b2u 1 _:=hr.dn
   have c0i:b2u 4 _:=hr.dn
   have g5r:b2u 2 _:=hr.dn
   replace hl:H l=some (.lst [.str (fW y)]):=hl
   refine⟨_,(a0h (a4p (a2m a4w a3v T.b6o T.a4v.kp T.b6n (a0g (pvF 0) (a0g a0j a0i))))
   (a0k (a0w (c3y T.h7u g8t g5r (by rfl) T.i9c T.g7y .nil a3i (a0g (a2m b3w c0i T.c8y T.b0t.kp T.c8w (a0g (a0v a2s (pvF 0) a0j) a0i)) a0i))))),?_⟩
   clear hu
   walk_at"rf"
   refine⟨_,hl,rfl,?_⟩
   walk_at"rf*"
   refine⟨y,rfl,ok,?_⟩
   rintro _ H1 ⟨g,rfl,n1,S1,h1⟩
   walk_at"rf"
   intro x dx H2 n2 n3 nx S2 hdx hx
   refine⟨dx,hx,fun H3 B3 h3=>?_⟩
   rw [asNew]
   refine⟨rfl,?_⟩
   have gx:g≠x:=fun e=>by rw [e] at h1; rw [h1] at n2; cases n2
   refine q x H3 (S1.free n2) (fun b u e=>B3 _ _ (fun z=>by rw [z] at e; rw [S1 _ _ e] at n2; cases n2) (S2 _ _ (S1 _ _ e))) ⟨dx,_,h3,g,rfl,B3 _ _ gx (S2 _ _ h1)⟩
  | _=>simp [Dt.kd] at hk
theorem g8u(T:Tx K mg A):a1j P A.wd K mg base CX0 6 A.b4w A.b7r ["values"] (j6k A 1):=by
 have a4w:a1j P A.wd K mg base CX0 1 _ _ _ _:=h9m T
 have a8o:a1j P A.wd K mg base CX0 3 _ _ _ _:=i3u T
 have g5s:a1j P A.wd K mg base CX0 1 _ _ _ _:=h9a T
 have a3l:=T.a3l
 have a1v:=T.a1v
 refine T.c6p.ok g7l (fun _ _ _ _ h=>d3p h) (fun cdv A' outer s H vs Q E hr h=>?_)
 .walk_at"h"
  walk_at"@g7g h@el@czE@ed@chk ok hl q"
  walk_at"g"
  cases d with
  | delay n =>
   have hu:=hr.units
   have a3v:b2u 1 _:=hr.dn
   have c5s:b2u 3 _:=hr.dn
   have g1y:b2u 2 _:=hr.dn
   have ok:n<=1000:=ok
   replace hl:H l=some (.lst [.str (nW n)]):=hl
   refine⟨_,(a0h (a4p (a2m a4w a3v T.b6o T.a4v.kp T.b6n (a0g (pvF 0) (a0g a0j a0i))))
   (a0k (a0w (c3y T.g7t g5s g1y (by rfl) T.i2q T.g4v .nil a3i (a0g (a2m a8o c5s T.c1o T.a6m.kp T.c1n (a0g (a0v a2s (pvF 0) a0j) (a0g a0j (a0g (a6y (v:=.int 1000) (by rfl) T.f0q T.c4w) a0i)))) a0i))))),?_⟩
   clear hu
   walk_at"rf"
   refine⟨_,hl,rfl,?_⟩
   walk_at"rf*"
   refine⟨n,i2d n,by lia,by lia,by lia,?_⟩
   intro x dx H2 n2 n3 nx S2 hdx hx
   refine⟨dx,hx,fun H3 B3 h3=>?_⟩
   rw [asNew]
   refine⟨rfl,?_⟩
   exact q x H3 n2 (fun b u e=>B3 _ _ (fun z=>by rw [z] at e; rw [e] at n2; cases n2) (S2 _ _ e)) ⟨dx,_,h3,rfl⟩
  | _=>simp [Dt.kd] at hk
theorem h3x(T:Tx K mg A):a1j P A.wd K mg base CX0 6 A.b9z A.c1y ["values"] (j6k A 2):=by
 have a4w:a1j P A.wd K mg base CX0 1 _ _ _ _:=h9m T
 have b3w:a1j P A.wd K mg base CX0 4 _ _ _ _:=i3t T
 have d4y:a1j P A.wd K mg base CX0 4 _ _ _ _:=j7k T
 have a8o:a1j P A.wd K mg base CX0 3 _ _ _ _:=i3u T
 have g8v:a1j P A.wd K mg base CX0 2 _ _ _ _:=i3m T
 have a3q:=T.a3q
 have a1o:=T.a1o
 have a1p:=T.a1p
 have a1l:=T.a1l
 have a0y:=T.a0y
 have a0q:=T.a0q
 refine T.d1p.ok h2t (fun _ _ _ _ h=>d3p h) (fun cdv A' outer s H vs Q E hr h=>?_)
 .walk_at"h"
  walk_at"@g7g h@el@czE@ed@chk ok hl q"
  walk_at"g"
  cases d with
  | echo y n t =>
   have hu:=hr.units
   have a3v:b2u 1 _:=hr.dn
   have c0i:b2u 4 _:=hr.dn
   have d2o:b2u 4 _:=hr.dn
   have c5s:b2u 3 _:=hr.dn
   have g5t:b2u 3 _:=hr.dn
   walk_at"@ok@coy na nb tb"; clear ok
   replace hl:H l=some (.lst [.str (fW y),.str (nW n),.str (nW t)]):=hl
   refine⟨_,(a0h (a4p (a2m a4w a3v T.b6o T.a4v.kp T.b6n (a0g (pvF 0) (a0g a0j a0i))))
   (a0k (a0w (c3y T.h7v g8v g5t (by rfl) T.i9d T.g8a .nil a3i (a0g (a2m b3w c0i T.c8y T.b0t.kp T.c8w (a0g (a0v a2s (pvF 0) a0j) a0i)) (a0g (a2m d4y d2o T.f4y T.b8s.kp T.f4w (a0g (a0v a2s (pvF 0) a0j) a0i)) (a0g (a2m a8o c5s T.c1o T.a6m.kp T.c1n (a0g (a0v a2s (pvF 0) a0j) (a0g a0j (a0g (a6y (v:=.int 16) (by rfl) T.g1p T.c8t) a0i)))) a0i))))))),?_⟩
   clear hu
   walk_at"rs"
   refine⟨_,hl,rfl,?_⟩
   walk_at"rs*"
   refine⟨y,rfl,oy,?_⟩
   rintro _ H1 ⟨g,rfl,n1,S1,h1⟩
   have hl1:=S1 _ _ hl
   clear hl
   walk_at"rs*"
   refine⟨n,rfl,na,nb,t,i2d t,by lia,by lia,by lia,?_⟩
   intro x dx H2 n2 n3 nx S2 hdx hx
   refine⟨dx,n,t,y.num,(y.den:Int),rfl,rfl,tb,oy.b.1,oy.b.2,S2 _ _ h1,hx,fun fa H3 B3 nf h3 hf=>?_⟩
   rw [asNew]
   refine⟨rfl,?_⟩
   have gx:g≠x:=fun e=>by rw [e] at h1; rw [h1] at n2; cases n2
   exact q x H3 (S1.free n2) (fun b u e=>B3 _ _ (fun z=>by rw [z] at e; rw [S1 _ _ e] at n2; cases n2) (S2 _ _ (S1 _ _ e))) ⟨dx,_,h3,g,fa,rfl,B3 _ _ gx (S2 _ _ h1),hf⟩
  | _=>simp [Dt.kd] at hk
theorem h3y(T:Tx K mg A):a1j P A.wd K mg base CX0 6 A.c0g A.c1z ["values"] (j6k A 3):=by
 have a4w:a1j P A.wd K mg base CX0 1 _ _ _ _:=h9m T
 have b3w:a1j P A.wd K mg base CX0 4 _ _ _ _:=i3t T
 have d4y:a1j P A.wd K mg base CX0 4 _ _ _ _:=j7k T
 have g8w:a1j P A.wd K mg base CX0 1 _ _ _ _:=i3p T
 have a4o:=T.a4o
 have a1y:=T.a1y
 have a1z:=T.a1z
 refine T.d1q.ok h2u (fun _ _ _ _ h=>d3p h) (fun cdv A' outer s H vs Q E hr h=>?_)
 .walk_at"h"
  walk_at"@g7g h@el@czE@ed@chk ok hl q"
  walk_at"g"
  cases d with
  | back y n =>
   have hu:=hr.units
   have a3v:b2u 1 _:=hr.dn
   have c0i:b2u 4 _:=hr.dn
   have d2o:b2u 4 _:=hr.dn
   have g5u:b2u 2 _:=hr.dn
   obtain⟨oy,na,nb⟩:=ok
   replace hl:H l=some (.lst [.str (fW y),.str (nW n)]):=hl
   refine⟨_,(a0h (a4p (a2m a4w a3v T.b6o T.a4v.kp T.b6n (a0g (pvF 0) (a0g a0j a0i))))
   (a0k (a0w (c3y T.h7w g8w g5u (by rfl) T.i9e T.g8c .nil a3i (a0g (a2m b3w c0i T.c8y T.b0t.kp T.c8w (a0g (a0v a2s (pvF 0) a0j) a0i)) (a0g (a2m d4y d2o T.f4y T.b8s.kp T.f4w (a0g (a0v a2s (pvF 0) a0j) a0i)) a0i)))))),?_⟩
   clear hu
   walk_at"rf"
   refine⟨_,hl,rfl,?_⟩
   walk_at"rf*"
   refine⟨y,rfl,oy,?_⟩
   rintro _ H1 ⟨g,rfl,n1,S1,h1⟩
   have hl1:=S1 _ _ hl
   clear hl
   walk_at"rf*"
   refine⟨n,rfl,na,nb,?_⟩
   intro x dx H2 n2 n3 nx S2 hdx hx
   refine⟨dx,hx,fun H3 B3 h3=>?_⟩
   rw [asNew]
   refine⟨rfl,?_⟩
   have gx:g≠x:=fun e=>by rw [e] at h1; rw [h1] at n2; cases n2
   exact q x H3 (S1.free n2) (fun b u e=>B3 _ _ (fun z=>by rw [z] at e; rw [S1 _ _ e] at n2; cases n2) (S2 _ _ (S1 _ _ e))) ⟨dx,_,h3,g,rfl,B3 _ _ gx (S2 _ _ h1)⟩
  | _=>simp [Dt.kd] at hk
theorem Crn.b5q{H H':Hp}{xs:List V}(h:Crn H ps cs)(hl:H l=some (.lst xs))(S:a2j l H H'):Crn H' ps cs :=
 ⟨h.1,fun i p c e1 e2=>(h.2 i p c e1 e2).elim fun g z=>⟨g,S _ _ (fun e=>by have:=z.1; rw [e,hl] at this; cases this) z.1,S _ _ (fun e=>by have:=z.2; rw [e,hl] at this; cases this) z.2⟩⟩
theorem Crn.nil:Crn H [] []:=⟨rfl,fun i p r e=>by simp at e⟩
theorem Crn.snoc{p g:Addr}{a:Int}{y:Rat}(h:Crn H ps cs)(hp:H p=some (.tup [.int a,.ref g]))(hg:H g=some (.tup (d5l y))):Crn H (ps++[p]) (cs++[(a,y)]):=by
 refine⟨by rw [C1,C1,h.1]; rfl,fun i p' c' e1 e2=>?_⟩
 by_cases hi:i < ps.length
 .rw [Cm hi] at e1
  rw [Cm (by rw [<- h.1]; exact hi)] at e2
  exact h.2 i p' c' e1 e2
 .rw [Df (by lia)] at e1
  rw [Df (by rw [<- h.1]; lia)] at e2
  rw [<- h.1] at e2
  cases hz:i - ps.length with
  | zero =>
   rw [hz] at e1 e2
   simp at e1 e2
   subst e1 e2
   exact⟨g,hp,hg⟩
  | succ n =>
   rw [hz] at e1
   simp at e1
theorem k2o(T:Tx K mg A):a1j P A.wd K mg base CX0 5 A.a8j A.a9j ["text"] spRC:=by
 have b3w:a1j P A.wd K mg base CX0 4 _ _ _ _:=i3t T
 have a8o:a1j P A.wd K mg base CX0 3 _ _ _ _:=i3u T
 refine T.b6g.ok d3w (fun _ _ _ _ h=>i5m h) (fun cdv A' outer s H vs Q E hr h=>?_)
 .walk_at"h"
  walk_at"@j8r h@ex@czE@ec@chx c0 c1 oy q"
  walk_at"g"
  subst hx
  have hu:=hr.units
  have sp:=g3z (c:=c)
  have cl:=i5e (c:=c) (by lia) oy.b.1 oy.b.2
  have hs:=szl
  have d1:((⟨#[61]⟩:Str).length == 0)=false:=rfl
  have d2:(cW c).length<=Cb:=by lia
  refine⟨_,(a0h (a1t 1 d3w.nd (b5r c2l Em El Gz f1n (pvF 0) (a0g a2p a0i)))
   (a0h (a5j (a3n (onT K hu) (a3p a1q T.b0w Dq (a0g (pvF 1) a0i)) a0j)
   (a0k a2r)
   a1u)
   (a0k (a0w (a6z (a0g (a2m a8o hr.dn T.c1o T.a6m.kp T.c1n (a0g (a0v a2s (pvF 1) a0j) (a0g a0j (a0g (a6y (v:=.int 100000) (by rfl) T.h3k T.d8j) a0i)))) (a0g (a2m b3w hr.dn T.c8y T.b0t.kp T.c8w (a0g (a0v a2s (pvF 1) a0j) a0i)) a0i))))))),?_⟩
  clear hu
  rw [k0r]
  walk_at"rd*"
  refine⟨by lia,fun l H1 n1 S1 h1=>?_⟩
  walk_at"rd*"
  have e:((c.1.toNat:Nat):Int)=c.1:=Oz c0
  refine⟨c.1.toNat,by rw [c9m,e],by lia,by lia,by lia,c.2,rfl,oy,?_⟩
  rw [e]
  rintro _ H2 ⟨g,rfl,n2,S2,h2⟩
  walk_at"rd"
  intro p H3 n3 S3 h3
  exact q p g H3 ((S1.trans S2).free n3) (S1.trans (S2.trans S3)) h3 (S3 _ _ h2)
theorem g8x(T:Tx K mg A):a1j P A.wd K mg base CX0 7 A.b4y A.b7s ["values"] (j6k A 5):=by
 have a4w:a1j P A.wd K mg base CX0 1 _ _ _ _:=h9m T
 have g1z:a1j P A.wd K mg base CX0 5 _ _ _ _:=k2o T
 have g5v:a1j P A.wd K mg base CX0 5 _ _ _ _:=h8y T
 have a2n:=T.a2n
 have a0s:=T.a0s
 have a0u:=T.a0u
 have a0z:=T.a0z
 refine T.c6q.ok c7n (fun _ _ _ _ h=>d3p h) (fun cdv A' outer s H vs Q E hr h=>?_)
 .walk_at"h"
  walk_at"@g7g h@el@czE@ed@chk ok hl q"
  walk_at"g"
  cases d with
  | swell cs =>
   have hu:=hr.units
   have a3v:b2u 1 _:=hr.dn
   have f7m:b2u 5 _:=hr.dn
   have g2a:b2u 6 _:=hr.dn
   have ok:g7d cs:=ok
   have L1:=ok.2.2.1
   have L12:=ok.2.2.2
   have hs:=szl
   have jl:=ok.k0p
   have sp:=g0c L1
   have d1:((⟨#[44]⟩:Str).length == 0)=false:=rfl
   replace hl:H l=some (.lst [.str (F9 ⟨#[44]⟩ (cs.map cW))]):=hl
   refine⟨_,(a0h (a4p (a2m a4w a3v T.b6o T.a4v.kp T.b6n (a0g (pvF 0) (a0g a0j a0i))))
   (a0h (f2p (i:=1) c7n.nd rfl rfl (piT K (b5r c2l Em El Gz f1n (a0v a2s (pvF 0) a0j) (a0g a2p a0i))) (fun _ _ _ _ _=>(a2m g1z f7m T.g1e T.b6g.kp T.g1d (a0g (pvF 0) a0i))) (c5w (sc:=a0l d7j) (N:=["values","corners","left","right"]) rfl rfl (by decide +kernel)) rfl)
   (a0h (a5j (a3n f9v (a3p a1q T.b0w Dq (a0g (pvF 1) a0i)) (a6y (v:=.int 12) (by rfl) T.f5i T.c3m))
   (a0k a2r)
   a1u)
   (a0h (a3s Ck rfl (f7z (by rfl) T.h3i (a0g (pvF 1) (a0g (a3z k4g (pvF 1) (a3j a0j) b0j) a0i))) (d7h (n:=2) rfl (a8s (b2r 2 c7n.nd) (a8s (b2r 3 c7n.nd) d2z)))
   (a0k (a5j (a3n j3o (a0v a2s (pvF 2) a0j) (a0v a2s (pvF 3) a0j))
   (a0k a2r)
   a1u)))
   (a0k (a0w (c3y T.g7u g5v g2a (by rfl) T.i2r T.g4y .nil a3i (a0g (pvF 1) a0i)))))))),?_⟩
   clear hu
   rw [i2e]
   walk_at"rs"
   refine⟨_,hl,rfl,?_⟩
   walk_at"rs*"
   refine⟨by lia,by lia,fun a H1 n1 S1 h1=>?_⟩
   walk_at"rs"
   refine⟨⟨_,SqL.of h1⟩,fun D H2 n2 S2 h2=>?_⟩
   refine b1i (xs:=(cs.map cW).map V.str) (fun i ys H'=>Same H1 H'/\H' D=some (.lst ys)/\∃ ps,ys=ps.map V.ref/\Crn H' ps (cs.take i)) ⟨S2,h2,[],rfl,by rw [Kq]; exact Crn.nil⟩ (by rw [Bv,Bv,hs]; lia) ?_ ?_ ?_
   .intro i ys H' hi ⟨S',h',ps,e,R⟩
    rw [Bv,Bv] at hi
    exact⟨h',SqL.of (S' _ _ h1),by rw [e,Bv,R.1,D9]; lia⟩
   .intro i x ys H' hx ⟨S',h',ps,e,R⟩
    rw [Hv,C9] at hx
    obtain⟨c,hc,rfl⟩:=C7.mp hx
    obtain⟨o1,o2,oy⟩:=ok.1 c (Ca hc)
    walk_at"rs"
    refine⟨c,rfl,o1,o2,oy,fun p g H3 n3 S3 h3 hg=>⟨S3 _ _ h',fun H4 B4 h4=>⟨(S'.trans S3).step n2 B4,h4,ps++[p],by rw [e,Co]; rfl,?_⟩⟩⟩
    rw [Cu,hc]
    exact ((R.same S3).snoc h3 hg).b5q (S3 _ _ h') B4
   .intro ys H3 ⟨S3,h3,ps,e,R⟩
    rw [Bv,Bv,Dg] at R
    subst e
    have pl:=R.1
    have ln:¬ (12:Int) < (cs.length:Int):=by lia
    clear h2 sp jl
    walk_at"rs*"
    refine fun c2 H4 n4 S4 h4=>?_
    have e2:f0y (ps.map V.ref) (some 1) none=(ps.drop 1).map V.ref:=by
     show f1m (ps.map V.ref) (some ((1:Nat):Int)) none=_
     rw [a7g,Np]
    rw [e2] at h4
    have h34:=S4 _ _ h3
    clear e2 h3
    walk_at"rs*"
    obtain⟨Pv,pin,pout⟩:=b9o (fun i O H'=>∃ (v2 v3:Option V),O = [some (.ref l),some (.ref D),v2,v3]/\Same H4 H')
    refine d5q (xs:=ps.map V.ref) (ys:=(ps.drop 1).map V.ref) Pv (pin _ _ _ ⟨_,_,rfl,Same.refl _⟩) ?_ ?_ ?_
    .intro i O H5 hp
     walk_at"@pout _ _ _ hp@ev2 v3@crfl S5"
     exact⟨SqL.of (S5 _ _ h34),SqL.of (S5 _ _ h4)⟩
    .intro i x y O H5 p H6 hx hy hp np S6 h6
     walk_at"@pout _ _ _ hp@ev2 v3@crfl S5"
     walk_at"@R.get hx@epc c g@crfl hc hpc hg"
     have hy':(ps.map V.ref)[i+1]? = some y:=by
      rw [Np,Jm] at hy
      rwa [Nn] at hy
     walk_at"@R.get hy'@epd d gd@crfl hd hpd hgd"
     have lt:=ok.2.1 i c d hc hd
     have nlt:¬ d.1<=c.1:=by lia
     have SS:=S4.trans (S5.trans S6)
     have hpc':=SS _ _ hpc
     have hpd':=SS _ _ hpd
     clear hpc hpd h34 h4 hg hgd
     walk_at"rs*"
     exact pin _ _ _ ⟨_,_,rfl,S5.trans S6⟩
    .intro O H5 hp
     walk_at"@pout _ _ _ hp@ev2 v3@crfl S5"
     walk_at"rs"
     intro x dx H6 n6 n7 nx S6 hdx hx
     have hl6:=S6 _ _ (S5 _ _ h34)
     have S36:=S4.trans (S5.trans S6)
     have S03:=S1.trans S3
     have S05:=S03.trans (S4.trans S5)
     refine⟨dx,ps,cs,hx,hl6,R.same S36,g7d.crn ok,L1,L12,fun ct ln S ss us H7 B7 nct h7 hct hln TP sok=>?_⟩
     rw [asNew]
     refine⟨rfl,q x H7 (S05.free n6) (fun b u e=>B7 _ _ (fun z=>by rw [z] at e; rw [S05 _ _ e] at n6; cases n6) (S6 _ _ (S05 _ _ e))) ⟨dx,_,h7,by
      have e:=j7j ok.2.1 sok
      have e1:(swX cs).1=ss:=by rw [e]
      have e2:(swX cs).2=S:=by rw [e]
      exact⟨ct,ln,us,ps,by rw [e2],hct,hln,by rw [e1,e2]; exact TP,by rw [e1,e2]; exact sok,(R.same S36).d6t hx B7⟩⟩⟩
  | _=>simp [Dt.kd] at hk
theorem j0d(T:Tx K mg A):a1j P A.wd K mg base CX0 8 A.c2q A.c2g ["word"] (j6l A):=by
 have h9n:a1j P A.wd K mg base CX0 6 _ _ _ _:=h3w T
 have h3z:a1j P A.wd K mg base CX0 6 _ _ _ _:=g8u T
 have h9o:a1j P A.wd K mg base CX0 6 _ _ _ _:=h3x T
 have h9p:a1j P A.wd K mg base CX0 6 _ _ _ _:=h3y T
 have h4a:a1j P A.wd K mg base CX0 7 _ _ _ _:=g8x T
 refine T.d1r.ok f8p (fun _ _ _ _ h=>i5m h) (fun cdv A' outer s H vs Q E hr h=>?_)
 .walk_at"h"
  walk_at"@j8r h@ex@czE@ed@cok k4 hx q"
  walk_at"g"
  subst hx
  have hu:=hr.units
  have dk:=T.h3m
  have sp:=d.split
  have wl:=d.wlen ok
  have vn:=d.vn
  have hs:=szl
  have d1:((⟨#[58]⟩:Str).length == 0)=false:=rfl
  obtain⟨f,hf⟩:∃ f,Cp K A.a3h d.kind=some (some (.ref f)):=by
   cases d with
   | gain=>exact⟨_,T.b6k⟩
   | delay=>exact⟨_,T.b3i⟩
   | echo=>exact⟨_,T.b6l⟩
   | back=>exact⟨_,T.b6m⟩
   | hall=>exact absurd rfl k4
   | swell=>exact⟨_,T.b3j⟩
  refine⟨_,(a0h (a5j (c9k (b3l (a3p (c3v .str) T.a7r Fp (a0g (pvF 0) (a0g (c9w (v:=.ty "str") (u:=.type "str") (by rfl) T.f5h rfl rfl) a0i)))))
   (a0k a2r)
   a1u)
   (a0h (a1t 1 f8p.nd (b5r c2l Em El Gz f1n (pvF 0) (a0g a2p a0i)))
   (a0h (a5j (a3n (h6u (K:=K) (w:=A.wd) (by rfl) (by rfl)) (a0v a2s (pvF 1) a0j) (a6y (v:=.ref A.a3h) (by rfl) T.c2j rfl))
   (a0k a2r)
   a1u)
   (a0k (a0w (a2q (d5r h9n hr.dn T.d1o.kp T.h8c .nil a3i (a0v (j4u (K:=K) (w:=A.wd) (by rfl) (by rfl)) (a6y (v:=.ref A.a3h) (by rfl) T.c2j rfl) (a0v a2s (pvF 1) a0j)) (a0g (a3z g3s (pvF 1) (a3j a0j) b0j) a0i)) (a2q (d5r h3z hr.dn T.c6p.kp T.h3a .nil a3i (a0v (j4u (K:=K) (w:=A.wd) (by rfl) (by rfl)) (a6y (v:=.ref A.a3h) (by rfl) T.c2j rfl) (a0v a2s (pvF 1) a0j)) (a0g (a3z g3s (pvF 1) (a3j a0j) b0j) a0i)) (a2q (d5r h9o hr.dn T.d1p.kp T.h8d .nil a3i (a0v (j4u (K:=K) (w:=A.wd) (by rfl) (by rfl)) (a6y (v:=.ref A.a3h) (by rfl) T.c2j rfl) (a0v a2s (pvF 1) a0j)) (a0g (a3z g3s (pvF 1) (a3j a0j) b0j) a0i)) (a2q (d5r h9p hr.dn T.d1q.kp T.h8e .nil a3i (a0v (j4u (K:=K) (w:=A.wd) (by rfl) (by rfl)) (a6y (v:=.ref A.a3h) (by rfl) T.c2j rfl) (a0v a2s (pvF 1) a0j)) (a0g (a3z g3s (pvF 1) (a3j a0j) b0j) a0i)) (d5r h4a hr.dn T.c6q.kp T.h3b .nil a3i (a0v (j4u (K:=K) (w:=A.wd) (by rfl) (by rfl)) (a6y (v:=.ref A.a3h) (by rfl) T.c2j rfl) (a0v a2s (pvF 1) a0j)) (a0g (a3z g3s (pvF 1) (a3j a0j) b0j) a0i))))))))))),?_⟩
  clear hu
  rw [k0q]
  walk_at"rd*"
  refine⟨by lia,by lia,fun l H1 n1 S1 h1=>?_⟩
  clear sp wl
  walk_at"rd*"
  clear hf
  cases d with
  | gain y =>
   refine Kp ?_
   have rd:=T.b6k
   have q1:=ok
   clear ok
   replace h1:H1 l=some (.lst [.str (B0 "gain"),.str (fW y)]):=h1
   walk_at"rd*"
   refine fun m H2 n2 S2 h2=>?_
   have e2:f0y [V.str (B0 "gain"),V.str (fW y)] (some 1) none=(Dt.gain y).vals.map V.str:=by
    show f1m _ (some ((1:Nat):Int)) none=_
    rw [a7g]
    rfl
   rw [e2] at h2
   walk_at"rd"
   exact⟨_,rfl,q1,h2,fun o H3 n3 S3 hp=>q o H3 ((S1.trans S2).free n3) (S1.trans (S2.trans S3)) hp⟩
  | delay n =>
   refine G3 (Kp ?_)
   have rd:=T.b3i
   have q1:=ok
   clear ok
   replace h1:H1 l=some (.lst [.str (B0 "delay"),.str (nW n)]):=h1
   walk_at"rd*"
   refine fun m H2 n2 S2 h2=>?_
   have e2:f0y [V.str (B0 "delay"),V.str (nW n)] (some 1) none=(Dt.delay n).vals.map V.str:=by
    show f1m _ (some ((1:Nat):Int)) none=_
    rw [a7g]
    rfl
   rw [e2] at h2
   walk_at"rd"
   exact⟨_,rfl,q1,h2,fun o H3 n3 S3 hp=>q o H3 ((S1.trans S2).free n3) (S1.trans (S2.trans S3)) hp⟩
  | echo y n t =>
   refine G3 (G3 (Kp ?_))
   have rd:=T.b6l
   have q1:=ok
   clear ok
   replace h1:H1 l=some (.lst [.str (B0 "echo"),.str (fW y),.str (nW n),.str (nW t)]):=h1
   walk_at"rd*"
   refine fun m H2 n2 S2 h2=>?_
   have e2:f0y [V.str (B0 "echo"),V.str (fW y),V.str (nW n),V.str (nW t)] (some 1) none=(Dt.echo y n t).vals.map V.str:=by
    show f1m _ (some ((1:Nat):Int)) none=_
    rw [a7g]
    rfl
   rw [e2] at h2
   walk_at"rd"
   exact⟨_,rfl,q1,h2,fun o H3 n3 S3 hp=>q o H3 ((S1.trans S2).free n3) (S1.trans (S2.trans S3)) hp⟩
  | back y n =>
   refine G3 (G3 (G3 (Kp ?_)))
   have rd:=T.b6m
   have q1:=ok
   clear ok
   replace h1:H1 l=some (.lst [.str (B0 "back"),.str (fW y),.str (nW n)]):=h1
   walk_at"rd*"
   refine fun m H2 n2 S2 h2=>?_
   have e2:f0y [V.str (B0 "back"),V.str (fW y),V.str (nW n)] (some 1) none=(Dt.back y n).vals.map V.str:=by
    show f1m _ (some ((1:Nat):Int)) none=_
    rw [a7g]
    rfl
   rw [e2] at h2
   walk_at"rd"
   exact⟨_,rfl,q1,h2,fun o H3 n3 S3 hp=>q o H3 ((S1.trans S2).free n3) (S1.trans (S2.trans S3)) hp⟩
  | hall y n=>exact absurd rfl k4
  | swell cs =>
   refine G3 (G3 (G3 (G3 ?_)))
   have rd:=T.b3j
   have q1:=ok
   clear ok
   replace h1:H1 l=some (.lst [.str (B0 "swell"),.str (F9 ⟨#[44]⟩ (cs.map cW))]):=h1
   walk_at"rd*"
   refine fun m H2 n2 S2 h2=>?_
   have e2:f0y [V.str (B0 "swell"),V.str (F9 ⟨#[44]⟩ (cs.map cW))] (some 1) none=(Dt.swell cs).vals.map V.str:=by
    show f1m _ (some ((1:Nat):Int)) none=_
    rw [a7g]
    rfl
   rw [e2] at h2
   walk_at"rd"
   exact⟨_,rfl,q1,h2,fun o H3 n3 S3 hp=>q o H3 ((S1.trans S2).free n3) (S1.trans (S2.trans S3)) hp⟩
variable {E:XK}{O:L2.St}{Q:VK}
theorem b6q{m:Str}{sp:Sp}{t:TA}{fs:List (Str×V)}(Ah:O[i]? = some (some (.ref o)))(ho:H o=some (.ins C dx fs))(hl:fs.lookup m=none)(ht:t O H fun vs H2=>sp (.ref o :: (vs++[])) H2 Q E):a8r C m sp [] E (b9n i) t O H Q:=by
 simp only [a8r,b9n,Ah,ho]
 exact⟨trivial,hl,ht⟩
theorem thr5{t:TA}(Ah:O[i]? = some (some (.ref o)))(hd:IsP A H o d)(ht:t O H fun vs H2=>f5m A d.kd (.ref o :: (vs++[])) H2 Q E) :
  b0k (a8r A.a8u "through" (f5m A 0) [] E (b9n i) t) (b0k (a8r A.a4s "through" (f5m A 1) [] E (b9n i) t) (b0k (a8r A.a5s "through" (f5m A 2) [] E (b9n i) t) (b0k (a8r A.a7q "through" (f5m A 3) [] E (b9n i) t) (a8r A.a2w "through" (f5m A 5) [] E (b9n i) t)))) O H Q:=by
 cases d with
 | gain y =>
  walk_at"@hd@edx _@cho@eg@crfl hg"; clear hd
  refine .inl ?_
  replace ho:H o=some (.ins A.a8u dx [("gain",.ref g)]):=ho
  exact b6q Ah ho (by walk_at"rd") ht
 | delay n =>
  walk_at"@hd@edx _@cho rfl"; clear hd
  refine .inr (.inl ?_)
  replace ho:H o=some (.ins A.a4s dx [("many",.int n)]):=ho
  exact b6q Ah ho (by walk_at"rd") ht
 | echo y n t' =>
  walk_at"@hd@edx _@cho@eg fa@crfl hg hf"; clear hd
  refine .inr (.inr (.inl ?_))
  replace ho:H o=some (.ins A.a5s dx (ecF g fa n t' (y.den:Int))):=ho
  unfold ecF at ho
  exact b6q Ah ho (by walk_at"rd") ht
 | back y n =>
  walk_at"@hd@edx _@cho@eg@crfl hg"; clear hd
  refine .inr (.inr (.inr (.inl ?_)))
  replace ho:H o=some (.ins A.a7q dx [("gain",.ref g),("many",.int n)]):=ho
  exact b6q Ah ho (by walk_at"rd") ht
 | swell cs =>
  walk_at"@hd@edx _@cho@ect ln us ps@crfl hz"; clear hd
  refine .inr (.inr (.inr (.inr ?_)))
  replace ho:H o=some (.ins A.a2w dx (swF ct ln (swX cs).2)):=ho
  unfold swF at ho
  exact b6q Ah ho (by walk_at"rd") ht
 | hall y n=>obtain⟨_,_,_,z⟩:=hd; exact z.elim
theorem fr5(Ah:O[i]? = some (some (.ref o)))(hd:IsP A H o d)(q:∀ st H1,Same H H1->StV H1 [] st d->Q st H1) :
  b0k (a8r A.a8u "fresh" f5l [] E (b9n i) f7v) (b0k (a8r A.a4s "fresh" f5l [] E (b9n i) f7v) (b0k (a8r A.a5s "fresh" f5l [] E (b9n i) f7v) (b0k (a8r A.a7q "fresh" f5l [] E (b9n i) f7v) (a8r A.a2w "fresh" g5f [] E (b9n i) f7v)))) O H Q:=by
 have fin:d.kd < 4->All (d9g H []) Q ⟨⟩ ⟨⟩:=fun k4=>by
  rintro _ H1 ⟨p,rfl,n1,S1,h1⟩
  exact q _ H1 S1 (i3s k4 h1)
 cases d with
 | gain y =>
  have fin:=fin (by simp [Dt.kd])
  walk_at"@hd@edx _@cho@eg@crfl hg"; clear hd
  refine .inl ?_
  replace ho:H o=some (.ins A.a8u dx [("gain",.ref g)]):=ho
  walk_at"rd*"
 | delay n =>
  have fin:=fin (by simp [Dt.kd])
  walk_at"@hd@edx _@cho rfl"; clear hd
  refine .inr (.inl ?_)
  replace ho:H o=some (.ins A.a4s dx [("many",.int n)]):=ho
  walk_at"rd*"
 | echo y n t' =>
  have fin:=fin (by simp [Dt.kd])
  walk_at"@hd@edx _@cho@eg fa@crfl hg hf"; clear hd
  refine .inr (.inr (.inl ?_))
  replace ho:H o=some (.ins A.a5s dx (ecF g fa n t' (y.den:Int))):=ho
  unfold ecF at ho
  walk_at"rd*"
 | back y n =>
  have fin:=fin (by simp [Dt.kd])
  walk_at"@hd@edx _@cho@eg@crfl hg"; clear hd
  refine .inr (.inr (.inr (.inl ?_)))
  replace ho:H o=some (.ins A.a7q dx [("gain",.ref g),("many",.int n)]):=ho
  walk_at"rd*"
 | swell cs =>
  walk_at"@hd@edx _@cho@ect ln us ps@crfl hz"; clear hd
  refine .inr (.inr (.inr (.inr ?_)))
  replace ho:H o=some (.ins A.a2w dx (swF ct ln (swX cs).2)):=ho
  unfold swF at ho
  walk_at"rd*"
  exact q _ _ (Same.refl _) rfl
 | hall y n=>obtain⟨_,_,_,z⟩:=hd; exact z.elim
theorem gr5(Ah:O[i]? = some (some (.ref o)))(hd:IsP A H o d)(q:Q (.int (a8n d)) H) :
  b0k (a8r A.a8u "grain" (g5g A 0) [] E (b9n i) f7v) (b0k (a8r A.a4s "grain" h0j [] E (b9n i) f7v) (b0k (a8r A.a5s "grain" (g5g A 2) [] E (b9n i) f7v) (b0k (a8r A.a7q "grain" (g5g A 3) [] E (b9n i) f7v) (a8r A.a2w "grain" (g5g A 5) [] E (b9n i) f7v)))) O H Q:=by
 have z:=hd
 cases d with
 | gain y =>
  obtain⟨dx,_,ho,g,rfl,hg⟩:=hd
  refine .inl ?_
  replace ho:H o=some (.ins A.a8u dx [("gain",.ref g)]):=ho
  exact b6q Ah ho (by walk_at"rd") ⟨_,rfl,z,q⟩
 | delay n =>
  obtain⟨dx,_,ho,rfl⟩:=hd
  refine .inr (.inl ?_)
  replace ho:H o=some (.ins A.a4s dx [("many",.int n)]):=ho
  walk_at"rd*"
  exact q
 | echo y n t' =>
  obtain⟨dx,_,ho,g,fa,rfl,hg,hf⟩:=hd
  refine .inr (.inr (.inl ?_))
  replace ho:H o=some (.ins A.a5s dx (ecF g fa n t' (y.den:Int))):=ho
  unfold ecF at ho
  exact b6q Ah ho (by walk_at"rd") ⟨_,rfl,z,q⟩
 | back y n =>
  obtain⟨dx,_,ho,g,rfl,hg⟩:=hd
  refine .inr (.inr (.inr (.inl ?_)))
  replace ho:H o=some (.ins A.a7q dx [("gain",.ref g),("many",.int n)]):=ho
  exact b6q Ah ho (by walk_at"rd") ⟨_,rfl,z,q⟩
 | swell cs =>
  obtain⟨dx,_,ho,ct,ln,us,ps,rfl,hz⟩:=hd
  refine .inr (.inr (.inr (.inr ?_)))
  replace ho:H o=some (.ins A.a2w dx (swF ct ln (swX cs).2)):=ho
  unfold swF at ho
  exact b6q Ah ho (by walk_at"rd") ⟨_,rfl,z,q⟩
 | hall y n=>obtain⟨_,_,_,z⟩:=hd; exact z.elim
theorem h9q:∀ (ds:List Dt) (xs:List Int),(run ds xs).length=xs.length
 | [],xs=>rfl
 | d :: ds,xs=>(h9q ds (outs d [] xs)).trans (a5t d [] xs)
theorem g2b:∀ (ds:List Dt) (a b:List Int),(blk ds a b).length=b.length
 | [],a,b=>rfl
 | d :: ds,a,b=>(g2b ds _ _).trans (a5t d a b)
theorem g2c:∀ (ds:List Dt) (a b:List Int),run ds (a++b)=run ds a++blk ds a b
 | [],a,b=>rfl
 | d :: ds,a,b=>by
  show run ds (outs d [] (a++b))=run ds (outs d [] a)++blk ds (outs d [] a) (outs d a b)
  rw [i3r,Ex,g2c ds]
theorem h0v:∀ (ds:List Dt) (d:Dt) (a b:List Int),blk (ds++[d]) a b=outs d (run ds a) (blk ds a b)
 | [],d,a,b=>rfl
 | e :: ds,d,a,b=>h0v ds d _ _
theorem f6h(b:Int)(ds:List Dt)(d:Dt):a6o b (ds++[d])=a6o b ds*a8n d:=by
 unfold a6o
 rw [Jy]
 rfl
theorem h0w{m:Int}:∀ (k:Nat) (bs:List Int),bs.length=k->(∀ b∈bs,b∣m)->g5e bs∣m
 | 0,bs,hl,_=>by
  obtain rfl:=Fh.mp hl
  exact Int.one_dvd m
 | k+1,bs,hl,h=>by
  obtain⟨cs,c,rfl⟩:∃ cs c,bs=cs++[c]:=by
   rcases Ii bs with e | ⟨cs,c,e⟩
   .rw [e] at hl; cases hl
   .exact⟨cs,c,by rw [e,Ij]⟩
  rw [C1,Cw] at hl
  rw [f5q]
  exact Int.coe_lcm_dvd (h0w k cs (by lia) fun b hb=>h b (Dp _ hb)) (h c (Cj _ Ce))
theorem j0e{s:Rat}{m k:Int}(h:s*(m:Rat)=(k:Rat)):(s.den:Int)∣m:=by
 have e:s.num*m=k*(s.den:Int):=by
  have z:((s.num*m:Int):Rat)=((k*(s.den:Int):Int):Rat):=by
   rw [Gw,Gw,<- h,<- g1t s]
   grind
  exact Lu.mp z
 have d:(s.den:Int)∣s.num*m:=⟨k,by rw [e,Jn]⟩
 have dn:s.den∣s.num.natAbs*m.natAbs:=by
  have:=O4.mpr d
  rwa [Hi,Hb] at this
 have r:=Nat.Coprime.dvd_of_dvd_mul_left (Nat.Coprime.symm s.reduced) dn
 exact O4.mp (by rwa [Hb])
theorem k5o{cs:List (Int×Rat)}(ok:g7d cs)(fw:Few (.swell cs)):∃ (c d:Int×Rat) (s:Rat),cs = [c,d]/\d.1=c.1+3/\(swX cs).1 = [s,0]/\1<=(swX cs).2/\intBits (swX cs).2<=41/\intBits s.num<=60/\YOk c.2/\YOk d.2:=by
 walk_at"@fw@ec d@crfl e3"; clear fw
 have oc:=(ok.1 c Ce).2.2
 have od:=(ok.1 d (Ci _ Ce)).2.2
 have d3:d.1 - c.1=3:=by lia
 obtain⟨s,es⟩:∃ s,(d.2 - c.2)*(((d.1 - c.1:Int):Rat))⁻¹=s:=⟨_,rfl⟩
 have e1:(swX [c,d]).1 = [s,0]:=by rw [<- es]; rfl
 have e2:(swX [c,d]).2=g5e [(c.2.den:Int),(d.2.den:Int),(s.den:Int),1]:=by rw [<- es]; rfl
 rw [d3] at es
 have cp:=c.2.den_pos
 have dp:=d.2.den_pos
 have sp:=s.den_pos
 have c1:c.2.den<=1000:=oc.2
 have d1:d.2.den<=1000:=od.2
 have t3:((3:Int):Rat)⁻¹*((3:Int):Rat)=1:=Pb _ (by decide +kernel)
 have sd:(s.den:Int)∣3*(c.2.den:Int)*(d.2.den:Int):=by
  refine j0e (k:=d.2.num*(c.2.den:Int) - c.2.num*(d.2.den:Int)) ?_
  rw [<- es,Gw,Gw,Rat.intCast_sub,Gw,Gw,<- g1t c.2,<- g1t d.2]
  generalize ((3:Int):Rat)⁻¹=t at t3
  generalize ((3:Int):Rat)=u at t3
  grind
 have dv:(swX [c,d]).2∣3*(c.2.den:Int)*(d.2.den:Int):=by
  rw [e2]
  refine h0w 4 _ rfl fun b hb=>?_
  simp only [Db,Eo,or_false] at hb
  rcases hb with rfl | rfl | rfl | rfl
  .exact Int.dvd_mul_of_dvd_left (Qi _ _)
  .exact Qi _ _
  .exact sd
  .exact Int.one_dvd _
 have one:1<=(swX [c,d]).2:=by
  rw [e2]
  refine (f5r 4 _ (B:=intBits (c.2.den:Int)+intBits (d.2.den:Int)+intBits (s.den:Int)+64) rfl fun b hb=>?_).1
  have i1:intBits 1<=64:=by decide
  simp only [Db,Eo,or_false] at hb
  rcases hb with rfl | rfl | rfl | rfl <;> lia
 refine⟨c,d,s,rfl,e3,e1,one,?_,?_,oc,od⟩
 .have le:=Ry (by have:0 < 3*(c.2.den:Int)*(d.2.den:Int):=K1 (by lia) (by lia); exact this) dv
  have m1:3*(c.2.den:Int)*(d.2.den:Int)<=3*1000*1000:=Int.mul_le_mul (by lia) (by lia) (by lia) (by lia)
  rw [D8]
  lia
 .have n3:intBits (((3:Int):Rat)⁻¹).num<=10/\intBits ((((3:Int):Rat)⁻¹).den:Int)<=10:=by decide +kernel
  have ng:(-c.2).num = -c.2.num/\(-c.2).den=c.2.den:=⟨Rat.neg_num _,Rat.neg_den _⟩
  have p:=f8z (x:=d.2) (y := -c.2) (a:=10) od.b.1 od.b.2 (by rw [ng.1]; exact Kh oc.b.1) (by rw [ng.2]; exact oc.b.2)
  have m:=(f5s p.1 p.2 n3.1 n3.2).1
  rw [<- Pa,es] at m
  exact Bz m (by decide)
theorem g2d(ok:g7d cs)(fw:Few (.swell cs)):1<=(swX cs).2/\intBits (swX cs).2<=41:=by
 walk_at"@k5o ok fw@e_ _ _@c_ _ _ h1 h2 _"
 exact⟨h1,h2⟩
theorem i3v(ok:g7d cs)(fw:Few (.swell cs))(i:Int):intBits (h4i (swX cs).2 i cs (swX cs).1)<=190:=by
 walk_at"@k5o ok fw@ec d s@crfl e3 es h1 h2 h3 oc od"
 rw [es]
 generalize (swX [c,d]).2=S at h1 h2
 show intBits (if i < d.1 then g1r S i c s else g1r S i d 0)<=190
 have b0:∀ {y:Rat},YOk y->intBits (y.num*S.fdiv y.den)<=51:=fun h=>Bz (Cn h.b.1 (Fo h2)) (by decide)
 split
 .rename_i hi
  have b2:intBits (s.num*S.fdiv s.den)<=101:=Cn h3 (Fo h2)
  have b3:intBits (max 0 (i - c.1))<=64:=Ei (by omega) (by omega)
  exact Bz (Ff (b0 oc) (Cn b2 b3)) (by decide)
 .unfold g1r
  rw [show (0:Rat).num=0 from rfl,La,La,F4]
  exact Bz (b0 od) (by decide)
theorem f9i{X:Nat->Int}{p q:Int}{t B:Nat}(bp:intBits p<=10)(bq:intBits q<=10)(ht:t<=16)(hX:∀ m,intBits (X m)<=B):∀ j,j<=t+1->intBits (h4h X p q t j)<=B+176+j
 | 0,_=>by rw [h4h]; exact Bz (by decide:intBits 0<=1) (by lia)
 | j+1,h=>by
  rw [h4h]
  have h1:=f9i bp bq ht hX j (by lia)
  have h2:intBits (X j*i0n p q t j)<=B+176+j:=Bz (Cn (hX j) (g5k bp bq ht (by lia))) (by lia)
  exact Bz (Ff h1 h2) (by lia)
theorem i3w{B:Nat}(ok:okF d)(hX:∀ i,intBits (X i)<=B)(i:Int):intBits (tap (j8t d) X i)<=B+200:=by
 obtain⟨ok,fw⟩:=ok
 have z0:intBits 0<=B+30:=Bz (by decide:intBits 0<=1) (by lia)
 cases d with
 | gain y =>
  have yb:=YOk.b ok
  show intBits (y.num*X (i - ((0:Nat):Int))+0)<=_
  rw [F4]
  exact Bz (Cn yb.1 (hX _)) (by lia)
 | delay n =>
  show intBits (1*X (i - (n:Int))+0)<=_
  rw [F4,Hz]
  exact Bz (hX _) (by lia)
 | echo y n t =>
  have yb:=YOk.b ok.1
  have ht:=ok.2.2.2
  show intBits (tap ((Cz (t+1)).map _) X i)<=_
  rw [f5y]
  exact Bz (f9i yb.1 yb.2 ht (fun m=>hX _) (t+1) (C0 _)) (by lia)
 | back y n =>
  have yb:=YOk.b ok.1
  show intBits ((y.den:Int)*X (i - ((0:Nat):Int))+(-y.num*X (i - (n:Int))+0))<=_
  rw [F4]
  have h1:intBits ((y.den:Int)*X (i - ((0:Nat):Int)))<=10+B:=Cn yb.2 (hX _)
  have h2:intBits (-y.num*X (i - (n:Int)))<=10+B:=Cn (Kh yb.1) (hX _)
  exact Bz (Ff h1 h2) (by lia)
 | hall y n=>exact Bz z0 (by lia)
 | swell cs =>
  show intBits (h4i (swX cs).2 i cs (swX cs).1*X (i - ((0:Nat):Int))+0)<=_
  rw [F4]
  exact Bz (Cn (i3v ok fw i) (hX _)) (by lia)
theorem i3x{B:Nat}(h:∀ y∈xs,intBits y<=B)(B1:1<=B)(i:Int):intBits (d3h xs i)<=B:=by
 unfold d3h
 have z0:intBits 0<=B:=Bz (by decide:intBits 0<=1) B1
 split
 .exact z0
 .rw [C3]
  cases e:xs[i.toNat]? with
  | none=>exact z0
  | some y=>exact h y (Ca e)
theorem d6v:∀ {ds:List Dt} {xs:List Int} {B:Nat},1<=B->(∀ d∈ds,okF d)->(∀ y∈xs,intBits y<=B)->∀ y∈run ds xs,intBits y<=B+200*ds.length
 | [],xs,B,_,_,h,y,hy=>by
  have:=h y hy
  lia
 | d :: ds,xs,B,B1,ok,h,y,hy=>by
  have:=d6v (ds:=ds) (xs:=outs d [] xs) (B:=B+200) (by lia) (fun d hd=>ok d (Ci _ hd)) (fun y hy=>by
   unfold outs at hy
   obtain⟨i,_,rfl⟩:=E4.mp hy
   exact i3w (ok d Ce) (i3x h B1) _) y hy
  rw [Cq]
  lia
theorem d8t(ok:okF d):intBits (a8n d)<=161:=by
 obtain⟨ok,fw⟩:=ok
 cases d with
 | gain y=>exact Bz (YOk.b ok).2 (by decide)
 | echo y n t=>exact Bz (d3k (YOk.b ok.1).2 t) (by have:=ok.2.2.2; lia)
 | back y n=>exact Bz (YOk.b ok.1).2 (by decide)
 | swell cs=>exact Bz (g2d ok fw).2 (by decide)
 | _=>show intBits 1<=161; decide
theorem c9h:∀ {ds:List Dt} {b:Int} {B:Nat},(∀ d∈ds,okF d)->intBits b<=B->intBits (a6o b ds)<=B+161*ds.length
 | [],b,B,_,h=>by
  show intBits b<=_
  lia
 | d :: ds,b,B,ok,h=>by
  have:=c9h (ds:=ds) (b:=b*a8n d) (B:=B+161) (fun d hd=>ok d (Ci _ hd)) (Cn h (d8t (ok d Ce)))
  rw [Cq]
  show intBits (a6o (b*a8n d) ds)<=_
  lia
variable {os:List Addr}{ds:List Dt}
theorem h3n.same{H H':Hp}(h:h3n A H os ds)(S:Same H H'):h3n A H' os ds:=⟨h.1,fun i o d e1 e2=>(h.2 i o d e1 e2).same S⟩
variable {sts:List V}
theorem Sts.same{H H':Hp}(h:Sts H ds sts xs)(S:Same H H'):Sts H' ds sts xs:=⟨h.1,fun i o d e1 e2=>(h.2 i o d e1 e2).same S⟩
theorem ChS.same{H H':Hp}(h:ChS A H o ds xs)(S:Same H H'):ChS A H' o ds xs:=by
 walk_at"@h@edx pl sl os sts@ch1 h2 h3 h4 h5"; clear h
 exact⟨dx,pl,sl,os,sts,S _ _ h1,S _ _ h2,S _ _ h3,h4.same S,h5.same S⟩
theorem Lk.lst{H:Hp}{D:Addr}{ys:List V}(h:H D=some (.lst ys)):Lk H D:=⟨fun ts e=>(by rw [h] at e; cases e),fun c dx fs e=>(by rw [h] at e; cases e)⟩
theorem Lk.ins{H:Hp}{D:Addr}{c dx:Addr}{fs:List (Str×V)}(h:H D=some (.ins c dx fs))(hf:fs = []\/(∃ pl:V,fs=ch1 pl)\/∃ pl sl,fs=chF pl sl):Lk H D:=⟨fun ts e=>(by rw [h] at e; cases e),fun c dx fs e=>(by rw [h] at e; cases e; exact hf)⟩
variable {D:Addr}{st:V}
theorem StV.b5q{H H':Hp}(h:StV H xs st d)(hD:Lk H D)(Z:a2j D H H'):StV H' xs st d:=by
 have ne:∀ {p:Addr} {ts:List V},H p=some (.tup ts)->H' p=some (.tup ts):=fun hp=>Z _ _ (fun e=>by rw [e] at hp; exact hD.1 _ hp) hp
 cases d with
 | gain y=>exact h
 | delay n=>obtain⟨p,e,h⟩:=h; exact⟨p,e,ne h⟩
 | echo y n t=>obtain⟨p,e,h⟩:=h; exact⟨p,e,ne h⟩
 | back y n=>obtain⟨p,e,h⟩:=h; exact⟨p,e,ne h⟩
 | swell cs=>exact h
 | hall y n=>exact h.elim
theorem IsP.b5q{H H':Hp}(h:IsP A H o d)(hD:Lk H D)(Z:a2j D H H'):IsP A H' o d:=by
 have ne:∀ {p:Addr} {ts:List V},H p=some (.tup ts)->H' p=some (.tup ts):=fun hp=>Z _ _ (fun e=>by rw [e] at hp; exact hD.1 _ hp) hp
 walk_at"@h@edx fs@ch1 h2"; clear h
 refine⟨dx,fs,Z _ _ (fun e=>?_) h1,?_⟩
 .rw [e] at h1
  have np:∀ {n:Str} {v:V} {r:List (Str×V)},fs=(n,v) :: r->n≠("parts":Str)->False:=fun e1 hn=>by
   rcases hD.2 _ _ _ h1 with z | ⟨pl,z⟩ | ⟨pl,sl,z⟩ <;> rw [z] at e1
   .cases e1
   .injection e1 with e1 _
    injection e1 with e1 _
    exact hn e1.symm
   .injection e1 with e1 _
    injection e1 with e1 _
    exact hn e1.symm
  cases d with
  | gain y=>obtain⟨g,e,_⟩:=h2; exact np e (by decide +kernel)
  | delay n=>exact np h2 (by decide +kernel)
  | echo y n t=>obtain⟨g,fa,e,_⟩:=h2; exact np e (by decide +kernel)
  | back y n=>obtain⟨g,e,_⟩:=h2; exact np e (by decide +kernel)
  | swell cs=>obtain⟨ct,ln,us,ps,e,_⟩:=h2; exact np e (by decide +kernel)
  | hall y n=>exact h2.elim
 .cases d with
  | gain y=>obtain⟨g,e,h1⟩:=h2; exact⟨g,e,ne h1⟩
  | delay n=>exact h2
  | echo y n t=>obtain⟨g,fa,e,h1,h2⟩:=h2; exact⟨g,fa,e,ne h1,ne h2⟩
  | back y n=>obtain⟨g,e,h1⟩:=h2; exact⟨g,e,ne h1⟩
  | swell cs =>
   walk_at"@h2@ect ln us ps@ce h1 h2 h3 h4 h5"
   exact⟨ct,ln,us,ps,e,ne h1,ne h2,⟨h3.1,fun i q v e1 e2=>ne (h3.2 i q v e1 e2)⟩,h4,⟨h5.1,fun i p c e1 e2=>(h5.2 i p c e1 e2).elim fun g z=>⟨g,ne z.1,ne z.2⟩⟩⟩
  | hall y n=>exact h2.elim
theorem h3n.b5q{H H':Hp}(h:h3n A H os ds)(hD:Lk H D)(Z:a2j D H H'):h3n A H' os ds:=⟨h.1,fun i o d e1 e2=>(h.2 i o d e1 e2).b5q hD Z⟩
theorem Sts.snoc(h:Sts H ds sts xs)(hs:StV H (run ds xs) st d):Sts H (ds++[d]) (sts++[st]) xs:=by
 obtain⟨hl,h⟩:=h
 refine⟨by rw [C1,C1,hl]; rfl,fun i s e h1 h2=>?_⟩
 rcases F0 i ds.length with z | z
 .rw [Cm (by lia)] at h1
  rw [Cm z] at h2
  rw [Hx (by lia)]
  exact h i s e h1 h2
 .have hi:=(Bu.mp h2).1
  rw [C1,Cw] at hi
  obtain rfl:i=ds.length:=by lia
  rw [<- hl,E5] at h1
  rw [E5] at h2
  cases h1
  cases h2
  rw [Hx (C0 _),Dg]
  exact hs
theorem Sts.b5q{H H':Hp}(h:Sts H ds sts xs)(hD:Lk H D)(Z:a2j D H H'):Sts H' ds sts xs:=⟨h.1,fun i o d e1 e2=>(h.2 i o d e1 e2).b5q hD Z⟩
theorem h3n.snoc(h:h3n A H os ds)(hp:IsP A H o d):h3n A H (os++[o]) (ds++[d]):=by
 obtain⟨hl,h⟩:=h
 refine⟨by rw [C1,C1,hl]; rfl,fun i s e h1 h2=>?_⟩
 rcases F0 i ds.length with z | z
 .rw [Cm (by lia)] at h1
  rw [Cm z] at h2
  exact h i s e h1 h2
 .have hi:=(Bu.mp h2).1
  rw [C1,Cw] at hi
  obtain rfl:i=ds.length:=by lia
  rw [<- hl,E5] at h1
  rw [E5] at h2
  cases h1
  cases h2
  exact hp
variable {Z:Addr}
theorem ChX.same{H H':Hp}(h:ChX A H o ds xs Z)(S:Same H H'):ChX A H' o ds xs Z:=by
 walk_at"@h@edx pl sl os sts@ch1 h2 h3 h4 h5 h6"; clear h
 exact⟨dx,pl,sl,os,sts,S _ _ h1,S _ _ h2,S _ _ h3,h4.same S,h5.same S,h6⟩
theorem ChX.b5q{H H':Hp}(h:ChX A H o ds xs Z)(hZ:Lk H Z)(B:a2j Z H H'):ChX A H' o ds xs Z:=by
 walk_at"@h@edx pl sl os sts@ch1 h2 h3 h4 h5 h6 h7 h8"; clear h
 exact⟨dx,pl,sl,os,sts,B _ _ h8 h1,B _ _ h6 h2,B _ _ h7 h3,h4.b5q hZ B,h5.b5q hZ B,h6,h7,h8⟩
theorem ChS.x(h:ChS A H o ds xs)(hZ:H Z=none):ChX A H o ds xs Z:=by
 walk_at"@h@edx pl sl os sts@ch1 h2 h3 h4 h5"; clear h
 exact⟨dx,pl,sl,os,sts,h1,h2,h3,h4,h5,fun e=>(by rw [e,hZ] at h2; cases h2),fun e=>(by rw [e,hZ] at h3; cases h3),fun e=>(by rw [e,hZ] at h1; cases h1)⟩
theorem j7l(T:Tx K mg A):a1j P A.wd K mg base CX0 9 A.b7t A.b7u ["words"] (k1z A):=by
 have h9r:a1j P A.wd K mg base CX0 8 _ _ _ _:=j0d T
 refine T.c6r.ok g7m (fun _ _ _ _ h=>d3p h) (fun cdv A' outer s H vs Q E hr h=>?_)
 .walk_at"h"
  walk_at"@g7g h@el@czE@eds@chl l8 ok q"
  walk_at"g"
  have hu:=hr.units
  have hs:=szl
  have z1:¬ (8:Int) < (ds.length:Int):=by lia
  refine⟨_,(a0h (a5j (c9k (b3l (a3p (c3v .lst) T.a7r Fp (a0g (pvF 0) (a0g (c9w (v:=.ty "list") (u:=.type "list") (by rfl) T.d2k rfl rfl) a0i)))))
   (a0k a2r)
   a1u)
   (a0h (a5j (a3n f9v (a3p a1q T.b0w Dq (a0g (pvF 0) a0i)) (a6y (v:=.int 8) (by rfl) T.g1q T.c8v))
   (a0k a2r)
   a1u)
   (a0k (a0w (b6t (piT K (pvF 0)) (fun _ _ _ _ _=>by exact (a2m h9r hr.dn T.h8g T.d1r.kp T.h8f (a0g (pvF 0) a0i))) (c5w (sc:=a0l d7k) (N:=["words"]) rfl rfl (by decide +kernel)) rfl))))),?_⟩
  clear hu
  walk_at"rf*"
  refine⟨⟨_,SqL.of hl⟩,fun D H2 n2 S2 h2=>?_⟩
  refine b1i (xs:=ds.map fun d=>V.str d.word) (fun i ys H'=>Same H H'/\H' D=some (.lst ys)/\∃ os,ys=os.map V.ref/\h3n A H' os (ds.take i)) ⟨S2,h2,[],rfl,by rw [Kq]; exact⟨rfl,fun i o d e=>by simp at e⟩⟩ (by rw [Bv,hs]; lia) ?_ ?_ ?_
  .intro i ys H' hi ⟨S',h',os,e,R⟩
   rw [Bv] at hi
   exact⟨h',SqL.of (S' _ _ hl),by rw [e,Bv,R.1,D9]; lia⟩
  .intro i x ys H' hx ⟨S',h',os,e,R⟩
   rw [C9] at hx
   obtain⟨d,hd,rfl⟩:=C7.mp hx
   obtain⟨o1,o2⟩:=ok d (Ca hd)
   walk_at"rf"
   refine⟨d,o1,o2,rfl,fun o H3 n3 S3 hp=>⟨S3 _ _ h',fun H4 B4 h4=>⟨(S'.trans S3).step n2 B4,h4,os++[o],by rw [e,Co]; rfl,?_⟩⟩⟩
   rw [Cu,hd]
   exact ((R.same S3).snoc hp).b5q (Lk.lst (S3 _ _ h')) B4
  .intro ys H3 ⟨S3,h3,os,e,R⟩
   rw [Bv,Dg] at R
   subst e
   exact q D os H3 n2 S3 h3 R
theorem g8y:∀ (ds:List Dt),run ds [] = []
 | []=>rfl
 | d :: ds=>g8y ds
theorem h0x(T:Tx K mg A):a1j P A.wd K mg base CX0 10 A.b4z A.b1u ["self","words"] (i9m A):=by
 have h4b:a1j P A.wd K mg base CX0 9 _ _ _ _:=j7l T
 have c5h:a1j P A.wd K mg base CX0 1 _ _ _ _:=i3q T
 have g2e:a1j P A.wd K mg base CX0 1 _ _ _ _:=h3q T
 have a4u:=T.a4u
 have a2g:=T.a2g
 have a1r:=T.a1r
 have a4n:=T.a4n
 have a1w:=T.a1w
 have a3l:=T.a3l
 have a1v:=T.a1v
 have a3q:=T.a3q
 have a1o:=T.a1o
 have a1p:=T.a1p
 have a1l:=T.a1l
 have a0y:=T.a0y
 have a0q:=T.a0q
 have a4o:=T.a4o
 have a1y:=T.a1y
 have a1z:=T.a1z
 have a2n:=T.a2n
 have a0s:=T.a0s
 have a0u:=T.a0u
 have a0z:=T.a0z
 refine T.c4r.ok g0q (fun _ _ _ _ h=>g0h h) (fun cdv A' outer s H vs Q E hr h=>?_)
 .walk_at"h"
  walk_at"@i2m h@eo l@czE@edx ds@cho hl l8 ok q"
  walk_at"g"
  have hu:=hr.units
  have c1q:b2u 1 _:=hr.dn
  have hs:=szl
  refine⟨_,(a0h (sfT K (pvF 0) (a2m h4b hr.dn T.h3d T.c6r.kp T.h3c (a0g (pvF 1) a0i)))
   (a0k (sfT K (pvF 0) (b6t (piT K (pfT K (pvF 0))) (fun _ _ _ _ _=>(a2q (a2k (pvF 0) T.a4n T.c7v c5h c1q T.c4y .nil a3i) (a2q (a2k (pvF 0) T.a3l T.c5k c5h c1q T.c4y .nil a3i) (a2q (a2k (pvF 0) T.a3q T.c7z c5h c1q T.c4y .nil a3i) (a2q (a2k (pvF 0) T.a4o T.c8g c5h c1q T.c4y .nil a3i) (a2k (pvF 0) T.a2n T.c5l g2e hr.dn T.g1c .nil a3i)))))) (c5w (sc:=a0l d0t) (N:=["self","words"]) rfl rfl (by decide +kernel)) rfl)))),?_⟩
  clear hu
  walk_at"rf"
  refine⟨ds,hl,l8,ok,fun pl os H1 np S1 hpl R=>?_⟩
  have ho1:=S1 _ _ ho
  walk_at"rf*"
  intro H2 B2 h2
  have no:o≠pl:=fun e=>by rw [<- e,ho] at np; cases np
  have Lo:Lk H1 o:=Lk.ins ho1 (.inl rfl)
  have j8w:=B2 _ _ no.symm hpl
  have R2:=R.b5q Lo B2
  clear hpl R ho ho1
  walk_at"rf*"
  refine⟨⟨_,SqL.of j8w⟩,fun D H3 n3 S3 h3=>?_⟩
  have ol:=R2.1
  refine b1i (xs:=os.map V.ref) (fun i ys H'=>Same H2 H'/\H' D=some (.lst ys)/\Sts H' (ds.take i) ys []) ⟨S3,h3,rfl,fun i o d e=>by simp at e⟩ (by rw [Bv,hs]; lia) ?_ ?_ ?_
  .intro i ys H' hi ⟨S',h',R'⟩
   rw [Bv] at hi
   exact⟨h',SqL.of (S' _ _ j8w),by rw [R'.1,D9]; lia⟩
  .intro i x ys H' hx ⟨S',h',R'⟩
   rw [C9] at hx
   obtain⟨oi,hoi,rfl⟩:=C7.mp hx
   have hi:=(Bu.mp hoi).1
   have hd : ds[i]? = some (ds[i]'(by lia)) := By _
   have hp:=(R2.2 i _ _ hoi hd).same S'
   generalize ds[i]'(by lia) = d at hd hp
   try walk_at"rf"
   refine fr5 rfl hp fun st H5 S5 hst=>⟨S5 _ _ h',fun H6 B6 h6=>⟨(S'.trans S5).step n3 B6,h6,?_⟩⟩
   rw [Cu,hd]
   exact ((R'.same S5).snoc (by rw [g8y]; exact hst)).b5q (Lk.lst (S5 _ _ h')) B6
  .intro ys H4 ⟨S4,h4,R4⟩
   rw [Bv,ol,Dg] at R4
   have ho4:=S4 _ _ h2
   have j8x:=S4 _ _ j8w
   have L4:Lk H4 o:=Lk.ins ho4 (.inr (.inl ⟨_,rfl⟩))
   have nd:o≠D:=fun e=>by rw [<- e,h2] at n3; cases n3
   clear h2 h3 j8w
   walk_at"rf*"
   intro H5 B5 h5
   have c5:ChS A H5 o ds []:=⟨dx,pl,D,os,ys,h5,B5 _ _ no.symm j8x,B5 _ _ nd.symm h4,(R2.same S4).b5q L4 B5,R4.b5q L4 B5⟩
   refine q H5 (fun z u hz e=>B5 _ _ hz (S4 _ _ (B2 _ _ hz (S1 _ _ e)))) c5 fun Z hZ nZ=>⟨dx,pl,D,os,ys,h5,B5 _ _ no.symm j8x,B5 _ _ nd.symm h4,(R2.same S4).b5q L4 B5,R4.b5q L4 B5,fun e=>hZ (by rw [<- e]; exact np),fun e=>?_,nZ.symm⟩
   cases u:H Z with
   | none=>exact hZ u
   | some v=>rw [e,B2 _ _ nZ (S1 _ _ u)] at n3; cases n3
theorem j0f(T:Tx K mg A):a1j P A.wd K mg base CX0 4 A.a7k A.a6i ["self","tops","bottom"] (j6m A):=by
 have f7n:a1j P A.wd K mg base CX0 2 _ _ _ _:=h9j T
 have f6i:a1j P A.wd K mg base CX0 2 _ _ _ _:=h3t T
 have f7o:a1j P A.wd K mg base CX0 2 _ _ _ _:=h9k T
 have f7p:a1j P A.wd K mg base CX0 2 _ _ _ _:=h9l T
 have f6j:a1j P A.wd K mg base CX0 3 _ _ _ _:=h3u T
 have c9i:a1j P A.wd K mg base CX0 1 _ _ _ _:=f9h T
 have d2p:a1j P A.wd K mg base CX0 1 _ _ _ _:=g5m T
 have d2q:a1j P A.wd K mg base CX0 1 _ _ _ _:=g5o T
 have d2r:a1j P A.wd K mg base CX0 1 _ _ _ _:=g5p T
 have d2s:a1j P A.wd K mg base CX0 1 _ _ _ _:=g5q T
 have a4u:=T.a4u
 have a2g:=T.a2g
 have a1r:=T.a1r
 have a4n:=T.a4n
 have a1w:=T.a1w
 have a3l:=T.a3l
 have a1v:=T.a1v
 have a3q:=T.a3q
 have a1o:=T.a1o
 have a1p:=T.a1p
 have a1l:=T.a1l
 have a0y:=T.a0y
 have a0q:=T.a0q
 have a4o:=T.a4o
 have a1y:=T.a1y
 have a1z:=T.a1z
 have a2n:=T.a2n
 have a0s:=T.a0s
 have a0u:=T.a0u
 have a0z:=T.a0z
 refine T.b6h.ok a4j (fun _ _ _ _ h=>h7n h) (fun cdv A' outer s H vs Q E hr h=>?_)
 .walk_at"h"
  obtain⟨o,l,b,zE,⟨ds,xs,ys,⟨dx,pl,sl,os,sts,ho,hpl,hsl,R,ST⟩,hl,l8,ok,lx,ly,bb,hb,q⟩⟩:=h7m h
  walk_at"g"
  have hu:=hr.units
  unfold chF at ho
  refine⟨_,(a0h (a1t 3 a4j.nd (a6z (a0g (a2o b1h (by rfl) T.d2k Ic (a0g (pvF 1) a0i)) (a0g (pvF 2) a0i))))
   (a0h (a1t 4 a4j.nd (a4q a0i))
   (a0h (a3s Ck rfl (f7z (by rfl) T.h3i (a0g (pfT K (pvF 0)) (a0g (pfT K (pvF 0)) a0i))) (d7h (n:=2) rfl (a8s (b2r 5 a4j.nd) (a8s (b2r 6 a4j.nd) d2z)))
   (a0h (a1t 7 a4j.nd (a2q (a4r (pvF 5) T.a4n T.c2v f7n hr.dn T.f7g .nil a3i (a0g (pvF 6) (a0g (a0v a2s (pvF 3) a0j) (a0g (a0v a2s (pvF 3) a0j) a0i)))) (a2q (a4r (pvF 5) T.a3l T.c0l f6i hr.dn T.f4q .nil a3i (a0g (pvF 6) (a0g (a0v a2s (pvF 3) a0j) (a0g (a0v a2s (pvF 3) a0j) a0i)))) (a2q (a4r (pvF 5) T.a3q T.c2w f7o hr.dn T.f7h .nil a3i (a0g (pvF 6) (a0g (a0v a2s (pvF 3) a0j) (a0g (a0v a2s (pvF 3) a0j) a0i)))) (a2q (a4r (pvF 5) T.a4o T.c2y f7p hr.dn T.f7i .nil a3i (a0g (pvF 6) (a0g (a0v a2s (pvF 3) a0j) (a0g (a0v a2s (pvF 3) a0j) a0i)))) (a4r (pvF 5) T.a2n T.c0o f6j hr.dn T.f4v .nil a3i (a0g (pvF 6) (a0g (a0v a2s (pvF 3) a0j) (a0g (a0v a2s (pvF 3) a0j) a0i)))))))))
   (a0h (a1t 3 a4j.nd (a6z (a0g (a0v a2s (pvF 7) a0j) (a0g (a0t a2l (a0v a2s (pvF 3) a0j) (a2q (a2k (pvF 5) T.a4n T.c0u d2q hr.dn T.f0l .nil a3i) (a2q (a2k (pvF 5) T.a3l T.b8z d2p hr.dn T.f0k .nil a3i) (a2q (a2k (pvF 5) T.a3q T.c0v d2r hr.dn T.f0m .nil a3i) (a2q (a2k (pvF 5) T.a4o T.c0w d2s hr.dn T.f0n .nil a3i) (a2k (pvF 5) T.a2n T.b9g c9i hr.dn T.d6s .nil a3i)))))) a0i))))
   (a0k (a4p (b5r b1j Da D3 Dd a5v (pvF 4) (a0g (a0v a2s (pvF 7) a0j) a0i)))))))
   (a0h (sfT K (pvF 0) (pvF 4))
   (a0k (a0w (pvF 3))))))),?_⟩
  clear hu
  walk_at"rs*"
  refine fun l1 H1 n1 S1 h1=>?_
  walk_at"rs"
  refine fun r2 H2 n2 S2 h2=>?_
  walk_at"rs"
  refine⟨by decide,fun D H3 n3 S3 h3=>?_⟩
  have S02:=S1.trans S2
  have S03:=S02.trans S3
  have ho3:=S03 _ _ ho
  have k5p:=S03 _ _ hpl
  have k5q:=S03 _ _ hsl
  walk_at"rs*"
  have ol:=R.1
  have sl':=ST.1
  have nl:l1≠D:=fun e=>by rw [<- e,S2 _ _ h1] at n3; cases n3
  have h13:=S3 _ _ (S2 _ _ h1)
  have h23:=S3 _ _ h2
  have bl:=d6v (ds:=ds) (xs:=xs++ys) (B:=90000) (by decide)
  obtain⟨Pv,pin,pout⟩:=b9o (fun i O H'=>∃ (rr lo:Addr) (sts':List V) (v5 v6 v7:Option V),O = [some (.ref o),some (.ref l),some (.int b),some (.ref rr),some (.ref D),v5,v6,v7]/\Same H2 H'/\H' rr=some (.tup [.ref lo,.int (a6o b (ds.take i))])/\H' lo=some (.lst ((blk (ds.take i) xs ys).map V.int))/\lo≠D/\H rr=none/\H lo=none/\H' D=some (.lst sts')/\Sts H' (ds.take i) sts' (xs++ys))
  refine d5q (xs:=os.map V.ref) (ys:=sts) Pv (pin _ _ _ ⟨_,_,[],_,_,_,rfl,S3,h23,h13,nl,S1.free n2,n1,h3,rfl,fun i o d e=>by simp at e⟩) ?_ ?_ ?_
  .intro i O H4 hp
   walk_at"@pout _ _ _ hp@err lo sts' v5 v6 v7@crfl S4 _"
   exact⟨SqL.of (S4 _ _ (S02 _ _ hpl)),SqL.of (S4 _ _ (S02 _ _ hsl))⟩
  .intro i x y O H4 p H5 hx hy hp np S5 h5
   walk_at"@pout _ _ _ hp@err lo sts' v5 v6 v7@crfl S4 hrr hlo nlo fr fl hD R4"
   rw [C9] at hx
   obtain⟨oi,hoi,rfl⟩:=C7.mp hx
   have hi:=(Bu.mp hoi).1
   have hd : ds[i]? = some (ds[i]'(by lia)) := By _
   have hp:=R.2 i _ _ hoi hd
   have hst:=ST.2 i _ _ hy hd
   have okd:=ok _ (Ca hd)
   have et : ds.take (i + 1) = ds.take i ++ [ds[i]'(by lia)] := by rw [Cu, hd]; rfl
   generalize ds[i]'(by lia) = d at hd hp hst okd et
   have S05:=S02.trans (S4.trans S5)
   have k5r:=S5 _ _ hrr
   have hlo5:=S5 _ _ hlo
   have hp5:=hp.same S05
   have k5s:=hst.same S05
   clear hp hst hrr hlo h13 h23 h2 h1 ho3 k5p k5q
   walk_at"rs*"
   refine thr5 (by rfl) hp5 ?_
   walk_at"rs*"
   have bt:∀ z∈run (ds.take i) xs++blk (ds.take i) xs ys,intBits z<=100000:=by
    rw [<- g2c]
    intro z hz
    have h1:=d6v (ds:=ds.take i) (xs:=xs++ys) (B:=90000) (by decide) (fun d hd=>ok d (Eu hd)) hb z hz
    have h2:(ds.take i).length<=8:=by rw [D9]; lia
    lia
   refine⟨d,rfl,hp5,okd.1,_,k5s,_,rfl,by rw [h9q]; lia,by rw [g2b]; lia,bt,fun r ou st' H6 S6 nr no h6 ho6 hst6=>?_⟩
   have hrr6:=S6 _ _ k5r
   have hp6:=hp5.same S6
   have nou:ou≠D:=fun e=>by rw [e,S5 _ _ hD] at no; cases no
   clear k5r hlo5 hp5 k5s bt
   walk_at"rs*"
   refine gr5 (by rfl) hp6 ?_
   walk_at"rs*"
   have gb:=c9h (ds:=ds.take i) (b:=b) (B:=90000) (fun d hd=>ok d (Eu hd)) (Bz bb (by decide))
   have tl:(ds.take i).length<=8:=by rw [D9]; lia
   refine⟨Dr (Bz gb (by lia:_<=90000+161*8)) (d8t okd) (by decide),fun r7 H7 n7 S7 h7=>?_⟩
   have h67:=S7 _ _ h6
   have hD7:=S7 _ _ (S6 _ _ (S5 _ _ hD))
   have R7:=((R4.same S5).same S6).same S7
   clear h6 hrr6 hp6
   have sl7:=R7.1
   walk_at"rs*"
   refine⟨by rw [Dm]; lia,?_⟩
   rintro _ H8 ⟨rfl,B8,h8⟩
   have nr7:r7≠D:=fun e=>by rw [e,S6 _ _ (S5 _ _ hD)] at n7; cases n7
   refine pin _ _ _ ⟨r7,ou,sts'++[st'],_,_,_,rfl,(S4.trans (S5.trans (S6.trans S7))).step n3 B8,?_,?_,nou,(S05.trans S6).free n7,S05.free no,h8,?_⟩
   .rw [et,f6h]
    exact B8 _ _ nr7 h7
   .rw [et,h0v]
    exact B8 _ _ nou (S7 _ _ ho6)
   .rw [et]
    refine (R7.snoc ?_).b5q (Lk.lst hD7) B8
    rw [g2c]
    exact hst6.same S7
  .intro O H4 hp
   walk_at"@pout _ _ _ hp@err lo sts' v5 v6 v7@crfl S4 hrr hlo nlo fr fl hD R4"
   rw [Bv,ol,sl',Io,Dg] at R4 hrr hlo
   have S04:=S02.trans S4
   have ho4:=S04 _ _ ho
   have j8x:=S04 _ _ hpl
   have L4:Lk H4 o:=Lk.ins ho4 (.inr (.inr ⟨_,_,rfl⟩))
   have nD:D≠o:=fun e=>by rw [e,S02 _ _ ho] at n3; cases n3
   have npl:pl≠o:=fun e=>by rw [e,ho] at hpl; cases hpl
   have nrr:rr≠o:=fun e=>by rw [e,ho] at fr; cases fr
   have nlo2:lo≠o:=fun e=>by rw [e,ho] at fl; cases fl
   clear ho3 k5p k5q h13 h23 h1 h2 h3
   walk_at"rs*"
   intro H5 B5 h5
   try walk_at"rs*"
   exact q rr lo H5 (fun z u hz e=>B5 _ _ hz (S04 _ _ e)) fr fl (B5 _ _ nrr hrr) (B5 _ _ nlo2 hlo) ⟨dx,pl,D,os,sts',h5,B5 _ _ npl j8x,B5 _ _ nD hD,(R.same S04).b5q L4 B5,R4.b5q L4 B5⟩
theorem j7m(T:Tx K mg A):a1j P A.wd K mg base CX0 2 A.b1v A.a9k ["self"] (k2a A):=by
 have d2p:a1j P A.wd K mg base CX0 1 _ _ _ _:=g5m T
 have d2q:a1j P A.wd K mg base CX0 1 _ _ _ _:=g5o T
 have d2r:a1j P A.wd K mg base CX0 1 _ _ _ _:=g5p T
 have d2s:a1j P A.wd K mg base CX0 1 _ _ _ _:=g5q T
 have c9i:a1j P A.wd K mg base CX0 1 _ _ _ _:=f9h T
 have a4u:=T.a4u
 have a2g:=T.a2g
 have a1r:=T.a1r
 have a4n:=T.a4n
 have a1w:=T.a1w
 have a3l:=T.a3l
 have a1v:=T.a1v
 have a3q:=T.a3q
 have a1o:=T.a1o
 have a1p:=T.a1p
 have a1l:=T.a1l
 have a0y:=T.a0y
 have a0q:=T.a0q
 have a4o:=T.a4o
 have a1y:=T.a1y
 have a1z:=T.a1z
 have a2n:=T.a2n
 have a0s:=T.a0s
 have a0u:=T.a0u
 have a0z:=T.a0z
 refine T.c1g.ok b8w (fun _ _ _ _ h=>d3p h) (fun cdv A' outer s H vs Q E hr h=>?_)
 .walk_at"h"
  obtain⟨o,zE,⟨ds,xs,⟨dx,pl,sl,os,sts,ho,hpl,hsl,R,ST⟩,l8,ok,q⟩⟩:=g7g h
  walk_at"g"
  have hu:=hr.units
  unfold chF at ho
  have ol:=R.1
  refine⟨_,(a0h (a1t 1 b8w.nd a0j)
   (a0h (a3s Ck rfl (piT K (pfT K (pvF 0))) (b2r 2 b8w.nd)
   (a0k (a1t 1 b8w.nd (a0t a2l (pvF 1) (a2q (a2k (pvF 2) T.a4n T.c0u d2q hr.dn T.f0l .nil a3i) (a2q (a2k (pvF 2) T.a3l T.b8z d2p hr.dn T.f0k .nil a3i) (a2q (a2k (pvF 2) T.a3q T.c0v d2r hr.dn T.f0m .nil a3i) (a2q (a2k (pvF 2) T.a4o T.c0w d2s hr.dn T.f0n .nil a3i) (a2k (pvF 2) T.a2n T.b9g c9i hr.dn T.d6s .nil a3i)))))))))
   (a0k (a0w (pvF 1))))),?_⟩
  clear hu
  walk_at"rf*"
  refine⟨⟨_,SqL.of hpl⟩,?_⟩
  obtain⟨Pv,pin,pout⟩:=b9o (fun i O H'=>∃ v:Option V,O = [some (.ref o),some (.int (a6o 1 (ds.take i))),v]/\H'=H)
  refine a5k (xs:=os.map V.ref) Pv (pin _ _ _ ⟨_,rfl,rfl⟩) ?_ ?_ ?_
  .intro i O H2 hi hp
   obtain⟨v,rfl,rfl⟩:=pout _ _ _ hp
   exact SqL.of hpl
  .intro i v O H2 hv hp
   rw [C9] at hv
   obtain⟨oi,hoi,rfl⟩:=C7.mp hv
   obtain⟨v,rfl,rfl⟩:=pout _ _ _ hp
   have hi:=(Bu.mp hoi).1
   have hd : ds[i]? = some (ds[i]'(by lia)) := By _
   have hp:=R.2 i _ _ hoi hd
   have okd:=ok _ (Ca hd)
   have et : ds.take (i + 1) = ds.take i ++ [ds[i]'(by lia)] := by rw [Cu, hd]; rfl
   generalize ds[i]'(by lia) = d at hd hp okd et
   walk_at"rf"
   refine gr5 (by rfl) hp ?_
   walk_at"rf"
   have gb:=c9h (ds:=ds.take i) (b:=1) (B:=64) (fun d hd=>ok d (Eu hd)) (by decide)
   have tl:(ds.take i).length<=8:=by rw [D9]; lia
   refine⟨Dr (Bz gb (by lia:_<=64+161*8)) (d8t okd) (by decide),pin _ _ _ ⟨some (.ref oi),by rw [et,f6h],rfl⟩⟩
  .intro O H2 hp
   obtain⟨v,rfl,rfl⟩:=pout _ _ _ hp
   rw [Bv,ol,Dg]
   walk_at"rf"
   exact q
theorem i3y(T:Tx K mg A):a1j P A.wd K mg base CX0 1 A.a3y A.a4k ["one"] spFW:=by
 refine T.a2u.ok a5w (fun _ _ _ _ h=>d3p h) (fun cdv A' outer s H vs Q E hr h=>?_)
 .walk_at"h"
  walk_at"@g7g h@ep@czE@ex@chp l1 l2 q"
  walk_at"g"
  have hu:=hr.units
  unfold d5l at hp
  have fl:=d5s l1 l2
  have g1:=c6g (D8.mp l1) (by decide)
  have g2:=c6g (D8.mp l2) (by decide)
  have a:=c7g (D8.mp l1) (by decide)
  have b:=c7g (D8.mp l2) (by decide)
  have e0:Str.empty.length=0:=rfl
  have e1:(B0 "/").length=1:=by decide +kernel
  have hs:=szl
  unfold fW at q
  refine⟨_,(a0h (a1t 1 a5w.nd (a0v a2s (pvF 0) a0j))
   (a0h (a1t 2 a5w.nd (a0v a2s (pvF 0) a0j))
   (a0k (a0w (b9q (a4i (c3w (pvF 1)) (a4i a2p (a4i (c3w (pvF 2)) d9h)))))))),?_⟩
  clear hu
  walk_at"rs*"
  simp only [E6,e0,e1]
  refine⟨by lia,by lia,by lia,by lia,by lia,by lia⟩
theorem k2p(T:Tx K mg A):a1j P A.wd K mg base CX0 2 A.a7z A.a8z ["corner"] spCW:=by
 have a3m:a1j P A.wd K mg base CX0 1 _ _ _ _:=i3y T
 refine T.b5v.ok c5i (fun _ _ _ _ h=>d3p h) (fun cdv A' outer s H vs Q E hr h=>?_)
 .walk_at"h"
  walk_at"@g7g h@ep@czE@ec g@chp hg l0 l1 l2 q"
  walk_at"g"
  have hu:=hr.units
  have g0:=c6g l0 (by decide)
  have a:=c7g l0 (by decide)
  have b:=d5s l1 l2
  have e0:Str.empty.length=0:=rfl
  have e1:(B0 "=").length=1:=by decide +kernel
  have hs:=szl
  unfold cW at q
  refine⟨_,(a0h (a1t 1 c5i.nd (a0v a2s (pvF 0) a0j))
   (a0h (a1t 2 c5i.nd (a2m a3m hr.dn T.b0v T.a2u.kp T.b0u (a0g (a0v a2s (pvF 0) a0j) a0i)))
   (a0k (a0w (b9q (a4i (c3w (pvF 1)) (a4i a2p (a4i (c3w (pvF 2)) d9h)))))))),?_⟩
  clear hu
  walk_at"rd*"
  refine⟨c.2,rfl,l1,l2,?_⟩
  simp only [E6,e0,e1]
  exact⟨by lia,by lia,by lia,by lia,by lia,by lia,q⟩
theorem h9s{a:Addr}{xs:List V}{te:TE}{H0 H:Hp}(zs:List V)(hz:zs.length=xs.length)(n0:H0 D=none)(S:Same H0 H)(hD:H D=some (.lst []))(hS:H0 a=some (.tup xs))(hsz:xs.length<=Cb)
  (hs:∀ (i:Nat) x z H' (Q':VK),xs[i]? = some x->zs[i]? = some z->Same H0 H'->Q' z H'->te (some x :: O) H' Q') (q:∀ H',Same H0 H'->H' D=some (.lst zs)->Q (.ref D) H'):f0z (Itt K a) te D O H Q ⟨⟩:=by
 refine h6o (fun i ys H'=>Same H0 H'/\H' D=some (.lst ys)/\ys=zs.take i) ⟨S,hD,by simp⟩ hsz (fun i ys H' hi p=>?_) (fun i x ys H' hx p=>?_) (fun ys H' p=>?_)
 .refine⟨p.2.1,SqT.of (p.1 _ _ hS),?_⟩
  rw [p.2.2,D9]
  lia
 .have hi:i < zs.length:=by rw [hz]; exact (Bu.mp hx).1
  have hzi:zs[i]? = some zs[i]:=By hi
  refine hs i x _ H' _ hx hzi p.1 ⟨p.2.1,fun H3 s3 h3=>⟨p.1.step n0 s3,h3,?_⟩⟩
  rw [p.2.2,Cu,hzi]
  rfl
 .refine q H' p.1 ?_
  rw [p.2.1,p.2.2,<- hz,Dg]
theorem k2q(T:Tx K mg A):a1j P A.wd K mg base CX0 2 A.b7m A.b4h ["self"] (i0q A 0):=by
 have a3m:a1j P A.wd K mg base CX0 1 _ _ _ _:=i3y T
 have a4n:=T.a4n
 have a1w:=T.a1w
 refine T.c8l.ok d9y (fun _ _ _ _ h=>d3p h) (fun cdv A' outer s H vs Q E hr h=>?_)
 .walk_at"h"
  walk_at"@g7g h@eo@czE@ed@chk hd ok q"
  walk_at"g"
  cases d with
  | gain y =>
   walk_at"@hd@edx _@cho@eg@crfl hg"; clear hd
   have ok:YOk y:=ok
   replace ho:H o=some (.ins A.a8u dx [("gain",.ref g)]):=ho
   have hu:=hr.units
   have a8v:b2u 1 _:=hr.dn
   have a:=d5s ok.b.1 ok.b.2
   have e0:Str.empty.length=0:=rfl
   have e1:(B0 "gain:").length=5:=by decide +kernel
   have hs:=szl
   refine⟨_,(a0h (a1t 1 d9y.nd (a2m a3m a8v T.b0v T.a2u.kp T.b0u (a0g (pfT K (pvF 0)) a0i)))
   (a0k (a0w (b9q (a4i a2p (a4i (c3w (pvF 1)) d9h)))))),?_⟩
   clear hu
   walk_at"rd*"
   refine⟨y,rfl,ok.b.1,ok.b.2,?_⟩
   simp only [E6,e0,e1]
   exact⟨by lia,by lia,by lia,by rw [i5f]; exact q _ (Same.refl _)⟩
  | _=>simp [Dt.kd] at hk
theorem k2r(T:Tx K mg A):a1j P A.wd K mg base CX0 1 A.b4j A.b1p ["self"] (i0q A 1):=by
 have a3l:=T.a3l
 have a1v:=T.a1v
 refine T.c4l.ok d6m (fun _ _ _ _ h=>d3p h) (fun cdv A' outer s H vs Q E hr h=>?_)
 .walk_at"h"
  walk_at"@g7g h@eo@czE@ed@chk hd ok q"
  walk_at"g"
  cases d with
  | delay n =>
   walk_at"@hd@edx _@cho rfl"; clear hd
   have ok:n<=1000:=ok
   replace ho:H o=some (.ins A.a4s dx [("many",.int n)]):=ho
   have hu:=hr.units
   have a:=d9j (n:=n) (E3 ok (by decide))
   have e0:Str.empty.length=0:=rfl
   have e1:(B0 "delay:").length=6:=by decide +kernel
   have hs:=szl
   have g0:=c6g (t:=(n:Int)) (n:=20) (by lia) (by decide)
   unfold nW at a
   refine⟨_,(a0h (a1t 1 d6m.nd (pfT K (pvF 0)))
   (a0k (a0w (b9q (a4i a2p (a4i (c3w (pvF 1)) d9h)))))),?_⟩
   clear hu
   walk_at"rf*"
   have w:=h7a n
   unfold nW at w
   simp only [E6,e0,e1]
   refine⟨by lia,by lia,by lia,?_⟩
   rw [w]
   exact q _ (Same.refl _)
  | _=>simp [Dt.kd] at hk
theorem k2s(T:Tx K mg A):a1j P A.wd K mg base CX0 2 A.b7o A.b4n ["self"] (i0q A 2):=by
 have a3m:a1j P A.wd K mg base CX0 1 _ _ _ _:=i3y T
 have a3q:=T.a3q
 have a1o:=T.a1o
 have a1p:=T.a1p
 have a1l:=T.a1l
 have a0y:=T.a0y
 have a0q:=T.a0q
 refine T.c8n.ok c4g (fun _ _ _ _ h=>d3p h) (fun cdv A' outer s H vs Q E hr h=>?_)
 .walk_at"h"
  walk_at"@g7g h@eo@czE@ed@chk hd ok q"
  walk_at"g"
  cases d with
  | echo y n t =>
   walk_at"@hd@edx _@cho@eg fa@crfl hg hf"; clear hd
   walk_at"@ok@coy n1 n2 t2"; clear ok
   replace ho:H o=some (.ins A.a5s dx (ecF g fa n t (y.den:Int))):=ho
   unfold ecF at ho
   have hu:=hr.units
   have a8v:b2u 1 _:=hr.dn
   have a:=d5s oy.b.1 oy.b.2
   have b:=d9j (n:=n) (E3 n2 (by decide))
   have c:=d9j (n:=t) (E3 t2 (by decide))
   have e0:Str.empty.length=0:=rfl
   have e1:(B0 "echo:").length=5:=by decide +kernel
   have e2:(B0 ":").length=1:=by decide +kernel
   have hs:=szl
   have g0:=c6g (t:=(n:Int)) (n:=20) (by lia) (by decide)
   have g1:=c6g (t:=(t:Int)) (n:=20) (by lia) (by decide)
   have w:=i5g y n t
   unfold nW at b c w
   refine⟨_,(a0h (a1t 1 c4g.nd (a2m a3m a8v T.b0v T.a2u.kp T.b0u (a0g (pfT K (pvF 0)) a0i)))
   (a0h (a1t 2 c4g.nd (pfT K (pvF 0)))
   (a0h (a1t 3 c4g.nd (pfT K (pvF 0)))
   (a0k (a0w (b9q (a4i a2p (a4i (c3w (pvF 1)) (a4i a2p (a4i (c3w (pvF 2)) (a4i a2p (a4i (c3w (pvF 3)) d9h)))))))))))),?_⟩
   clear hu
   walk_at"rd*"
   refine⟨y,rfl,oy.b.1,oy.b.2,?_⟩
   simp only [E6,e0,e1,e2]
   refine⟨by lia,by lia,by lia,by lia,by lia,by lia,by lia,by lia,by lia,?_⟩
   rw [w]
   exact q _ (Same.refl _)
  | _=>simp [Dt.kd] at hk
theorem k2t(T:Tx K mg A):a1j P A.wd K mg base CX0 2 A.b7q A.b4p ["self"] (i0q A 3):=by
 have a3m:a1j P A.wd K mg base CX0 1 _ _ _ _:=i3y T
 have a4o:=T.a4o
 have a1y:=T.a1y
 have a1z:=T.a1z
 refine T.c8p.ok d0z (fun _ _ _ _ h=>d3p h) (fun cdv A' outer s H vs Q E hr h=>?_)
 .walk_at"h"
  walk_at"@g7g h@eo@czE@ed@chk hd ok q"
  walk_at"g"
  cases d with
  | back y n =>
   walk_at"@hd@edx _@cho@eg@crfl hg"; clear hd
   obtain⟨oy,n1,n2⟩:=ok
   replace ho:H o=some (.ins A.a7q dx [("gain",.ref g),("many",.int n)]):=ho
   have hu:=hr.units
   have a8v:b2u 1 _:=hr.dn
   have a:=d5s oy.b.1 oy.b.2
   have b:=d9j (n:=n) (E3 n2 (by decide))
   have e0:Str.empty.length=0:=rfl
   have e1:(B0 "back:").length=5:=by decide +kernel
   have e2:(B0 ":").length=1:=by decide +kernel
   have hs:=szl
   have g0:=c6g (t:=(n:Int)) (n:=20) (by lia) (by decide)
   have w:=i5h y n
   unfold nW at b w
   refine⟨_,(a0h (a1t 1 d0z.nd (a2m a3m a8v T.b0v T.a2u.kp T.b0u (a0g (pfT K (pvF 0)) a0i)))
   (a0h (a1t 2 d0z.nd (pfT K (pvF 0)))
   (a0k (a0w (b9q (a4i a2p (a4i (c3w (pvF 1)) (a4i a2p (a4i (c3w (pvF 2)) d9h))))))))),?_⟩
   clear hu
   walk_at"rd*"
   refine⟨y,rfl,oy.b.1,oy.b.2,?_⟩
   simp only [E6,e0,e1,e2]
   refine⟨by lia,by lia,by lia,by lia,by lia,by lia,?_⟩
   rw [w]
   exact q _ (Same.refl _)
  | _=>simp [Dt.kd] at hk
theorem k2u(T:Tx K mg A):a1j P A.wd K mg base CX0 3 A.b4t A.b1t ["self"] (i0q A 5):=by
 have g2f:a1j P A.wd K mg base CX0 2 _ _ _ _:=k2p T
 have a2n:=T.a2n
 have a0s:=T.a0s
 have a0u:=T.a0u
 have a0z:=T.a0z
 refine T.c4q.ok d6o (fun _ _ _ _ h=>d3p h) (fun cdv A' outer s H vs Q E hr h=>?_)
 .walk_at"h"
  walk_at"@g7g h@eo@czE@ed@chk hd ok q"
  walk_at"g"
  cases d with
  | swell cs =>
   walk_at"@hd@edx _@cho@ect ln us ps@crfl hct hln TP sok R"; clear hd
   have ok:g7d cs:=ok
   replace ho:H o=some (.ins A.a2w dx [("corners",.ref ct),("shared",.int (swX cs).2),("lines",.ref ln)]):=ho
   generalize (swX cs).2=S at ho TP sok
   have hu:=hr.units
   have f7q:b2u 2 _:=hr.dn
   have pl:=R.1
   have hs:=szl
   have cl:=ok.len
   have L12:=ok.2.2.2
   have e2:(B0 ",").length=1:=by decide +kernel
   have jo:Rc (B0 ",") (cs.map cW)=true:=joinOk_of (n:=45) (fun y hy=>by obtain⟨c,hc,rfl⟩:=E4.mp hy; exact cl c hc) (by rw [Bv,e2,hs]; lia)
   have jl:(Kv (B0 ",") (cs.map cW)).length<=600:=by
    rw [i8e,i2e]
    exact ok.k0p
   have e0:Str.empty.length=0:=rfl
   have e1:(B0 "swell:").length=6:=by decide +kernel
   refine⟨_,(a0h (a1t 1 d6o.nd (b5r c2l Em PySem.F.slot_str_join PySem.F.type_str_join i2a a2p (a0g (b6t (ptT K (pfT K (pvF 0))) (fun _ _ _ _ _=>by exact (a2m g2f f7q T.g1b T.b5v.kp T.g1a (a0g (pvF 0) a0i))) (c5w (sc:=a0l d0s) (N:=["self","corners"]) rfl rfl (by decide +kernel)) rfl) a0i)))
   (a0k (a0w (b9q (a4i a2p (a4i (c3w (pvF 1)) d9h)))))),?_⟩
   clear hu
   walk_at"rd*"
   intro D H2 n2 S2 h2
   refine h9s (cs.map fun c=>V.str (cW c)) (by rw [Bv,Bv,pl]) n2 S2 h2 hct (by rw [Bv,pl,hs]; lia) ?_ ?_
   .intro i x z H' Q' hx hz S' q'
    walk_at"@R.get hx@ep c g@crfl hc hp hg"
    rw [C9,hc] at hz
    cases hz
    have hp':=S' _ _ hp
    have hg':=S' _ _ hg
    obtain⟨o1,o2,oy⟩:=ok.1 c (Ca hc)
    clear ho hct hln h2 hp hg
    walk_at"rd*"
    exact⟨c,g,⟨rfl,rfl⟩,hg',by lia,oy.b.1,oy.b.2,q'⟩
   intro H3 S3 h3
   clear h2
   walk_at"rd*"
   refine⟨cs.map cW,by rw [Hv]; rfl,jo,by lia,?_,?_,?_⟩
   .rw [E6,e0,e1]
    lia
   .rw [E6,E6,e0,e1]
    lia
   .rw [h7b]
    exact q H3 S3
  | _=>simp [Dt.kd] at hk
theorem wd5(Ah:O[i]? = some (some (.ref o)))(hd:IsP A H o d)(ok:d.ok)(q:∀ H1,Same H H1->Q (.str d.word) H1) :
  b0k (a8r A.a8u "word" (i0q A 0) [] E (b9n i) f7v) (b0k (a8r A.a4s "word" (i0q A 1) [] E (b9n i) f7v) (b0k (a8r A.a5s "word" (i0q A 2) [] E (b9n i) f7v) (b0k (a8r A.a7q "word" (i0q A 3) [] E (b9n i) f7v) (a8r A.a2w "word" (i0q A 5) [] E (b9n i) f7v)))) O H Q:=by
 have z:=hd
 cases d with
 | gain y =>
  obtain⟨dx,_,ho,g,rfl,hg⟩:=hd
  refine .inl ?_
  replace ho:H o=some (.ins A.a8u dx [("gain",.ref g)]):=ho
  exact b6q Ah ho (by walk_at"rd") ⟨_,rfl,z,ok,q⟩
 | delay n =>
  obtain⟨dx,_,ho,rfl⟩:=hd
  refine .inr (.inl ?_)
  replace ho:H o=some (.ins A.a4s dx [("many",.int n)]):=ho
  exact b6q Ah ho (by walk_at"rd") ⟨_,rfl,z,ok,q⟩
 | echo y n t' =>
  obtain⟨dx,_,ho,g,fa,rfl,hg,hf⟩:=hd
  refine .inr (.inr (.inl ?_))
  replace ho:H o=some (.ins A.a5s dx (ecF g fa n t' (y.den:Int))):=ho
  unfold ecF at ho
  exact b6q Ah ho (by walk_at"rd") ⟨_,rfl,z,ok,q⟩
 | back y n =>
  obtain⟨dx,_,ho,g,rfl,hg⟩:=hd
  refine .inr (.inr (.inr (.inl ?_)))
  replace ho:H o=some (.ins A.a7q dx [("gain",.ref g),("many",.int n)]):=ho
  exact b6q Ah ho (by walk_at"rd") ⟨_,rfl,z,ok,q⟩
 | swell cs =>
  obtain⟨dx,_,ho,ct,ln,us,ps,rfl,hz⟩:=hd
  refine .inr (.inr (.inr (.inr ?_)))
  replace ho:H o=some (.ins A.a2w dx (swF ct ln (swX cs).2)):=ho
  unfold swF at ho
  exact b6q Ah ho (by walk_at"rd") ⟨_,rfl,z,ok,q⟩
 | hall y n=>obtain⟨_,_,_,z⟩:=hd; exact z.elim
theorem h9t{a:Addr}{xs:List V}{te:TE}{H0 H:Hp}(zs:List V)(hz:zs.length=xs.length)(n0:H0 D=none)(S:Same H0 H)(hD:H D=some (.lst []))(hS:SqL K H0 a xs)(hsz:xs.length<=Cb)
  (hs:∀ (i:Nat) x z H' (Q':VK),xs[i]? = some x->zs[i]? = some z->Same H0 H'->(∀ H2,Same H' H2->Q' z H2)->te (some x :: O) H' Q') (q:∀ H',Same H0 H'->H' D=some (.lst zs)->Q (.ref D) H'):f0z (Itl K a) te D O H Q ⟨⟩:=by
 refine b1i (fun i ys H'=>Same H0 H'/\H' D=some (.lst ys)/\ys=zs.take i) ⟨S,hD,by simp⟩ hsz (fun i ys H' hi p=>?_) (fun i x ys H' hx p=>?_) (fun ys H' p=>?_)
 .refine⟨p.2.1,p.1.seq hS,?_⟩
  rw [p.2.2,D9]
  lia
 .have hi:i < zs.length:=by rw [hz]; exact (Bu.mp hx).1
  have hzi:zs[i]? = some zs[i]:=By hi
  refine hs i x _ H' _ hx hzi p.1 fun H2 S2=>⟨S2 _ _ p.2.1,fun H3 s3 h3=>⟨(p.1.trans S2).step n0 s3,h3,?_⟩⟩
  rw [p.2.2,Cu,hzi]
  rfl
 .refine q H' p.1 ?_
  rw [p.2.1,p.2.2,<- hz,Dg]
theorem j7n(T:Tx K mg A):a1j P A.wd K mg base CX0 4 A.b1w A.a9l ["self"] (k2b A):=by
 have g8z:a1j P A.wd K mg base CX0 2 _ _ _ _:=k2q T
 have g5w:a1j P A.wd K mg base CX0 1 _ _ _ _:=k2r T
 have g9a:a1j P A.wd K mg base CX0 2 _ _ _ _:=k2s T
 have g9b:a1j P A.wd K mg base CX0 2 _ _ _ _:=k2t T
 have g5x:a1j P A.wd K mg base CX0 3 _ _ _ _:=k2u T
 have a4u:=T.a4u
 have a2g:=T.a2g
 have a1r:=T.a1r
 have a4n:=T.a4n
 have a1w:=T.a1w
 have a3l:=T.a3l
 have a1v:=T.a1v
 have a3q:=T.a3q
 have a1o:=T.a1o
 have a1p:=T.a1p
 have a1l:=T.a1l
 have a0y:=T.a0y
 have a0q:=T.a0q
 have a4o:=T.a4o
 have a1y:=T.a1y
 have a1z:=T.a1z
 have a2n:=T.a2n
 have a0s:=T.a0s
 have a0u:=T.a0u
 have a0z:=T.a0z
 refine T.c1h.ok f6v (fun _ _ _ _ h=>d3p h) (fun cdv A' outer s H vs Q E hr h=>?_)
 .walk_at"h"
  obtain⟨o,zE,⟨ds,⟨dx,pl,sl,os,sts,ho,hpl,hsl,R,_⟩,l8,ok,q⟩⟩:=g7g h
  walk_at"g"
  have hu:=hr.units
  have hs:=szl
  have ol:=R.1
  unfold chF at ho
  refine⟨_,(a0k (a0w (b6t (piT K (pfT K (pvF 0))) (fun _ _ _ _ _=>(a2q (a2k (pvF 0) T.a4n T.d1j g8z hr.dn T.g7z .nil a3i) (a2q (a2k (pvF 0) T.a3l T.c7w g5w hr.dn T.g4w .nil a3i) (a2q (a2k (pvF 0) T.a3q T.d1k g9a hr.dn T.g8b .nil a3i) (a2q (a2k (pvF 0) T.a4o T.d1l g9b hr.dn T.g8d .nil a3i) (a2k (pvF 0) T.a2n T.c8h g5x hr.dn T.g4z .nil a3i)))))) (c5w (sc:=a0l c7i) (N:=["self"]) rfl rfl (by decide +kernel)) rfl))),?_⟩
  clear hu
  walk_at"rd*"
  refine⟨⟨_,SqL.of hpl⟩,fun D H2 n2 S2 h2=>?_⟩
  refine h9t (ds.map fun d=>V.str d.word) (by rw [Bv,Bv,ol]) n2 S2 h2 (SqL.of hpl) (by rw [Bv,hs]; lia) ?_ ?_
  .intro i x z H' Q' hx hz S' q'
   rw [C9] at hx hz
   obtain⟨oi,hoi,rfl⟩:=C7.mp hx
   obtain⟨d,hd,rfl⟩:=C7.mp hz
   have hp:=(R.2 i _ _ hoi hd).same S'
   have okd:=ok d (Ca hd)
   try walk_at"rd"
   exact wd5 (by rfl) hp okd fun H1 S1=>q' H1 S1
  .intro H3 S3 h3
   exact q _ _ ⟨D,rfl,n2,S3,h3⟩
theorem f1r(c:(Int->Int)×Nat)(L:List ((Int->Int)×Nat))(X:Int->Int)(i:Int):tap (c :: L) X i=c.1 i*X (i - (c.2:Int))+tap L X i:=by
 unfold tap
 rw [Es,Ri]
theorem h9u{i:Int}(h:i < 0):d3h xs i=0:=if_pos h
theorem i3z{i:Int}(h:∀ j,j<=i->X j=0):tap L X i=0:=by
 induction L with
 | nil=>rfl
 | cons c L ih=>rw [f1r,ih,h _ (by lia),Int.mul_zero]; rfl
theorem g2g(d:Dt)(xs:List Int){i:Int}(hi:i < (xs.length:Int)):d3h (outs d [] xs) i=tap (j8t d) (d3h xs) i:=by
 rcases (by lia:i < 0\/0<=i) with h | h
 .rw [h9u h,i3z fun j hj=>h9u (by lia)]
 .obtain⟨k,rfl⟩:∃ k:Nat,i=k:=⟨i.toNat,by lia⟩
  rw [d3h,if_neg (by lia),Dy,c5g (by lia),Ex,Jb,Nat.zero_add]
theorem j0g{c:Nat}(h1:97<=c)(h2:c<=122):i7f "abcdefghijklmnopqrstuvwxyz" ⟨#[c]⟩=true:=by
 unfold i7f
 rw [Ny]
 have e:(B0 "abcdefghijklmnopqrstuvwxyz").cps.toList=List.range' 97 26:=by decide +kernel
 rw [e,decide_eq_true_eq]
 exact List.mem_range'_1.mpr ⟨h1,by lia⟩
theorem h9v{x:Str}{te:TE}{H0 H:Hp}(f:Nat->V)(n0:H0 D=none)(S:Same H0 H)(hD:H D=some (.lst []))(hsz:x.cps.size<=Cb)
  (hs:∀ (i:Nat) c H' (Q':VK),x.cps[i]? = some c->Same H0 H'->Q' (f c) H'->te (some (.str ⟨#[c]⟩) :: O) H' Q') (q:∀ H',Same H0 H'->H' D=some (.lst (x.cps.toList.map f))->Q (.ref D) H'):f0z (Its x) te D O H Q ⟨⟩:=by
 refine⟨x.cps.size,fun i ys H'=>Same H0 H'/\H' D=some (.lst ys)/\ys=(x.cps.toList.take i).map f,⟨S,hD,by simp⟩,fun i ys H' hi w=>?_⟩
 obtain⟨S',h',e⟩:=w
 refine⟨h',?_⟩
 by_cases hlt:i < x.cps.size
 .refine .inr ⟨hlt,hlt,by rw [e,Bv,D9]; lia,fun v H2 y=>?_⟩
  walk_at"@y@ce2@ec@chc ev"; clear y
  subst e2 ev
  refine hs i c _ _ hc S' ⟨h',fun H3 s3 h3=>⟨S'.step n0 s3,h3,?_⟩⟩
  have hc':x.cps.toList[i]? = some c:=by rw [G5]; exact hc
  rw [Cu,hc',Co,e]
  rfl
 .have e3:i=x.cps.size:=by lia
  subst e3
  refine .inl ⟨rfl,q H' S' ?_⟩
  rw [h',e,Ef (by rw [Fq]; exact C0 _)]
theorem h9w(T:Tx K mg A):a1j P A.wd K mg base CX0 1 A.c2r A.c2h ["value"] i3d:=by
 refine T.d1s.ok h2v (fun _ _ _ _ h=>i5m h) (fun cdv A' outer s H vs Q E hr h=>?_)
 .walk_at"h"
  obtain⟨x,zE,⟨⟨l8,ne,ab⟩,q⟩⟩:=j8r h
  walk_at"g"
  have hu:=hr.units
  have hs:=szl
  have nl:¬ (8:Int) < (x.length:Int):=by lia
  have ne':(x=B0 "")=False:=eq_false ne
  have xl:x.length<=16777216:=by lia
  refine⟨_,(a0h (a5j (pw_or (c9k (b3l (a3p (c3v .str) T.a7r Fp (a0g (pvF 0) (a0g (c9w (v:=.ty "str") (u:=.type "str") (by rfl) T.f5h rfl rfl) a0i))))) (pw_or (a3n (oeT K hu) (pvF 0) a2p) (pw_or1 (a3n f9v (a3p a1q T.b0w Dq (a0g (pvF 0) a0i)) (a6y (v:=.int 8) (by rfl) T.f5j T.c3o))))).pt
   (a0k (a0w f0v))
   a1u)
   (a0k (a0w (a3p (g4d rfl) T.j5t boot_all (a0g (b6t (i4w (pvF 0)) (fun _ _ _ _ _=>(g6o g3u (pvF 0) (a6y (v:=.str "abcdefghijklmnopqrstuvwxyz") (by rfl) T.h3l T.d8l) (by rfl))) (c5w (sc:=a0l f3l) (N:=["value"]) rfl rfl (by decide +kernel)) rfl) a0i))))),?_⟩
  clear hu
  walk_at"rs*"
  refine fun D H2 n2 S2 h2=>?_
  refine h9v (fun _=>V.bl true) n2 S2 h2 (show x.length<=Cb by lia) ?_ ?_
  .intro i c H' Q' hc SS q'
   have hm:=ab c (by rw [Nt]; exact Array.mem_of_getElem? hc)
   have hh:=j0g hm.1 hm.2
   walk_at"rs*"
  .intro H3 S3 h3
   walk_at"rs*"
   refine⟨x.cps.toList.map fun _=>true,by rw [Hv]; rfl,?_⟩
   rw [show (x.cps.toList.map fun _=>true).all id=true by simp]
   exact q H3 S3
variable {es:List (Str×Str)}
theorem Eds.same{H H':Hp}(h:Eds H ps es)(S:Same H H'):Eds H' ps es:=⟨h.1,fun i p e h1 h2=>(h.2 i p e h1 h2).elim fun lw z=>⟨lw,S _ _ z⟩⟩
theorem i5s.same{H H':Hp}{o t b sd:Addr}{ts bs:List Str}(h:i5s A H o t b sd ts bs es)(S:Same H H'):i5s A H' o t b sd ts bs es:=by
 walk_at"@h@edx ou ps@ch1 h2 h3 h4 h5 h6"; clear h
 exact⟨dx,ou,ps,S _ _ h1,S _ _ h2,S _ _ h3,S _ _ h4,h5.same S,h6⟩
theorem c1r(x:Str):∀ ts:List Str,inV (.str x) (ts.map V.str)=decide (x∈ts)
 | []=>rfl
 | t :: ts=>by
  have ih:=c1r x ts
  unfold inV at ih ⊢
  rw [Es,M6,ih]
  by_cases h:t=x
  .subst h
   simp [eqV]
  .have:eqV (.str t) (.str x)=false:=by simp [eqV,h]
   rw [this]
   simp
   exact fun e=>absurd e.symm h
theorem c6z(ts:List Str):(ts.map V.str).all c0s=true:=by
 rw [Fv]
 intro v hv
 obtain⟨n,_,rfl⟩:=E4.mp hv
 rfl
theorem i5y(T:Tx K mg A):a1j P A.wd K mg base CX0 2 A.a5i A.a4g ["self","name"] (k2c A):=by
 have h9x:a1j P A.wd K mg base CX0 1 _ _ _ _:=h9w T
 have a1s:=T.a1s
 have a0m:=T.a0m
 have a0o:=T.a0o
 have a0n:=T.a0n
 have a0p:=T.a0p
 refine T.b2n.ok d6p (fun _ _ _ _ h=>i8o h) (fun cdv A' outer s H vs Q E hr h=>?_)
 .walk_at"h"
  obtain⟨o,x,zE,⟨t,b,sd,ts,bs,es,⟨dx,ou,ps,ho,ht,hb,hsd,hE,d1,d2,d3⟩,nm,nt,nb,q⟩⟩:=j5j h
  walk_at"g"
  have hu:=hr.units
  unfold ptF at ho
  refine⟨_,(a0h (a5j (c9k (b3l (a2m h9x hr.dn T.h8i T.d1s.kp T.h8h (a0g (pvF 1) a0i))))
   (a0k a2r)
   a1u)
   (a0k (a5j (pw_or (a3n g3u (pvF 1) (pfT K (pvF 0))) (pw_or1 (a3n g3u (pvF 1) (pfT K (pvF 0))))).pt
   (a0k a2r)
   a1u))),?_⟩
  clear hu
  walk_at"rf"
  refine⟨nm,fun H1 S1=>?_⟩
  have ho1:=S1 _ _ ho
  have ht1:=S1 _ _ ht
  have hb1:=S1 _ _ hb
  have i1:inV (.str x) (ts.map V.str)=false:=by rw [c1r]; exact decide_eq_false nt
  have i2:inV (.str x) (bs.map V.str)=false:=by rw [c1r]; exact decide_eq_false nb
  have f1:=c6z ts
  have f2:=c6z bs
  clear ho ht hb
  walk_at"rf*"
  exact⟨rfl,rfl⟩
theorem i5z{H:Hp}{N:Addr->Prop}:∀ {es:List Sd} {us:List V},RpL H N us (es.map dSd)->∃ ps:List Addr,us=ps.map V.ref/\Eds H ps (prs es)
 | [],_,.nil=>⟨[],rfl,rfl,fun i p e h=>by simp at h⟩
 | e :: es,_,.cons h r=>by
  obtain⟨ps,rfl,hl,hE⟩:=i5z r
  obtain⟨p,vs,rfl,hp,r2⟩:=h.tuple
  obtain⟨x,y,z,rfl,h1,h2,h3⟩:=r2.three
  cases h1.strOf
  cases h2.strOf
  obtain⟨lw,ws,rfl,_⟩:=h3.list
  refine⟨p :: ps,rfl,by rw [Cq,hl]; rfl,fun i q f e1 e2=>?_⟩
  cases i with
  | zero=>cases e1; cases e2; exact⟨lw,hp⟩
  | succ i=>exact hE i q f e1 e2
variable {N:Addr->Prop}{p:Pd}
theorem c1p.pt(h:c1p A H N o p):∃ t b sd,i5s A H o t b sd p.ts p.bs (prs p.es):=by
 obtain⟨dx,t,b,sd,ou,ho,n,d,ht,hb,⟨us,hsd,R⟩,_⟩:=h
 obtain⟨ps,rfl,hE⟩:=i5z R
 exact⟨t,b,sd,dx,ou,ps,ho,ht,hb,hsd,hE,d.1,d.2.1,d.2.2.2.1⟩
variable {M:Addr->Prop}
theorem c1p.over{H H':Hp}(h:c1p A H N o p)(S:c0t M H H')(hd:∀ z,N z->H z≠none->¬ M z):c1p A H' N o p:=by
 walk_at"@h@edx t b sd ou@cho F"; clear h
 exact⟨dx,t,b,sd,ou,S _ _ (fun _ ys q=>by cases q) ho,F.over S hd⟩
theorem c1p.same{H H':Hp}(h:c1p A H N o p)(S:Same H H'):c1p A H' N o p:=h.over (M:=fun _=>False) (c0t.of S) fun _ _ _ h=>h
theorem c1p.mono(h:c1p A H N o p)(hm:∀ z,N z->H z≠none->M z):c1p A H M o p:=by
 walk_at"@h@edx t b sd ou@cho F"; clear h
 exact⟨dx,t,b,sd,ou,ho,F.mono hm⟩
theorem k2v(T:Tx K mg A):a1j P A.wd K mg base CX0 1 A.b5g A.b2g ["self"] (spPI A):=by
 have a1s:=T.a1s
 have a0m:=T.a0m
 have a0o:=T.a0o
 have a0n:=T.a0n
 have a0p:=T.a0p
 refine T.c4s.ok g0r (fun _ _ _ _ h=>d3p h) (fun cdv A' outer s H vs Q E hr h=>?_)
 .walk_at"h"
  obtain⟨o,zE,⟨dx,ho,q⟩⟩:=g7g h
  walk_at"g"
  have hu:=hr.units
  have hs:=szl
  have fr:∀ {H1:Hp} {z:Addr},a2j o H H1->H1 z=none->z≠o->H z=none:=fun B n nz=>by
   cases e:H _ with
   | none=>rfl
   | some u=>rw [B _ _ nz e] at n; cases n
  have ap:∀ {H1:Hp} {z y:Addr} {u:HO},H1 z=none->H1 y=some u->z≠y:=fun n e q=>by rw [q,e] at n; cases n
  refine⟨_,(a0h (sfT K (pvF 0) (a4q a0i))
   (a0h (sfT K (pvF 0) (a4q a0i))
   (a0h (sfT K (pvF 0) (a4q a0i))
   (a0k (sfT K (pvF 0) (a4q a0i)))))),?_⟩
  clear hu
  walk_at"rf"
  refine⟨by lia,fun t H1 n1 S1 h1=>?_⟩
  have ho1:=S1 _ _ ho
  have ot:=ap n1 ho
  walk_at"rf*"
  intro H2 B2 h2
  have h12:=B2 _ _ ot h1
  have B02:a2j o H H2:=fun z u hz e=>B2 _ _ hz (S1 _ _ e)
  clear h1 ho1
  walk_at"rf*"
  refine fun b H3 n3 S3 h3=>?_
  have ho3:=S3 _ _ h2
  have ob:=ap n3 h2
  have tb:=ap n3 h12
  have nb:=fr B02 n3 ob
  clear h2
  walk_at"rf*"
  intro H4 B4 h4
  have h14:=B4 _ _ ot (S3 _ _ h12)
  have h34:=B4 _ _ ob h3
  have B04:a2j o H H4:=fun z u hz e=>B4 _ _ hz (S3 _ _ (B02 _ _ hz e))
  clear h12 h3 ho3
  walk_at"rf*"
  refine fun sd H5 n5 S5 h5=>?_
  have ho5:=S5 _ _ h4
  have os:=ap n5 h4
  have ts:=ap n5 h14
  have bs:=ap n5 h34
  have ns:=fr B04 n5 os
  clear h4
  walk_at"rf*"
  intro H6 B6 h6
  have h16:=B6 _ _ ot (S5 _ _ h14)
  have h36:=B6 _ _ ob (S5 _ _ h34)
  have h56:=B6 _ _ os h5
  have B06:a2j o H H6:=fun z u hz e=>B6 _ _ hz (S5 _ _ (B04 _ _ hz e))
  clear h14 h34 h5 ho5
  walk_at"rf*"
  refine fun ou H7 n7 S7 h7=>?_
  have ho7:=S7 _ _ h6
  have oo:=ap n7 h6
  have to:=ap n7 h16
  have bo:=ap n7 h36
  have so:=ap n7 h56
  have nu:=fr B06 n7 oo
  clear h6
  walk_at"rf*"
  intro H8 B8 h8
  exact q H8 (fun z u hz e=>B8 _ _ hz (S7 _ _ (B06 _ _ hz e))) ⟨dx,t,b,sd,ou,h8,⟨n1,nb,ns,nu⟩,⟨tb.symm,ts.symm,to.symm,bs.symm,bo.symm,so.symm⟩,B8 _ _ ot (S7 _ _ h16),B8 _ _ ob (S7 _ _ h36),⟨[],B8 _ _ os (S7 _ _ h56),.nil⟩,[],B8 _ _ oo h7,.nil⟩
theorem j7o(T:Tx K mg A):a1j P A.wd K mg base CX0 3 A.b2h A.a9o ["self","name"] (k2d A):=by
 have b8u:a1j P A.wd K mg base CX0 2 _ _ _ _:=i5y T
 have a1s:=T.a1s
 have a0m:=T.a0m
 have a0o:=T.a0o
 have a0n:=T.a0n
 have a0p:=T.a0p
 refine T.c1k.ok f6w (fun _ _ _ _ h=>i8o h) (fun cdv A' outer s H vs Q E hr h=>?_)
 .walk_at"h"
  walk_at"@j5j h@eo x@czE@eN p@chP nm nt nb l1 q"
  walk_at"g"
  walk_at"@hP.pt@et' b' sd' hT"
  walk_at"@id hP@edx t b sd ou@cho F"
  have ht:=F.ht
  have hb:=F.hb
  have hu:=hr.units
  have hs:=szl
  unfold ptF at ho
  refine⟨_,(a0h (a4p (a4r (pvF 0) T.a1s T.b0i b8u hr.dn T.c6u .nil a3i (a0g (pvF 1) a0i)))
   (a0k (a4p (b5r b1j Da D3 Dd a5v (pfT K (pvF 0)) (a0g (pvF 1) a0i))))),?_⟩
  clear hu
  walk_at"rf*"
  refine⟨t',b',sd',_,_,_,hT,nt,nb,fun H1 S1=>?_⟩
  have ho1:=S1 _ _ ho
  have ht1:=S1 _ _ ht
  clear ho ht
  walk_at"rf*"
  refine⟨by lia,?_⟩
  rintro _ H2 ⟨rfl,B2,h2⟩
  try walk_at"rf"
  exact q H2 ((c0t.of S1).trans (c0t.one ht1 F.n.1 B2)) ⟨dx,t,b,sd,ou,B2 _ _ (fun e=>by rw [e,ht1] at ho1; cases ho1) ho1,(F.same S1).addT h2 B2⟩
theorem j7p(T:Tx K mg A):a1j P A.wd K mg base CX0 3 A.b7y A.b5h ["self","name"] (k2e A):=by
 have b8u:a1j P A.wd K mg base CX0 2 _ _ _ _:=i5y T
 have a1s:=T.a1s
 have a0m:=T.a0m
 have a0o:=T.a0o
 have a0n:=T.a0n
 have a0p:=T.a0p
 refine T.c8q.ok g4q (fun _ _ _ _ h=>i8o h) (fun cdv A' outer s H vs Q E hr h=>?_)
 .walk_at"h"
  walk_at"@j5j h@eo x@czE@eN p@chP nm nt nb l1 q"
  walk_at"g"
  walk_at"@hP.pt@et' b' sd' hT"
  walk_at"@id hP@edx t b sd ou@cho F"
  have ht:=F.ht
  have hb:=F.hb
  have hu:=hr.units
  have hs:=szl
  unfold ptF at ho
  refine⟨_,(a0h (a4p (a4r (pvF 0) T.a1s T.b0i b8u hr.dn T.c6u .nil a3i (a0g (pvF 1) a0i)))
   (a0k (a4p (b5r b1j Da D3 Dd a5v (pfT K (pvF 0)) (a0g (pvF 1) a0i))))),?_⟩
  clear hu
  walk_at"rf*"
  refine⟨t',b',sd',_,_,_,hT,nt,nb,fun H1 S1=>?_⟩
  have ho1:=S1 _ _ ho
  have hb1:=S1 _ _ hb
  clear ho hb
  walk_at"rf*"
  refine⟨by lia,?_⟩
  rintro _ H2 ⟨rfl,B2,h2⟩
  try walk_at"rf"
  exact q H2 ((c0t.of S1).trans (c0t.one hb1 F.n.2.1 B2)) ⟨dx,t,b,sd,ou,B2 _ _ (fun e=>by rw [e,hb1] at ho1; cases ho1) ho1,(F.same S1).addB h2 B2⟩
theorem Rch.refl(es:List (Str×Str))(x:Str):Rch es x x:=fun _ h _=>h
theorem Rch.step{x u v:Str}(h:Rch es x u)(he:(u,v)∈es):Rch es x v:=fun S hx hc=>hc u v (h S hx hc) he
theorem filter_lt{α:Type}{p q:α->Bool}:∀ {l:List α} {a:α},(∀ x,q x=true->p x=true)->a∈l->p a=true->q a=false->(l.filter q).length < (l.filter p).length
 | [],_,_,h,_,_=>by cases h
 | x :: l,a,hpq,h,ha,hqa=>by
  have le:∀ l:List α,(l.filter q).length<=(l.filter p).length:=fun l=>by
   induction l with
   | nil=>exact C0 _
   | cons y l ih =>
    rw [Gs,Gs]
    cases hq:q y with
    | true=>rw [if_pos rfl,if_pos (hpq y hq),Cq,Cq]; lia
    | false =>
     rw [if_neg Cd]
     split
     .rw [Cq]; lia
     .exact ih
  rw [Gs,Gs]
  rcases Db.mp h with e | h
  .subst e
   rw [if_neg (by rw [hqa]; exact Cd),if_pos ha,Cq]
   have:=le l
   lia
  .have ih:=filter_lt hpq h ha hqa
   cases hq:q x with
   | true=>rw [if_pos rfl,if_pos (hpq x hq),Cq,Cq]; lia
   | false =>
    rw [if_neg Cd]
    split
    .rw [Cq]; lia
    .exact ih
variable {ks:List Str}
theorem j7q{e:Str×Str}(he:e∈es)(hn:e.2∉ks):cnt es (ks++[e.2]) < cnt es ks:=by
 refine filter_lt (fun x hx=>?_) he (by simpa using hn) (by simp)
 simp at hx ⊢
 exact hx.1
theorem f6k:∀ {kvs:List (Key×V)} {k:Key},k∉kvs.map (·.1)->b9m kvs k=none
 | [],_,_=>rfl
 | p :: r,k,h=>by
  rw [Es,Db,not_or] at h
  rw [b1g (fun e=>h.1 e.symm)]
  exact f6k h.2
theorem f6l:∀ {kvs:List (Key×V)} {k:Key},k∈kvs.map (·.1)->∃ v,b9m kvs k=some v/\(k,v)∈kvs
 | [],_,h=>by cases h
 | p :: r,k,h=>by
  by_cases e:p.1=k
  .exact⟨p.2,b2v e,by rw [<- e]; exact Ce⟩
  .rw [Es,Db] at h
   obtain⟨v,h1,h2⟩:=f6l (h.resolve_left fun z=>e z.symm)
   exact⟨v,by rw [b1g e]; exact h1,Ci _ h2⟩
theorem h9y{x:Str}:kT x∈ks.map kT ↔ x∈ks:=by
 constructor
 .intro h
  obtain⟨y,hy,e⟩:=E4.mp h
  injection e with e
  rw [<- e]
  exact hy
 .exact fun h=>Kl h
variable {L:Addr}{kvs:List (Key×V)}
theorem h4j.same{H H':Hp}(h:h4j H L kvs ks)(S:Same H H'):h4j H' L kvs ks :=
 ⟨h.1,fun kv hkv=>(h.2 kv hkv).elim fun l z=>z.elim fun ss q=>⟨l,ss,q.1,q.2.1,S _ _ q.2.2.1,q.2.2.2⟩⟩
theorem h4j.b5q{H H':Hp}(h:h4j H L kvs ks)(B:a2j L H H'):h4j H' L kvs ks :=
 ⟨h.1,fun kv hkv=>(h.2 kv hkv).elim fun l z=>z.elim fun ss q=>⟨l,ss,q.1,q.2.1,B _ _ q.2.1 q.2.2.1,q.2.2.2⟩⟩
theorem h4j.put{H H':Hp}{W:Addr}{kvs':List (Key×V)}{z:Str}{ss:List Str}(h:h4j H L kvs ks)(hW:H W=some (.dK kvs'))(hz:z∉ks)(hl:H l=some (.lst (ss.map V.str)))(nl:l≠L)(sl:ss.length<=kvs.length+1)(B:a2j W H H'):h4j H' L (putK kvs (kT z) (.ref l)) (ks++[z])/\(putK kvs (kT z) (.ref l)).length=kvs.length+1:=by
 have hn:b9m kvs (kT z)=none:=f6k (by rw [h.1,h9y]; exact hz)
 have ne:∀ {p:Addr} {ys:List V},H p=some (.lst ys)->p≠W:=fun e q=>by rw [q,hW] at e; cases e
 rw [g9q _ hn]
 refine⟨⟨by rw [Co,Co,h.1]; rfl,fun kv hkv=>?_⟩,by rw [C1]; rfl⟩
 rw [C1,Cw]
 rcases De.mp hkv with h1 | h1
 .obtain⟨l',ss',e1,e2,e3,e4⟩:=h.2 kv h1
  exact⟨l',ss',e1,e2,B _ _ (ne e3) e3,by lia⟩
 .obtain rfl:=Dh.mp h1
  exact⟨l,ss,rfl,nl,B _ _ (ne hl) hl,sl⟩
theorem j7r(T:Tx K mg A):a1j P A.wd K mg base CX0 1 A.b7z A.b5j ["self","start","end"] (k2f A):=by
 have a1s:=T.a1s
 have a0m:=T.a0m
 have a0o:=T.a0o
 have a0n:=T.a0n
 have a0p:=T.a0p
 refine T.c8r.ok b9v (fun _ _ _ _ h=>j5l h) (fun cdv A' outer s H vs Q E hr h=>?_)
 .walk_at"h"
  walk_at"@j5k h@eo x y@czE@et b sd ts bs es@chP nr e100 okx oke q"
  walk_at"g"
  have hu:=hr.units
  have hs:=szl
  walk_at"@id hP@edx ou ps@cho ht hb hsd hE d1 d2 d3"
  unfold ptF at ho
  have el:=hE.1
  refine⟨_,(a0h (a1t 3 b9v.nd (i2j (pvF 1) (a4q (a0g (pvF 1) a0i))))
   (a0h (a1t 4 b9v.nd (a4q (a0g (pvF 1) a0i)))
   (a0h (d0g Ck (a3n (onT K hu) (pvF 4) (a4q a0i))
   (a0h (a1t 5 b9v.nd (i7s b1j Da Jd PySem.F.type_list_pop i8f (pvF 4)))
   (a0h (a5j (a3n (oeT K hu) (pvF 5) (pvF 2))
   (a0k (a0w (a6w (hu1 hu) (pvF 3) (pvF 5) (fun _ _=>rfl))))
   a1u)
   (a0k (a3s Ck rfl (piT K (pfT K (pvF 0))) (b2r 6 b9v.nd)
   (a0k (a5j (pw_and (a3n (oeT K hu) (a0v a2s (pvF 6) a0j) (pvF 5)) (pw_and1 (h7e (f8h (hu1 hu) (a0v a2s (pvF 6) a0j) (pvF 3)) (by rfl)))).pt
   (a0h (c7h (hu1 hu) (pvF 3) (a0v a2s (pvF 6) a0j) (a0t a1k (a6w (hu1 hu) (pvF 3) (pvF 5) (fun _ _=>rfl)) (a4q (a0g (a0v a2s (pvF 6) a0j) a0i))) rfl)
   (a0k (a4p (b5r b1j Da D3 Dd a5v (pvF 4) (a0g (a0v a2s (pvF 6) a0j) a0i)))))
   a1u)))))))
   (a0k (a0w (a4q a0i)))))),?_⟩
  clear hu
  walk_at"rd"
  refine fun W H1 n1 S1 h1=>⟨by lia,fun l1 H2 n2 S2 h2=>⟨x,rfl,S2 _ _ h1,fun H3 B3 h3=>?_⟩⟩
  have nlW:l1≠W:=fun e=>by rw [e,h1] at n2; cases n2
  have h23:=B3 _ _ nlW h2
  have S03:Same H H3:=fun z u e=>B3 _ _ (fun q=>by rw [q,n1] at e; cases e) (S2 _ _ (S1 _ _ e))
  clear h1 h2
  walk_at"rd"
  refine⟨by lia,fun L H4 n4 S4 h4=>?_⟩
  have nWL:W≠L:=fun e=>by rw [<- e,h3] at n4; cases n4
  have nL:H L=none:=S03.free n4
  have h34:=S4 _ _ h3
  have h24:=S4 _ _ h23
  have h23':=h23
  clear h3 h23
  obtain⟨Pv,pin,pout⟩:=b9o (fun m O H'=>∃ (kvs:List (Key×V)) (ks ws:List Str) (v5 v6:Option V),O = [some (.ref o),some (.str x),some (.str y),some (.ref W),some (.ref L),v5,v6]/\Same H H'/\H' W=some (.dK kvs)/\H' L=some (.lst (ws.map V.str))/\h4j H' L kvs ks/\(∀ z∈ws,z∈ks)/\(∀ z∈ks,Rch es x z/\D1 z=true)/\kvs.length+cnt es ks<=es.length+1/\2*cnt es ks+ws.length<=2*es.length+1/\m=2*cnt es ks+ws.length)
  have nlL:l1≠L:=fun e=>by rw [<- e,h23'] at n4; cases n4
  have w0:h4j H4 L [(kT x,.ref l1)] [x]:=⟨rfl,fun kv hkv=>by
   obtain rfl:=Dh.mp hkv
   exact⟨l1,[x],rfl,nlL,h24,C0 _⟩⟩
  have c0:cnt es [x] <= es.length:=Hl _ _
  refine d0h Pv _ (pin _ _ _ ⟨_,[x],[x],_,_,rfl,S03.trans S4,h34,h4,w0,fun z hz=>hz,fun z hz=>by obtain rfl:=Dh.mp hz; exact⟨Rch.refl _ _,okx⟩,by rw [Cw]; lia,by rw [Cw]; lia,rfl⟩) ?_
  intro m O H5 hp
  walk_at"@pout _ _ _ hp@ekvs ks ws v5 v6@crfl S5 hW hL wy wk kr kc mb em"
  clear hp h4 h34 h24 w0
  walk_at"rf"
  refine⟨by lia,fun l6 H6 n6 S6 h6=>?_⟩
  have hW6:=S6 _ _ hW
  have hL6:=S6 _ _ hL
  walk_at"rf"
  refine f1o (ns:=ws) (ms:=[]) (SqL.of hL6) (SqL.of h6) (fun z hz=>(kr z (wk z hz)).2) (fun z hz=>by cases hz) ?_
  cases ws with
  | nil =>
   rw [show (!decide (([] : List Str) = []))=false from rfl]
   walk_at"rf"
   refine⟨by lia,fun l7 H7 n7 S7 h7=>q _ _ ⟨l7,rfl,(S5.trans S6).free n7,S5.trans (S6.trans S7),h7⟩⟩
  | cons w0 wr =>
   obtain⟨ws,ews⟩:∃ ws,w0 :: wr=ws:=⟨_,rfl⟩
   have wne:ws≠[]:=by rw [<- ews]; exact fun e=>by cases e
   have wl:0 < ws.length:=by rw [<- ews]; exact Nat.succ_pos _
   rw [ews] at hL6 wk em mb ⊢
   rw [decide_eq_false wne]
   clear hW hL h6
   walk_at"rf*"
   rintro v H7 ⟨hv,B7,h7⟩
   rw [Bv,C9,By (by lia)] at hv
   cases hv
   obtain ⟨sc, esc⟩ : ∃ z, ws[ws.length - 1]'(by lia) = z := ⟨_, rfl⟩
   have scw:sc∈ws:=by rw [<- esc]; exact List.getElem_mem _
   have sck:=wk sc scw
   have ny:sc≠y:=fun e=>nr (by rw [<- e]; exact (kr sc sck).1)
   have ny':(sc=y)=False:=eq_false ny
   rw [esc]
   rw [<- List.map_dropLast] at h7
   have hW7:=B7 _ _ nWL hW6
   have S7':Same H H7:=(S5.trans S6).step nL B7
   have ho7:=S7' _ _ ho
   have j0h:=S7' _ _ hsd
   have wy7:=(wy.same S6).b5q B7
   have dl:ws.dropLast.length=ws.length - 1:=O2
   clear hW6 hL6
   walk_at"rf*"
   refine⟨⟨_,SqL.of j0h⟩,?_⟩
   obtain⟨Pw,win,wout⟩:=b9o (fun i O H'=>∃ (kv2:List (Key×V)) (k2 w2:List Str) (v6:Option V),O = [some (.ref o),some (.str x),some (.str y),some (.ref W),some (.ref L),some (.str sc),v6]/\Same H H'/\H' W=some (.dK kv2)/\H' L=some (.lst (w2.map V.str))/\h4j H' L kv2 k2/\sc∈k2/\(∀ z∈w2,z∈k2)/\(∀ z∈k2,Rch es x z/\D1 z=true)/\kv2.length+cnt es k2<=es.length+1/\2*cnt es k2+w2.length+1<=2*cnt es ks+ws.length)
   refine a5k (xs:=ps.map V.ref) Pw (win _ _ _ ⟨kvs,ks,ws.dropLast,_,rfl,S7',hW7,h7,wy7,sck,fun z hz=>wk z (List.dropLast_subset _ hz),kr,kc,by lia⟩) ?_ ?_ ?_
   .intro i O H8 hi hp
    walk_at"@wout _ _ _ hp@ekv2 k2 w2 v6'@crfl S8 _"
    exact SqL.of (S8 _ _ hsd)
   .intro i v O H8 hv hp
    rw [C9] at hv
    obtain⟨p,hpi,rfl⟩:=C7.mp hv
    walk_at"@wout _ _ _ hp@ekv2 k2 w2 v6'@crfl S8 hW8 hL8 wy8 sk8 wk8 kr8 kc8 em8"
    have hi:=(Bu.mp hpi).1
    have hei : es[i]? = some (es[i]'(by lia)) := By _
    obtain⟨lw,hpe⟩:=hE.2 i p _ hpi hei
    have me:=Ca hei
    generalize es[i]'(by lia) = e at hei hpe me
    have hp8:=S8 _ _ hpe
    have iv:=f6k (kvs:=kv2) (k:=kT e.2)
    clear hv hp ho7 j0h hW7 h7
    walk_at"rf*"
    split
    .rename_i hc
     obtain⟨v,hv1,hv2⟩:=f6l (kvs:=kv2) (k:=kT sc) (by rw [wy8.1,h9y]; exact sk8)
     obtain⟨lv,ss,ev,nlv,hlv,sl⟩:=wy8.2 _ hv2
     replace ev:v = .ref lv:=ev
     subst ev
     have hn:e.2∉k2:=fun hm=>by
      obtain⟨u,hu1,_⟩:=f6l (kvs:=kv2) (k:=kT e.2) (by rw [wy8.1,h9y]; exact hm)
      rw [hu1] at hc
      exact absurd hc.2 (by simp)
     refine⟨_,hv1,fun l9 H9 n9 S9 h9=>?_⟩
     have hlv9:=S9 _ _ hlv
     walk_at"rf*"
     refine⟨by lia,fun l10 H10 n10 S10 h10=>?_⟩
     have j7s:=S9.trans S10
     have k5t:=j7s _ _ hW8
     have j8y:=j7s _ _ hp8
     have hL10:=j7s _ _ hL8
     have n10L:l10≠L:=fun q=>by rw [q,S9 _ _ hL8] at n10; cases n10
     clear hW8 hp8 h9 hlv9
     walk_at"rf*"
     refine⟨by lia,fun H11 B11 h11=>?_⟩
     have k2w:=B11 _ _ nWL.symm hL10
     have k5u:=B11 _ _ (fun q=>by rw [q,k5t] at j8y; cases j8y) j8y
     have k5v:=(wy8.same j7s).put (z:=e.2) k5t hn (ss:=ss++[e.2]) (by rw [h10,Co]; rfl) n10L (by rw [C1,Cw]; lia) B11
     have nHW:H W=none:=n1
     clear j8y
     walk_at"rf*"
     refine⟨by lia,?_⟩
     rintro _ H12 ⟨rfl,B12,h12⟩
     have cl:=j7q me hn
     refine win _ _ _ ⟨_,k2++[e.2],w2++[e.2],_,rfl,((S8.trans j7s).step nHW B11).step nL B12,B12 _ _ nWL h11,by rw [h12,Co]; rfl,k5v.1.b5q B12,Dp _ sk8,fun z hz=>?_,fun z hz=>?_,by rw [k5v.2]; lia,by rw [C1,Cw]; lia⟩
     .rcases De.mp hz with h | h
      .exact Dp _ (wk8 z h)
      .exact Cj _ h
     .rcases De.mp hz with h | h
      .exact kr8 z h
      .obtain rfl:=Dh.mp h
       exact⟨(kr8 sc sk8).1.step (by rw [<- hc.1]; exact me),oke _ me⟩
    .exact win _ _ _ ⟨kv2,k2,w2,_,rfl,S8,hW8,hL8,wy8,sk8,wk8,kr8,kc8,em8⟩
   .intro O H8 hp
    walk_at"@wout _ _ _ hp@ekv2 k2 w2 v6'@crfl S8 hW8 hL8 wy8 sk8 wk8 kr8 kc8 em8"
    exact⟨2*cnt es k2+w2.length,by lia,pin _ _ _ ⟨kv2,k2,w2,_,_,rfl,S8,hW8,hL8,wy8,wk8,kr8,kc8,by lia,rfl⟩⟩
theorem j0i(T:Tx K mg A):a1j P A.wd K mg base CX0 12 A.b5i A.b2j ["self","source","bus","words"] (j6n A):=by
 have d2t:a1j P A.wd K mg base CX0 10 _ _ _ _:=h0x T
 have g2h:a1j P A.wd K mg base CX0 4 _ _ _ _:=j7n T
 have g9c:a1j P A.wd K mg base CX0 1 _ _ _ _:=j7r T
 have a1s:=T.a1s
 have a0m:=T.a0m
 have a0o:=T.a0o
 have a0n:=T.a0n
 have a0p:=T.a0p
 have a4u:=T.a4u
 have a2g:=T.a2g
 have a1r:=T.a1r
 refine T.c4t.ok c7o (fun _ _ _ _ h=>i8r h) (fun cdv A' outer s H vs Q E hr h=>?_)
 .walk_at"h"
  walk_at"@i8q h@eo x y l@czE@eN p ds@chP hl l8 okd hx hy nr e99 oky oke q"
  walk_at"g"
  have hu:=hr.units
  have hs:=szl
  walk_at"@id hP@edx t b sd ou@cho F"
  have ht:=F.ht
  have hb:=F.hb
  obtain⟨us,hsd,R1⟩:=F.hs
  have el:=R1.j1b
  unfold ptF at ho
  have ft:=c6z p.ts
  have fb:=c6z p.bs
  have i1:=c1r x p.ts
  have i2:=c1r x p.bs
  have i3:=c1r y p.bs
  refine⟨_,(a0h (a5j (pw_and (a3n d0j (pvF 1) (pfT K (pvF 0))) (pw_and1 (a3n d0j (pvF 1) (pfT K (pvF 0))))).pt
   (a0k a2r)
   a1u)
   (a0h (a5j (a3n d0j (pvF 2) (pfT K (pvF 0)))
   (a0k a2r)
   a1u)
   (a0h (a1t 4 c7o.nd (c3y T.g0x d2t hr.dn (by rfl) T.h0g T.f0o .nil a3i (a0g (pvF 3) a0i)))
   (a0h (a1t 5 c7o.nd (a4r (pvF 0) T.a1s T.d1n g9c hr.dn T.g8j .nil a3i (a0g (pvF 2) (a0g (pvF 1) a0i))))
   (a0h (a5j (a3n (onT K hu) (pvF 5) (a4q a0i))
   (a0k a2r)
   a1u)
   (a0k (a4p (b5r b1j Da D3 Dd a5v (pfT K (pvF 0)) (a0g (a6z (a0g (pvF 1) (a0g (pvF 2) (a0g (a2k (pvF 4) T.a4u T.c5n g2h hr.dn T.g1g .nil a3i) a0i)))) a0i))))))))),?_⟩
  clear hu
  walk_at"rd*"
  have key:∀ R:Prop,R->(if ¬ x∈p.ts then c0s (V.str x)=true/\if ¬ x∈p.bs then False else R else R):=fun R hR=>by
   split
   .rename_i h1
    rw [if_neg (not_not_intro (hx.resolve_left h1))]
    exact⟨rfl,hR⟩
   .exact hR
  refine⟨rfl,key _ ⟨rfl,?_⟩⟩
  intro c cx H2 n2 n2' nx S2 hdx hc
  refine⟨cx,ds,hc,S2 _ _ hl,l8,okd,fun H3 B3 hC _=>?_⟩
  rw [asNew]
  refine⟨rfl,?_⟩
  have S03:Same H H3:=fun z u e=>B3 _ _ (fun ze=>by rw [ze] at e; rw [e] at n2; cases n2) (S2 _ _ e)
  have ho3:=S03 _ _ ho
  obtain⟨t',b',sd',hT⟩:=(hP.same S03).pt
  clear hc
  walk_at"rf*"
  refine⟨t',b',sd',_,_,_,hT,nr,by rw [prs,Bv]; lia,(fun e he=>?_),?_⟩
  .obtain⟨z,hz,rfl⟩:=E4.mp he
   exact oke z hz
  rintro _ H4 ⟨rg,rfl,n4,S4,h4⟩
  clear ho3
  walk_at"rf"
  refine⟨by lia,fun l5 H5 n5 S5 h5=>?_⟩
  walk_at"rf"
  refine f1o (ns:=[]) (ms:=[]) (SqL.of (S5 _ _ h4)) (SqL.of h5) (fun z hz=>by cases hz) (fun z hz=>by cases hz) ?_
  rw [show (!decide (([] : List Str) = []))=false from rfl]
  have S35:=S4.trans S5
  have S05:=S03.trans S35
  have ho5:=S05 _ _ ho
  have k5w:=S05 _ _ hsd
  have hC5:=hC.same S35
  walk_at"@id hC5@ecx' pl' sl' os' sts'@chc5 hpl5 hsl5 R5"
  unfold chF at hc5
  clear h4 h5 hC hpl5 hsl5 R5
  walk_at"rf*"
  refine⟨ds,hC5,l8,fun d hd=>(okd d hd).1,?_⟩
  rintro _ H6 ⟨lw,rfl,n6,S6,h6⟩
  clear ho5 hc5
  walk_at"rf"
  refine⟨by lia,fun p7 H7 n7 S7 h7=>?_⟩
  have S57:=S6.trans S7
  have S07:=S05.trans S57
  have j0h:=S57 _ _ k5w
  clear k5w
  walk_at"rf*"
  refine⟨by lia,?_⟩
  rintro _ H8 ⟨rfl,B8,h8⟩
  try walk_at"rf"
  have F7:Fl H7 (fun a=>N a\/H a=none) t b sd ou p:=(F.same S07).mono fun z hz _=>.inl hz
  have nlw:H lw=none:=S05.free n6
  have ne:∀ {z:Addr} {u:HO},H z=some u->lw≠z:=fun e q=>by rw [<- q,nlw] at e; cases e
  obtain⟨_,hou,_⟩:=F.ho
  have rr:Rp H7 (Nw (fun a=>N a\/H a=none) t b sd ou) (.ref p7) (dSd (x,y,ds.map Dt.word)):=.tup h7 (.cons (.str _) (.cons (.str _) (.cons (.lst ⟨.inr nlw,ne ht,ne hb,ne hsd,ne hou⟩ (by rw [S7 _ _ h6,Hv]; rfl) (RpL.strs _)) .nil)))
  exact q H8 ((c0t.of S07).trans (c0t.one j0h F.n.2.2.1 B8)) ⟨dx,t,b,sd,ou,B8 _ _ (fun e=>by rw [<- e,S07 _ _ ho] at j0h; cases j0h) (S07 _ _ ho),F7.addS j0h rr h8 B8⟩
theorem h9z(T:Tx K mg A):a1j P A.wd K mg base CX0 1 A.a9p A.a7l ["self"] (i3e A):=by
 have a1s:=T.a1s
 have a0m:=T.a0m
 have a0o:=T.a0o
 have a0n:=T.a0n
 have a0p:=T.a0p
 refine T.b9k.ok f3r (fun _ _ _ _ h=>d3p h) (fun cdv A' outer s H vs Q E hr h=>?_)
 .walk_at"h"
  obtain⟨o,zE,⟨N,p,⟨dx,t,b,sd,ou,ho,F⟩,l1,q⟩⟩:=g7g h
  walk_at"g"
  have hu:=hr.units
  have hs:=szl
  have ht:=F.ht
  unfold ptF at ho
  refine⟨_,(a0k (a0w (a2o b1h (by rfl) T.d2k Ic (a0g (pfT K (pvF 0)) a0i)))),?_⟩
  clear hu
  walk_at"rf*"
  exact fun l H1 n1 S1 h1=>q _ _ ⟨l,rfl,n1,S1,h1⟩
theorem j0j(T:Tx K mg A):a1j P A.wd K mg base CX0 1 A.b5k A.b2l ["self"] (j6o A):=by
 have a1s:=T.a1s
 have a0m:=T.a0m
 have a0o:=T.a0o
 have a0n:=T.a0n
 have a0p:=T.a0p
 refine T.c4u.ok g0s (fun _ _ _ _ h=>d3p h) (fun cdv A' outer s H vs Q E hr h=>?_)
 .walk_at"h"
  obtain⟨o,zE,⟨N,p,⟨dx,t,b,sd,ou,ho,F⟩,l1,q⟩⟩:=g7g h
  walk_at"g"
  have hu:=hr.units
  have hs:=szl
  obtain⟨us,hou,R2⟩:=F.ho
  have ul:=R2.j1b
  unfold ptF at ho
  refine⟨_,(a0k (a0w (a2o b1h (by rfl) T.d2k Ic (a0g (pfT K (pvF 0)) a0i)))),?_⟩
  clear hu
  walk_at"rf*"
  exact fun l H1 n1 S1 h1=>q l us H1 n1 S1 h1 (h7g (R2.same S1))
theorem i4a(T:Tx K mg A):a1j P A.wd K mg base CX0 1 A.b2k A.a9q ["self"] (i9n A):=by
 have a1s:=T.a1s
 have a0m:=T.a0m
 have a0o:=T.a0o
 have a0n:=T.a0n
 have a0p:=T.a0p
 refine T.c1l.ok f6y (fun _ _ _ _ h=>d3p h) (fun cdv A' outer s H vs Q E hr h=>?_)
 .walk_at"h"
  obtain⟨o,zE,⟨N,p,⟨dx,t,b,sd,ou,ho,F⟩,l1,l2,q⟩⟩:=g7g h
  walk_at"g"
  have hu:=hr.units
  have hs:=szl
  obtain⟨us,hsd,R1⟩:=F.hs
  have ul:=R1.j1b
  unfold ptF at ho
  refine⟨_,(a0k (a0w (b6t (piT K (pfT K (pvF 0))) (fun _ _ _ _ _=>(a6z (a0g (a0v a2s (pvF 0) a0j) (a0g (a0v a2s (pvF 0) a0j) (a0g (a2o b1h (by rfl) T.d2k Ic (a0g (a0v a2s (pvF 0) a0j) a0i)) a0i))))) (c5w (sc:=a0l c7k) (N:=["self"]) rfl rfl (by decide +kernel)) rfl))),?_⟩
  clear hu
  walk_at"rf*"
  refine⟨⟨_,SqL.of hsd⟩,fun D H2 n2 S2 h2=>?_⟩
  refine b1i (xs:=us) (fun i ys H'=>Same H H'/\H' D=some (.lst ys)/\RpL H' (fun a=>H a=none/\a≠D) ys ((p.es.take i).map dSd)) ⟨S2,h2,.nil⟩ (by lia) ?_ ?_ ?_
  .intro i ys H' hi ⟨S',h',R'⟩
   refine⟨h',SqL.of (S' _ _ hsd),?_⟩
   rw [R'.j1b,D9]
   lia
  .intro i x ys H' hx ⟨S',h',R'⟩
   walk_at"@R1.at3 hx@ee pe lw@che rfl hpe _ hlw"
   have hp':=S' _ _ hpe
   have hw':=S' _ _ hlw
   have wl:=l2 e (Ca he)
   clear hpe hlw h2 hx
   walk_at"rf*"
   refine fun l4 H4 n4 S4 h4=>?_
   walk_at"rf*"
   refine fun p5 H5 n5 S5 h5=>?_
   have S45:=S4.trans S5
   refine⟨S45 _ _ h',fun H6 B6 h6=>⟨(S'.trans S45).step n2 B6,h6,?_⟩⟩
   rw [Cu,he,Co]
   refine RpL.put (.snoc (R'.same S45) (.tup h5 (.cons (.str _) (.cons (.str _) (.cons (.lst ⟨S'.free n4,fun z=>?_⟩ (S5 _ _ h4) (RpL.strs _)) .nil))))) (S45 _ _ h') (fun z=>z.2 rfl) B6
   rw [z,h'] at n4
   cases n4
  .intro ys H3 ⟨S3,h3,R3⟩
   rw [ul,Dg] at R3
   exact q D ys H3 n2 S3 h3 R3
theorem j0k(T:Tx K mg A):a1j P A.wd K mg base CX0 1 A.a7m A.a6l ["self","bus","placed"] (j6p A):=by
 have a1s:=T.a1s
 have a0m:=T.a0m
 have a0o:=T.a0o
 have a0n:=T.a0n
 have a0p:=T.a0p
 refine T.b6i.ok c9r (fun _ _ _ _ h=>i5l h) (fun cdv A' outer s H vs Q E hr h=>?_)
 .walk_at"h"
  obtain⟨o,x,l,zE,⟨t,b,sd,ts,bs,es,pl,⟨dx,ou,ps,ho,ht,hb,hsd,hE,d1,d2,d3⟩,hl,q⟩⟩:=i5k h
  walk_at"g"
  have hu:=hr.units
  unfold ptF at ho
  have fl:=c6z pl
  have fb:=c6z bs
  have iv:=c1r x pl
  have el:=hE.1
  refine⟨_,(a0h (a5j (a3n g3u (pvF 1) (pvF 2))
   (a0k (a0w f0v))
   a1u)
   (a0h (a3s Ck rfl (piT K (pfT K (pvF 0))) (b2r 3 c9r.nd)
   (a0k (a5j (pw_and (a3n (oeT K hu) (a0v a2s (pvF 3) a0j) (pvF 1)) (pw_and (a3n g3u (a0v a2s (pvF 3) a0j) (pfT K (pvF 0))) (pw_and1 (a3n d0j (a0v a2s (pvF 3) a0j) (pvF 2))))).pt
   (a0k (a0w f0v))
   a1u)))
   (a0k (a0w f0v)))),?_⟩
  clear hu
  walk_at"rd*"
  refine⟨rfl,?_⟩
  split
  .rename_i hx
   unfold c3s at q
   rw [show decide (x∉pl)=false by simp [hx],Mb] at q
   exact q
  rename_i hx
  refine⟨⟨_,SqL.of hsd⟩,?_⟩
  obtain⟨Pv,pin,pout⟩:=b9o (fun i O H'=>∃ v:Option V,O = [some (.ref o),some (.str x),some (.ref l),v]/\H'=H/\(es.take i).all (fun e=>!(decide (e.2=x) && (decide (e.1∈bs) && !decide (e.1∈pl))))=true)
  refine a5k (xs:=ps.map V.ref) Pv (pin _ _ _ ⟨_,rfl,rfl,rfl⟩) ?_ ?_ ?_
  .intro i O H1 hi hp
   walk_at"@pout _ _ _ hp@ev@crfl rfl _"
   exact SqL.of hsd
  .intro i v O H1 hv hp
   rw [C9] at hv
   obtain⟨p,hpi,rfl⟩:=C7.mp hv
   walk_at"@pout _ _ _ hp@ev@crfl rfl ha"
   have hi:=(Bu.mp hpi).1
   have hei : es[i]? = some (es[i]'(by lia)) := By _
   obtain⟨lw,hp⟩:=hE.2 i p _ hpi hei
   have et : es.take (i + 1) = es.take i ++ [es[i]'(by lia)] := by rw [Cu, hei]; rfl
   have me:=Ca hei
   generalize es[i]'(by lia) = e at hei hp et me
   have i1:=c1r e.1 bs
   have i2:=c1r e.1 pl
   clear hv
   walk_at"rf*"
   have go:(decide (e.2=x) && (decide (e.1∈bs) && !decide (e.1∈pl)))=false->Pv (i+1) [some (V.ref o),some (V.str x),some (V.ref l),some (V.ref p)] H1:=fun hf=>pin _ _ _ ⟨_,rfl,rfl,by rw [et,Qg,ha,Kb,all_cons,hf]; rfl⟩
   split
   .rename_i h1
    refine⟨rfl,?_⟩
    split
    .rename_i h2
     refine⟨rfl,?_⟩
     split
     .rename_i h3
      have z:c3s bs es pl x=false:=by
       unfold c3s
       rw [Bool.and_eq_false_iff]
       right
       rw [Pp]
       exact⟨e,me,by simp [h1,h2,h3]⟩
      rw [z] at q
      exact q
     .rename_i h3
      exact go (by simp at h3; simp [h3])
    .rename_i h2
     exact go (by simp [h2])
   .rename_i h1
    exact go (by simp [h1])
  .intro O H1 hp
   walk_at"@pout _ _ _ hp@ev@crfl rfl ha"
   rw [Bv,el,Dg] at ha
   walk_at"rf"
   unfold c3s at q
   rw [ha,show decide (x∉pl)=true by simp [hx]] at q
   exact q
theorem c9j{bs:List Str}{es:List (Str×Str)}:∀ k,(∀ j,j < k->bs.filter (c3s bs es (c9v bs es j))≠[])->(c9v bs es k).length=k
 | 0,_=>rfl
 | k+1,h=>by
  rw [c9v,C1,c9j k fun j hj=>h j (by lia)]
  have:=h k (by lia)
  cases e:bs.filter (c3s bs es (c9v bs es k)) with
  | nil=>exact absurd e this
  | cons a r=>rfl
theorem j7t(T:Tx K mg A):a1j P A.wd K mg base CX0 2 A.b2m A.a9r ["self"] (k2g A):=by
 have f6m:a1j P A.wd K mg base CX0 1 _ _ _ _:=j0k T
 have a1s:=T.a1s
 have a0m:=T.a0m
 have a0o:=T.a0o
 have a0n:=T.a0n
 have a0p:=T.a0p
 refine T.c1m.ok d3y (fun _ _ _ _ h=>d3p h) (fun cdv A' outer s H vs Q E hr h=>?_)
 .walk_at"h"
  walk_at"@g7g h@eo@czE@et b sd ts bs es@chP b100 ne q"
  walk_at"g"
  have hu:=hr.units
  have hs:=szl
  walk_at"@id hP@edx ou ps@cho ht hb hsd hE d1 d2 d3"
  unfold ptF at ho
  refine⟨_,(a0h (d8w (i:=1) d3y.nd rfl (G3 rfl) (a4q a0i))
   (a0h (d0g Ck (a3n of_lt (a3p a1q T.b0w Dq (a0g (pvF 1) a0i)) (a3p a1q T.b0w Dq (a0g (pfT K (pvF 0)) a0i)))
   (a0k (a4p (b5r b1j Da D3 Dd a5v (pvF 1) (a0g (a0v a2s (g9w (piT K (pfT K (pvF 0))) (fun _ _ _ _ _=>(b3l (a4r (pvF 1) T.a1s T.c0q f6m hr.dn T.f5g .nil a3i (a0g (pvF 0) (a0g (pvF 2) a0i))))) (fun _ _ _ _ _=>(pvF 0)) (c5w (sc:=a0l c7l) (N:=["self","placed"]) rfl rfl (by decide +kernel)) rfl) a0j) a0i)))))
   (a0k (a0w (pvF 1))))),?_⟩
  clear hu
  walk_at"rd"
  refine⟨by lia,fun l H1 n1 S1 h1=>?_⟩
  obtain⟨Pv,pin,pout⟩:=b9o (fun m O H'=>∃ k:Nat,O = [some (.ref o),some (.ref l)]/\Same H H'/\H' l=some (.lst ((c9v bs es k).map V.str))/\k<=bs.length/\m=bs.length - k)
  refine d0h Pv _ (pin _ _ _ ⟨0,rfl,S1,h1,Dx _,rfl⟩) ?_
  intro m O H2 hp
  walk_at"@pout _ _ _ hp@ek@crfl S2 h2 kl em"
  have ol:=c9j k fun j hj=>ne j (by lia)
  have ho2:=S2 _ _ ho
  have hb2:=S2 _ _ hb
  have hP2:=hP.same S2
  clear hp h1
  walk_at"rd*"
  split
  .rename_i hk
   refine⟨⟨_,SqL.of hb2⟩,fun D H3 n3 S3 h3=>?_⟩
   refine d5p (xs:=bs.map V.str) (fun v=>match v with | .str x=>c3s bs es (c9v bs es k) x | _=>false) (fun v=>v) n3 S3 h3 (SqL.of hb2) (by rw [Bv]; lia) ?_ ?_ ?_
   .intro i x H' Q' hx SS q'
    rw [C9] at hx
    obtain⟨z,hz,rfl⟩:=C7.mp hx
    have ho':=SS _ _ ho2
    clear hx
    walk_at"rd*"
    exact⟨t,b,sd,ts,bs,es,hP2.same SS,_,SS _ _ h2,q'⟩
   .intro i x H' Q' hx hpx SS q'
    walk_at"rd"
    exact q'
   .intro H4 S4 h4
    have nek:=ne k (by lia)
    have ef:((bs.map V.str).filter (fun v=>match v with | .str x=>c3s bs es (c9v bs es k) x | _=>false)).map (fun v=>v)=(bs.filter (c3s bs es (c9v bs es k))).map V.str:=by
     rw [List.map_id',List.filter_map]
     rfl
    rw [ef] at h4
    obtain⟨a,r,ea⟩:∃ a r,bs.filter (c3s bs es (c9v bs es k))=a :: r:=by
     cases e:bs.filter (c3s bs es (c9v bs es k)) with
     | nil=>exact absurd e nek
     | cons a r=>exact⟨a,r,rfl⟩
    rw [ea] at h4
    have h24:=S4 _ _ h2
    have nl:l≠D:=fun e=>by rw [<- e,h2] at n3; cases n3
    clear h2 h3
    walk_at"rd*"
    refine⟨by lia,?_⟩
    rintro _ H5 ⟨rfl,B5,h5⟩
    refine⟨bs.length - (k+1),by lia,pin _ _ _ ⟨k+1,rfl,(S2.trans S4).step n1 B5,?_,by lia,rfl⟩⟩
    rw [h5,c9v,ea,Co]
    rfl
  .rename_i hk
   obtain rfl:k=bs.length:=by lia
   exact q _ _ ⟨l,rfl,n1,S2,h2⟩
theorem i9o.nil:i9o []:=⟨fun _=>0,fun e he=>by cases he⟩
theorem h0y:∀ {l m:List Str},l.Nodup->(∀ x∈l,x∈m)->l.length<=m.length
 | [],_,_,_=>Dx _
 | a :: l,m,nd,h=>by
  have ha:=h a Ce
  have nd':=Ih.mp nd
  have ih:=h0y (l:=l) (m:=m.erase a) nd'.2 fun x hx=>(List.mem_erase_of_ne (fun e=>nd'.1 (by rw [<- e]; exact hx))).mpr (h x (Ci _ hx))
  rw [List.length_erase_of_mem ha] at ih
  have:=List.length_pos_of_mem ha
  rw [Cq]
  omega
theorem least(r:Str->Nat):∀ (l:List Str),l≠[]->∃ z∈l,∀ w∈l,r z<=r w
 | [],h=>absurd rfl h
 | [a],_=>⟨a,Ce,fun w hw=>by obtain rfl:=Dh.mp hw; exact C0 _⟩
 | a :: b :: l,_=>by
  obtain⟨z,hz,hm⟩:=least r (b :: l) (by simp)
  by_cases h:r a<=r z
  .refine⟨a,Ce,fun w hw=>?_⟩
   rcases Db.mp hw with e | hw
   .rw [e]; exact C0 _
   .have:=hm w hw
    lia
  .refine⟨z,Ci _ hz,fun w hw=>?_⟩
   rcases Db.mp hw with e | hw
   .rw [e]; lia
   .exact hm w hw
theorem i0a(bs:List Str)(es:List (Str×Str)):∀ k,(c9v bs es k).length<=k
 | 0=>C0 _
 | k+1=>by
  rw [c9v,C1]
  have:=i0a bs es k
  cases bs.filter (c3s bs es (c9v bs es k)) with
  | nil=>show _+0<=_; lia
  | cons a r=>show _+1<=_; lia
theorem ready{bs:List Str}(h:i9o es)(nd:bs.Nodup)(k:Nat)(hk:k < bs.length):bs.filter (c3s bs es (c9v bs es k))≠[]:=by
 obtain⟨r,hr⟩:=h
 have hol:=i0a bs es k
 generalize c9v bs es k=pl at hol
 have hne:bs.filter (fun z=>decide (z∉pl))≠[]:=fun e=>by
  have:=h0y (m:=pl) nd fun x hx=>by
   by_cases hp:x∈pl
   .exact hp
   .have:x∈bs.filter (fun z=>decide (z∉pl)):=Fy.mpr ⟨hx,by simpa using hp⟩
    rw [e] at this
    cases this
  lia
 obtain⟨z,hz,hm⟩:=least r _ hne
 obtain⟨hzb,hzp⟩:=Fy.mp hz
 have hzp':z∉pl:=by simpa using hzp
 refine List.ne_nil_of_mem (a:=z) (Fy.mpr ⟨hzb,?_⟩)
 unfold c3s
 rw [Ec]
 refine⟨by simpa using hzp',?_⟩
 rw [Fv]
 intro e he
 cases hc:(decide (e.2=z) && (decide (e.1∈bs) && !decide (e.1∈pl))) with
 | false=>rfl
 | true =>
  simp at hc
  obtain⟨h1,h2,h3⟩:=hc
  have a:=hr e he
  have b:=hm e.1 (Fy.mpr ⟨h2,by simpa using h3⟩)
  rw [h1] at a
  lia
variable {us:List V}{cs:List Addr}{ls:List Ld}
theorem LdX.same{H H':Hp}(h:LdX A H us cs ls Z)(S:Same H H'):LdX A H' us cs ls Z:=⟨h.1,h.2.1,fun i u c l e1 e2 e3=>(h.2.2 i u c l e1 e2 e3).elim fun q z=>⟨q,z.1,S _ _ z.2.1,z.2.2.same S⟩⟩
variable {ys:List V}
theorem LdX.b5q{H H':Hp}(h:LdX A H us cs ls Z)(hZ:H Z=some (.lst ys))(B:a2j Z H H'):LdX A H' us cs ls Z:=⟨h.1,h.2.1,fun i u c l e1 e2 e3=>(h.2.2 i u c l e1 e2 e3).elim fun q z=>⟨q,z.1,B _ _ (fun k=>by have y:=z.2.1; rw [k,hZ] at y; cases y) z.2.1,z.2.2.b5q (Lk.lst hZ) B⟩⟩
theorem LdX.snoc{Z q c:Addr}{l:Ld}(h:LdX A H us cs ls Z)(hq:H q=some (.tup [.str l.1,.ref c]))(hx:ChX A H c l.2 [] Z):LdX A H (us++[.ref q]) (cs++[c]) (ls++[l]) Z:=by
 obtain⟨h1,h2,h3⟩:=h
 refine⟨by rw [C1,C1,h1]; rfl,by rw [C1,C1,h2]; rfl,fun i u c' l' e1 e2 e3=>?_⟩
 rcases F0 i ls.length with z | z
 .rw [Cm (by lia)] at e1 e2
  rw [Cm z] at e3
  exact h3 i u c' l' e1 e2 e3
 .have hi:=(Bu.mp e3).1
  rw [C1,Cw] at hi
  obtain rfl:i=ls.length:=by lia
  rw [E5] at e3
  rw [<- h1,E5] at e1
  rw [<- h2,E5] at e2
  cases e1
  cases e2
  cases e3
  exact⟨q,rfl,hq,hx⟩
theorem LdX.s(h:LdX A H us cs ls Z):Lds A H us cs ls:=⟨h.1,h.2.1,fun i u c l e1 e2 e3=>(h.2.2 i u c l e1 e2 e3).elim fun q z=>⟨q,z.1,z.2.1,by
 obtain⟨dx,pl,sl,os,sts,h1,h2,h3,h4,h5,_⟩:=z.2.2
 exact⟨dx,pl,sl,os,sts,h1,h2,h3,h4,h5⟩⟩⟩
theorem Lk.dk(h:H D=some (.dK kvs)):Lk H D:=⟨fun ts e=>(by rw [h] at e; cases e),fun c dx fs e=>(by rw [h] at e; cases e)⟩
theorem ChS.dict{H H':Hp}(h:ChS A H o ds xs)(hZ:H Z=some (.dK kvs))(B:a2j Z H H'):ChS A H' o ds xs:=by
 walk_at"@h@edx pl sl os sts@ch1 h2 h3 h4 h5"; clear h
 exact⟨dx,pl,sl,os,sts,B _ _ (fun e=>by rw [e,hZ] at h1; cases h1) h1,B _ _ (fun e=>by rw [e,hZ] at h2; cases h2) h2,B _ _ (fun e=>by rw [e,hZ] at h3; cases h3) h3,h4.b5q (Lk.dk hZ) B,h5.b5q (Lk.dk hZ) B⟩
theorem Lds.dict{H H':Hp}(h:Lds A H us cs ls)(hZ:H Z=some (.dK kvs))(B:a2j Z H H'):Lds A H' us cs ls:=⟨h.1,h.2.1,fun i u c l e1 e2 e3=>(h.2.2 i u c l e1 e2 e3).elim fun q z=>⟨q,z.1,B _ _ (fun k=>by have y:=z.2.1; rw [k,hZ] at y; cases y) z.2.1,z.2.2.dict hZ B⟩⟩
theorem Lds.same{H H':Hp}(h:Lds A H us cs ls)(S:Same H H'):Lds A H' us cs ls:=⟨h.1,h.2.1,fun i u c l e1 e2 e3=>(h.2.2 i u c l e1 e2 e3).elim fun q z=>⟨q,z.1,S _ _ z.2.1,z.2.2.same S⟩⟩
theorem i0b(ok:d.ok)(fw:Few d)(k4:d.kd≠4):1<=a8n d/\intBits (a8n d)<=41:=by
 have den:∀ {y:Rat},YOk y->1<=(y.den:Int)/\intBits (y.den:Int)<=10:=fun {y} h=>⟨by have:=y.den_pos; lia,h.b.2⟩
 cases d with
 | gain y=>exact⟨(den ok).1,Bz (den ok).2 (by decide)⟩
 | delay n=>exact⟨by show (1:Int)<=1; decide,by show intBits 1<=41; decide⟩
 | echo y n t =>
  have o:=den ok.1
  have ht:t<=4:=fw
  refine⟨Int.pow_pos o.1,?_⟩
  show intBits ((y.den:Int) ^ t)<=41
  have:=ok.1.2
  have p1:y.den ^ t<=1000 ^ t:=Nat.pow_le_pow_left this t
  have p2:1000 ^ t<=1000 ^ 4:=Ej (by decide) ht
  rw [D8,Int.natAbs_pow]
  exact E3 (Bz p1 p2) (by decide)
 | back y n=>exact⟨(den ok.1).1,Bz (den ok.1).2 (by decide)⟩
 | hall y n=>exact absurd rfl k4
 | swell cs=>exact g2d ok fw
theorem d8u{e:Sq}(h:h8p e):1<=a6o 1 e.2.2/\intBits (a6o 1 e.2.2)<=90:=by
 obtain⟨s,g,ds⟩:=e
 obtain⟨l2,ok⟩:=h
 replace l2:ds.length<=2:=l2
 replace ok:∀ d∈ds,d.ok/\d.kd≠4/\Few d:=ok
 have gf:∀ d∈ds,1<=a8n d/\intBits (a8n d)<=41:=fun d hd=>i0b (ok d hd).1 (ok d hd).2.2 (ok d hd).2.1
 show 1<=a6o 1 ds/\intBits (a6o 1 ds)<=90
 match ds,l2,gf with
 | [],_,_=>exact⟨by decide,by decide⟩
 | [d],_,gf =>
  have g1:=gf d Ce
  show 1<=1*a8n d/\intBits (1*a8n d)<=90
  rw [Hz]
  exact⟨g1.1,by lia⟩
 | [d,d'],_,gf =>
  have g1:=gf d Ce
  have g2:=gf d' (Ci _ Ce)
  show 1<=1*a8n d*a8n d'/\intBits (1*a8n d*a8n d')<=90
  rw [Hz]
  exact⟨K1 (by lia) (by lia),Bz (Cn g1.2 g2.2) (by decide)⟩
 | _ :: _ :: _ :: _,l2,_=>simp at l2
theorem i4b(T:Tx K mg A):a1j P A.wd K mg base CX0 2 A.b3p A.b4q ["one","bottom"] i9p:=by
 have b0y:a1j P A.wd K mg base CX0 1 _ _ _ _:=f1p T
 refine T.c3i.ok g4o (fun _ _ _ _ h=>g0g h) (fun cdv A' outer s H vs Q E hr h=>?_)
 .walk_at"h"
  walk_at"@j5e h@ep B@czE@el ys b@chp hl b0 bb bB hy ly q"
  walk_at"g"
  have hu:=hr.units
  refine⟨_,(a0k (a0w (a2m b0y hr.dn T.c3q T.a8m.kp T.c3p (a0g (a0v a2s (pvF 0) a0j) (a0g (a0t a7t (pvF 1) (a0v a2s (pvF 0) a0j)) a0i))))),?_⟩
  clear hu
  walk_at"rf*"
  refine⟨⟨b0,Bz bb (by decide)⟩,ys,rfl,fun n hn=>Dr (hy n hn) (Fo bB) (by decide),by lia,q⟩
theorem j0l(T:Tx K mg A):a1j P A.wd K mg base CX0 12 A.a6j A.a5g ["self","bus","sends"] (j6r A):=by
 have d2t:a1j P A.wd K mg base CX0 10 _ _ _ _:=h0x T
 have g2i:a1j P A.wd K mg base CX0 2 _ _ _ _:=j7m T
 have c3t:a1j P A.wd K mg base CX0 3 _ _ _ _:=g5j T
 have a3r:=T.a3r
 have a1g:=T.a1g
 have a1i:=T.a1i
 have a2h:=T.a2h
 have a1n:=T.a1n
 have a1m:=T.a1m
 have a4u:=T.a4u
 have a2g:=T.a2g
 have a1r:=T.a1r
 refine T.b3g.ok c6i (fun _ _ _ _ h=>i5l h) (fun cdv A' outer s H vs Q E hr h=>?_)
 .walk_at"h"
  walk_at"@i5k h@eo b l@czE@edx t bo L B S kl kb f us es Bd@cho hL hB nLB hl R ok e20 kl1 kb1 hf bd q"
  walk_at"g"
  have hu:=hr.units
  have hs:=szl
  unfold enF at ho
  refine⟨_,(a0h (f2p (i:=3) c6i.nd rfl rfl (piT K (pvF 2)) (fun _ _ _ _ _=>(a6z (a0g (a0v a2s (pvF 0) a0j) (a0g (c3y T.g0x d2t hr.dn (by rfl) T.h0g T.f0o .nil a3i (a0g (a0v a2s (pvF 0) a0j) a0i)) a0i)))) (c5w (sc:=a0l b2y) (N:=["self","bus","sends","leads"]) rfl rfl (by decide +kernel)) rfl)
   (a0h (c7h (hu1 hu) (pfT K (pvF 0)) (pvF 1) (pvF 3) rfl)
   (a0k (c7h (hu1 hu) (pfT K (pvF 0)) (pvF 1) (a2m c3t hr.dn T.d2i T.a7p.kp T.d2h (a0g (g9y (piT K (pvF 3)) (fun _ _ _ _ _=>(a0t a2l (a6w (hu1 hu) (pfT K (pvF 2)) (pvF 0) (fun _ _=>rfl)) (a2k (pvF 1) T.a4u T.c5m g2i hr.dn T.g1f .nil a3i))) (h6n (sc:=a0l b2y) (N:=["self","bus","sends","leads"]) rfl rfl (by decide +kernel)) rfl) a0i)) rfl)))),?_⟩
  walk_at"rf*"
  refine⟨⟨_,SqL.of hl⟩,fun D H2 n2 S2 h2=>?_⟩
  have ul:us.length=es.length:=by rw [R.j1b,Bv]
  refine b1i (xs:=us) (fun i ys H'=>Same H H'/\H' D=some (.lst ys)/\∃ cs,LdX A H' ys cs ((es.take i).map fun e=>(e.1,e.2.2)) D/\cs.Nodup/\∀ c∈cs,H c=none/\H' c≠none/\c≠D) ⟨S2,h2,[],⟨rfl,rfl,fun i u c l e=>by simp at e⟩,nodup_nil,fun c hc=>by cases hc⟩ (by lia) ?_ ?_ ?_
  .intro i ys H' hi ⟨S',h',cs,L',_⟩
   exact⟨h',SqL.of (S' _ _ hl),by rw [L'.1,Bv,D9]; lia⟩
  .intro i x ys H' hx ⟨S',h',cs,L',nd,fr⟩
   walk_at"@R.at3 hx@ee' pe lw@che rfl hpe _ hlw"
   rw [C9] at he
   obtain⟨e,he',rfl⟩:=C7.mp he
   have oke:=ok e (Ca he')
   have hp':=S' _ _ hpe
   have hw':=S' _ _ hlw
   clear hpe hlw hx h2
   walk_at"rf*"
   intro c cx H4 n4 n4' nx S4 hdx hc
   refine⟨cx,e.2.2,hc,by rw [S4 _ _ hw']; show some (HO.lst ((e.2.2.map Dt.word).map V.str))=_; rw [Hv]; rfl,by have:=oke.1; lia,fun d hd=>⟨(oke.2 d hd).1,(oke.2 d hd).2.1⟩,fun H5 B5 hC hX=>?_⟩
   rw [asNew]
   refine⟨rfl,?_⟩
   have S5:Same H' H5:=fun z u ez=>B5 _ _ (fun ze=>by rw [ze,n4] at ez; cases ez) (S4 _ _ ez)
   try walk_at"rf"
   intro pq H6 n6 S6 h6
   have S6':=S5.trans S6
   have nD:D≠c:=fun k=>by rw [<- k,h'] at n4; cases n4
   have x6:=(hX D (live (S4 _ _ h')) nD).same S6
   refine⟨S6' _ _ h',fun H7 B7 h7=>⟨(S'.trans S6').step n2 B7,h7,cs++[c],?_,?_,?_⟩⟩
   .rw [Cu,he',Co]
    exact ((L'.same S6').snoc (l:=(e.1,e.2.2)) h6 x6).b5q (S6' _ _ h') B7
   .refine Hu.mpr ⟨nd,Ih.mpr ⟨(fun h=>by cases h),nodup_nil⟩,fun u hu v hv k=>?_⟩
    rw [k,Dh.mp hv] at hu
    exact (fr c hu).2.1 n4
   .intro u hu
    rcases De.mp hu with m | m
    .obtain⟨f1,f2,f3⟩:=fr u m
     refine⟨f1,?_,f3⟩
     cases k:H' u with
     | none=>exact absurd k f2
     | some v=>exact live (B7 _ _ f3 (S6' _ _ k))
    .rw [Dh.mp m]
     refine⟨S'.free n4,?_,nD.symm⟩
     walk_at"@x6@e_ _ _ _ _@chc6 _"; clear x6
     exact live (B7 _ _ nD.symm hc6)
  .intro ys H3 ⟨S3,h3,cs,L3,nd,fr⟩
   rw [ul,Dg] at L3
   have ho3:=S3 _ _ ho
   have hL3:=S3 _ _ hL
   clear h2
   walk_at"rf*"
   refine⟨by lia,fun H4 B4 h4=>?_⟩
   have ne:∀ {H':Hp} {z y:Addr} {u v:HO},H' z=some u->H' y=some v->u≠v->z≠y:=fun e1 e2 n k=>n (by rw [k,e2] at e1; exact (E8 e1).symm)
   have L4:Lds A H4 ys cs (es.map fun e=>(e.1,e.2.2)):=L3.s.dict hL3 B4
   have hD4:H4 D=some (.lst ys):=B4 _ _ (ne h3 hL3 (by simp)) h3
   have hB4:H4 B=some (.dK kb):=B4 _ _ nLB.symm (S3 _ _ hB)
   have ho4:=B4 _ _ (ne ho3 hL3 (by simp)) ho3
   walk_at"rf"
   refine⟨⟨_,SqL.of hD4⟩,fun D5 H5 n5 S5 h5=>?_⟩
   have yl:=L4.1
   rw [Bv] at yl
   refine g7c (xs:=ys) (fun i zs H'=>Same H4 H'/\H' D5=some (.lst zs)/\zs=((es.take i).map fun e=>f e.1*a6o 1 e.2.2).map V.int) ⟨S5,h5,rfl⟩ (by lia) ?_ ?_ ?_
   .intro i zs H' hi ⟨S',h',e⟩
    exact⟨h',SqL.of (S' _ _ hD4),by rw [e,Bv,Bv,D9]; lia⟩
   .intro i x zs H' hx ⟨S',h',e⟩
    have hi:=(Bu.mp hx).1
    obtain⟨c,hc⟩:∃ c,cs[i]? = some c:=⟨_,By (by rw [L4.2.1,Bv]; lia)⟩
    obtain⟨e',he'⟩:∃ e',es[i]? = some e':=⟨_,By (by lia)⟩
    obtain⟨pq,rfl,hpq,hch⟩:=L4.2.2 i x c (e'.1,e'.2.2) hx hc (by rw [C9,he']; rfl)
    have me:=Ca he'
    obtain⟨f1,f2,f3⟩:=hf e' me
    have oke:=ok e' me
    have hch':=hch.same S'
    walk_at"@id hch'@ecx pl sl os sts@chc1 _"
    unfold chF at hc1
    have ho':=S' _ _ ho4
    have hB':=S' _ _ hB4
    refine⟨pq,_,_,rfl,S' _ _ hpq,?_⟩
    clear ho3 ho4 hB4 h5 hx
    walk_at"rf*"
    have gb:=d8u oke
    have bd1:1*(Bd+90)<=es.length*(Bd+90):=Ek _ (by lia)
    refine⟨e'.2.2,[],hch',by have:=oke.1; lia,fun d hd=>⟨(oke.2 d hd).1,(oke.2 d hd).2.2⟩,Dr (m:=8900) (n:=90) (by lia) gb.2 (by decide),fun H7 B7 h7=>⟨S'.step n5 B7,h7,?_⟩⟩
    rw [Cu,he',Co,Co]
    rfl
   .intro zs H6 ⟨S6,h6,e⟩
    subst e
    rw [yl,Dg] at h6
    have ho6:=S6 _ _ ho4
    have hB6:=S6 _ _ hB4
    walk_at"rf"
    refine⟨es.map fun e=>f e.1*a6o 1 e.2.2,h6,Bd+90,fun y hy=>?_,by rw [Bv]; exact bd,?_⟩
    .obtain⟨e,he,rfl⟩:=E4.mp hy
     obtain⟨f1,f2,f3⟩:=hf e he
     have gb:=d8u (ok e he)
     exact⟨K1 (by lia) (by lia),Cn f3 gb.2⟩
    clear ho3 ho4 hB4 h5 h6
    walk_at"rf*"
    refine⟨by lia,fun H7 B7 h7=>?_⟩
    have L6:=L4.same S6
    have h46:=S6 _ _ h4
    refine q D ys cs H7 (fun z u hz hzB e=>B7 _ _ hzB (S6 _ _ (B4 _ _ hz (S3 _ _ e)))) (B7 _ _ nLB h46) h7 n2 (B7 _ _ (ne (S6 _ _ hD4) hB6 (by simp)) (S6 _ _ hD4)) nd (fun c hc=>(fr c hc).1) (L6.dict hB6 B7)
theorem g5y{bs:List Str}(h:∀ j,j < n->bs.filter (c3s bs es (c9v bs es j))≠[]):∀ k,k<=n->(c9v bs es n).take k=c9v bs es k:=by
 induction n with
 | zero =>
  intro k hk
  obtain rfl:k=0:=by lia
  rfl
 | succ n ih =>
  intro k hk
  have ln:=c9j n fun j hj=>h j (by lia)
  rcases F0 n k with z | z
  .obtain rfl:k=n+1:=by lia
   exact Ef (by rw [c9j (n+1) h]; exact C0 _)
  .rw [c9v,Hx (by lia)]
   exact ih (fun j hj=>h j (by lia)) k z
theorem i6a{bs:List Str}{b:Str}(h:∀ j,j < n->bs.filter (c3s bs es (c9v bs es j))≠[])(hi:(c9v bs es n)[i]? = some b):b∈bs/\b∉(c9v bs es n).take i/\∀ e∈es,e.2=b->e.1∈bs->e.1∈(c9v bs es n).take i:=by
 have hl:=c9j n h
 have li:=(Bu.mp hi).1
 have t0:=g5y h i (by lia)
 have t1:=g5y h (i+1) (by lia)
 rw [Cu,hi,t0,c9v] at t1
 have m:b∈(bs.filter (c3s bs es (c9v bs es i))).head?.toList:=by
  rw [<- List.append_cancel_left t1]
  exact Ce
 obtain⟨m1,m2⟩:=Fy.mp (List.mem_of_head? (Option.mem_toList.mp m))
 unfold c3s at m2
 rw [Ec,decide_eq_true_eq,Fv] at m2
 rw [t0]
 refine⟨m1,m2.1,fun e he e2 e1=>?_⟩
 have z:=m2.2 e he
 by_cases c:e.1∈c9v bs es i
 .exact c
 .simp [e2,e1,c] at z
theorem g5z(es:List Sq)(l:List Str)(b:Str):f8u es (l++[b])=f8u es l+(b8t es b).length:=by
 unfold f8u
 rw [Co,Qe]
 simp
theorem f6n(es:List Sq)(l:List Str)(b:Str):d3i es (l++[b])=j6q es (d3i es l) b:=by
 unfold d3i
 rw [Jy]
 rfl
theorem two_pow:∀ n:Nat,1<=n->2*n<=2 ^ n
 | 1,_=>by decide
 | n+2,_=>by
  have:=two_pow (n+1) (by lia)
  rw [L0]
  lia
theorem g6a(n m:Nat):1+n*(100*2 ^ m+90)<=100*2 ^ (m+n):=by
 have p:0 < 2 ^ m:=Nat.pow_pos (by decide)
 rcases Ha n with z | z
 .subst z
  rw [Nat.zero_mul]
  show 1<=100*2 ^ m
  lia
 .have t:=two_pow n z
  rw [Nat.pow_add]
  generalize 2 ^ m=a at p
  generalize 2 ^ n=c at t
  have h1:n*(100*a+90)+1<=n*(200*a):=by
   have:n*(100*a+91)<=n*(200*a):=Gq _ (by lia)
   rw [Nat.mul_add] at this ⊢
   lia
  have h2:n*(200*a)<=100*(a*c):=by
   have:(2*n)*(100*a)<=c*(100*a):=Ek _ t
   have e1:(2*n)*(100*a)=n*(200*a):=by rw [L7 2 n,Mv,<- Mv 2 100 a]
   have e2:c*(100*a)=100*(a*c):=by rw [L7 c,Mv]
   lia
  lia
variable {es:List Sq}
theorem j7u{b:Str}(ok:∀ e∈es,h8p e){l:Ld}(hl:l∈b8t es b):1<=a6o 1 l.2/\intBits (a6o 1 l.2)<=90:=by
 obtain⟨e,he,rfl⟩:=E4.mp hl
 exact d8u (ok e (Fy.mp he).1)
theorem g2j{es:List Sq}(ok:∀ e∈es,h8p e):∀ (k:Nat) (l:List Str),l.length=k->∀ z,1<=d3i es l z/\intBits (d3i es l z)<=100*2 ^ f8u es l
 | 0,l,hl,z=>by
  obtain rfl:=Fh.mp hl
  exact⟨by show (1:Int)<=1; decide,by show intBits 1<=100*2 ^ 0; decide⟩
 | k+1,l,hl,z=>by
  obtain⟨l',b,rfl⟩:∃ l' b,l=l'++[b]:=by
   rcases Ii l with e | ⟨cs,c,e⟩
   .rw [e] at hl; cases hl
   .exact⟨cs,c,by rw [e,Ij]⟩
  rw [C1,Cw] at hl
  have ih:=g2j ok k l' (by lia)
  rw [f6n,g5z]
  unfold j6q
  by_cases hz:z=b
  .rw [if_pos hz]
   have lk:=f5r _ ((b8t es b).map fun l=>d3i es l' l.1*a6o 1 l.2) (B:=100*2 ^ f8u es l'+90) rfl fun y hy=>by
    obtain⟨l,hl,rfl⟩:=E4.mp hy
    have a:=ih l.1
    have g:=j7u ok hl
    exact⟨K1 (by lia) (by lia),Cn a.2 g.2⟩
   rw [Bv] at lk
   exact⟨lk.1,Bz lk.2.1 (g6a _ _)⟩
  .rw [if_neg hz]
   refine⟨(ih z).1,Bz (ih z).2 (Gq _ (Ej (by decide) (by lia)))⟩
theorem g9d(es:List Sq):∀ {l:List Str},l.Nodup->f8u es l<=es.length:=by
 intro l nd
 induction es with
 | nil =>
  have:∀ l:List Str,f8u [] l=0:=fun l=>by
   induction l with
   | nil=>rfl
   | cons a l ih=>show (b8t [] a).length+f8u [] l=0; rw [ih]; rfl
  rw [this]
  exact C0 _
 | cons e es ih =>
  have one:∀ l:List Str,f8u (e :: es) l=f8u es l+l.count e.2.1:=fun l=>by
   induction l with
   | nil=>rfl
   | cons a l ih =>
    show (b8t (e :: es) a).length+f8u (e :: es) l=(b8t es a).length+f8u es l+(a :: l).count e.2.1
    rw [ih,List.count_cons]
    unfold b8t
    rw [Bv,Bv,Gs]
    by_cases h:e.2.1=a
    .rw [if_pos (by simpa using h),Cq,if_pos (by simpa using h.symm)]
     lia
    .rw [if_neg (by simpa using h),if_neg (by simpa using fun k=>h k.symm)]
     lia
  rw [one,Cq]
  have:=List.nodup_iff_count.mp nd e.2.1
  lia
theorem RpL.goal(b:Str):∀ {es:List Sq} {us:List V},RpL H N us ((es.map f8t).map dSd)->RpL H N (us.filter (g8o H b)) (((es.filter fun e=>decide (e.2.1=b)).map f8t).map dSd)
 | [],_,.nil=>.nil
 | e :: es,_,.cons (v:=v) (vs:=vs) h r=>by
  have ih:=RpL.goal b r
  have g:g8o H b v=decide (e.2.1=b):=by
   obtain⟨p,ws,rfl,hp,r2⟩:=h.tuple
   obtain⟨x,y,z,rfl,h1,h2,h3⟩:=r2.three
   cases h1.strOf
   cases h2.strOf
   show (match H p with | some (.tup [_,.str y,_])=>decide (y=b) | _=>false)=_
   rw [hp]
   rfl
  rw [Gs,Gs,g]
  by_cases c:e.2.1=b
  .rw [if_pos (decide_eq_true c),if_pos (decide_eq_true c)]
   exact .cons h ih
  .rw [if_neg (by rw [decide_eq_false c]; exact Cd),if_neg (by rw [decide_eq_false c]; exact Cd)]
   exact ih
theorem h0z{l:List Str}(h:∀ (i:Nat) b,l[i]? = some b->b∉l.take i):l.Nodup:=by
 rw [List.Nodup,Mi]
 intro i j hi hj hij e
 refine h j l[j] (By hj) ?_
 rw [<- e]
 exact Mj.mpr ⟨i,by lia,rfl⟩
variable {B:Addr}{kl kb:List (Key×V)}
theorem Lds.two{H H':Hp}(h:Lds A H us cs ls)(hL:H L=some (.dK kl))(hB:H B=some (.dK kb))(ne:L≠B)(K:∀ z u,z≠L->z≠B->H z=some u->H' z=some u):Lds A H' us cs ls:=by
 let Hm:Hp:=fun z=>if z=B then H z else H' z
 have b1:a2j L H Hm:=fun z u hz e=>by
  show (if z=B then H z else H' z)=some u
  by_cases k:z=B
  .rw [if_pos k]; exact e
  .rw [if_neg k]; exact K z u hz k e
 have b2:a2j B Hm H':=fun z u hz e=>by
  have e':(if z=B then H z else H' z)=some u:=e
  rw [if_neg hz] at e'
  exact e'
 have hm:Hm B=some (.dK kb):=by
  show (if B=B then H B else H' B)=_
  rw [if_pos rfl]; exact hB
 exact (h.dict hL b1).dict hm b2
theorem Lds.live{c:Addr}(h:Lds A H us cs ls)(hc:c∈cs):H c≠none:=by
 obtain⟨i,hi⟩:=Iu hc
 have li:=(Bu.mp hi).1
 obtain⟨l1,l2,f⟩:=h
 obtain⟨q,_,_,dx,pl,sl,os,sts,h1,_⟩:=f i us[i] c ls[i] (By _) hi (By _)
 rw [h1]
 exact fun k=>by cases k
theorem Lea.step{H H':Hp}{q:Addr}{ob:List Str}{b':Str}{cc:Str->List Addr}{us':List V}(h:Lea A H kl ob es cc)(nb:b'∉ob)(hL:H L=some (.dK kl))(hB:H B=some (.dK kb))(ne:L≠B)(K:∀ z u,z≠L->z≠B->H z=some u->H' z=some u)(hq:H' q=some (.lst us'))(cnd:cs.Nodup)(cfr:∀ c∈cs,H c=none)(L16:Lds A H' us' cs (b8t es b')):Lea A H' (putK kl (kT b') (.ref q)) (ob++[b']) es (fun z=>if z=b' then cs else cc z):=by
 have lv:∀ b∈ob,∀ c∈cc b,H c≠none:=fun b hb c hc=>by
  obtain⟨_,q0,us0,_,_,hl⟩:=h.1 b hb
  exact hl.live hc
 refine⟨fun b hb=>?_,fun b hb b2 hb2 c hc hc2=>?_⟩
 .show (if b=b' then cs else cc b).Nodup/\∃ q' us,b9m _ (kT b)=some (.ref q')/\H' q'=some (.lst us)/\Lds A H' us (if b=b' then cs else cc b) (b8t es b)
  by_cases k:b=b'
  .rw [if_pos k,k]
   exact⟨cnd,q,us',by rw [c3u,if_pos rfl],hq,L16⟩
  .rw [if_neg k]
   have m:b∈ob:=(De.mp hb).elim id fun m=>absurd (Dh.mp m) k
   obtain⟨n,q0,us0,hv,hq0,hl⟩:=h.1 b m
   refine⟨n,q0,us0,?_,K _ _ (fun e=>by rw [e,hL] at hq0; cases hq0) (fun e=>by rw [e,hB] at hq0; cases hq0) hq0,hl.two hL hB ne K⟩
   rw [c3u,if_neg (fun e=>k (by cases e; rfl))]
   exact hv
 .replace hc:c∈(if b=b' then cs else cc b):=hc
  replace hc2:c∈(if b2=b' then cs else cc b2):=hc2
  have mo:∀ {z:Str},z∈ob++[b']->z≠b'->z∈ob:=fun hz k=>(De.mp hz).elim id fun m=>absurd (Dh.mp m) k
  by_cases k:b=b'
  .by_cases k2:b2=b'
   .rw [k,k2]
   .rw [if_pos k] at hc
    rw [if_neg k2] at hc2
    exact absurd (cfr c hc) (lv b2 (mo hb2 k2) c hc2)
  .rw [if_neg k] at hc
   by_cases k2:b2=b'
   .rw [if_pos k2] at hc2
    exact absurd (cfr c hc2) (lv b (mo hb k) c hc)
   .rw [if_neg k2] at hc2
    exact h.2 b (mo hb k) b2 (mo hb2 k2) c hc hc2
theorem c1p.ins{A:Ad}{H H':Hp}{N:Addr->Prop}{po o C dx:Addr}{fs:List (Str×V)}{p:Pd}(h:c1p A H N po p)(ho:H o=some (.ins C dx fs))(ne:po≠o)(B:a2j o H H'):c1p A H' N po p:=by
 obtain⟨pdx,t,b,sd,ou,hp,n,d,ht,hb,⟨us,hs,R1⟩,vs,hu,R2⟩:=h
 have kl:∀ {z:Addr} {ys:List V},H z=some (.lst ys)->H' z=some (.lst ys):=fun e=>B _ _ (fun k=>by rw [k,ho] at e; cases e) e
 have kt:∀ {z:Addr} {ys:List V},H z=some (.tup ys)->H' z=some (.tup ys):=fun e=>B _ _ (fun k=>by rw [k,ho] at e; cases e) e
 exact⟨pdx,t,b,sd,ou,B _ _ ne hp,n,d,kl ht,kl hb,⟨us,kl hs,R1.go (fun z vs nz e=>⟨kl e,nz⟩) fun z vs e=>kt e⟩,vs,kl hu,R2.go (fun z vs nz e=>⟨kl e,nz⟩) fun z vs e=>kt e⟩
variable {po:Addr}
theorem c1p.dict{H H':Hp}(h:c1p A H N po p)(ho:H o=some (.dK kvs))(B:a2j o H H'):c1p A H' N po p:=by
 obtain⟨pdx,t,b,sd,ou,hp,n,d,ht,hb,⟨us,hs,R1⟩,vs,hu,R2⟩:=h
 have kl:∀ {z:Addr} {ys:List V},H z=some (.lst ys)->H' z=some (.lst ys):=fun e=>B _ _ (fun k=>by rw [k,ho] at e; cases e) e
 have kt:∀ {z:Addr} {ys:List V},H z=some (.tup ys)->H' z=some (.tup ys):=fun e=>B _ _ (fun k=>by rw [k,ho] at e; cases e) e
 exact⟨pdx,t,b,sd,ou,B _ _ (fun k=>by rw [k,ho] at hp; cases hp) hp,n,d,kl ht,kl hb,⟨us,kl hs,R1.go (fun z vs nz e=>⟨kl e,nz⟩) fun z vs e=>kt e⟩,vs,kl hu,R2.go (fun z vs nz e=>⟨kl e,nz⟩) fun z vs e=>kt e⟩
theorem c1p.two{H H':Hp}(h:c1p A H N po p)(hL:H L=some (.dK kl))(hB:H B=some (.dK kb))(K:∀ z u,z≠L->z≠B->H z=some u->H' z=some u):c1p A H' N po p:=by
 let Hm:Hp:=fun z=>if z=B then H z else H' z
 have b1:a2j L H Hm:=fun z u hz e=>by
  show (if z=B then H z else H' z)=some u
  by_cases k:z=B
  .rw [if_pos k]; exact e
  .rw [if_neg k]; exact K z u hz k e
 have b2:a2j B Hm H':=fun z u hz e=>by
  have e':(if z=B then H z else H' z)=some u:=e
  rw [if_neg hz] at e'
  exact e'
 have hm:Hm B=some (.dK kb):=by
  show (if B=B then H B else H' B)=_
  rw [if_pos rfl]; exact hB
 exact (h.dict hL b1).dict hm b2
theorem j7v(T:Tx K mg A):a1j P A.wd K mg base CX0 13 A.b1y A.a9m ["self","patch"] (k2i A):=by
 have f7r:a1j P A.wd K mg base CX0 1 _ _ _ _:=h9z T
 have g2k:a1j P A.wd K mg base CX0 2 _ _ _ _:=j7t T
 have g2l:a1j P A.wd K mg base CX0 1 _ _ _ _:=i4a T
 have g6b:a1j P A.wd K mg base CX0 1 _ _ _ _:=j0j T
 have f1i:a1j P A.wd K mg base CX0 12 _ _ _ _:=j0l T
 have a3r:=T.a3r
 have a1g:=T.a1g
 have a1i:=T.a1i
 have a2h:=T.a2h
 have a1n:=T.a1n
 have a1m:=T.a1m
 have a1s:=T.a1s
 have a0m:=T.a0m
 have a0o:=T.a0o
 have a0n:=T.a0n
 have a0p:=T.a0p
 refine T.c1i.ok b2s (fun _ _ _ _ h=>g0h h) (fun cdv A' outer s H vs Q E hr h=>?_)
 .walk_at"h"
  walk_at"@i2m h@eo po@czE@edx N p es@cho hP ees eos ok e6 t20 b20 bnd dj rk hes q"
  walk_at"g"
  have hu:=hr.units
  have hs:=szl
  walk_at"@id hP@epdx t0 b0 sd0 ou0@chpo F"
  have npo:po≠o:=fun k=>by rw [k,ho] at hpo; simp [ptF] at hpo
  have ap:∀ {H1:Hp} {z y:Addr} {u:HO},H1 z=none->H1 y=some u->z≠y:=fun n e q=>by rw [q,e] at n; cases n
  unfold ptF at hpo
  refine⟨_,(a0h (sfT K (pvF 0) (a2k (pvF 1) T.a1s T.c2z f7r hr.dn T.f7j .nil a3i))
   (a0h (sfT K (pvF 0) (a2k (pvF 1) T.a1s T.c5r g2k hr.dn T.g1l .nil a3i))
   (a0h (sfT K (pvF 0) d2y)
   (a0h (sfT K (pvF 0) d2y)
   (a0h (sfT K (pvF 0) d2y)
   (a7u (a3s Ck rfl (piT K (pfT K (pvF 0))) (b2r 2 b2s.nd)
   (a0k (c7h (hu1 hu) (pfT K (pvF 0)) (pvF 2) a0j rfl)))
   (a0h (a1t 3 b2s.nd (a2k (pvF 1) T.a1s T.c5q g2l hr.dn T.g1k .nil a3i))
   (a7u (a3s Ck rfl (piT K (pfT K (pvF 0))) (f1u (i:=4) b2s.nd rfl (G3 rfl))
   (a0k (a4p (a4r (pvF 0) T.a3r T.b8n f1i hr.dn T.f1g .nil a3i (a0g (pvF 4) (a0g (g9w (piT K (pvF 3)) (fun _ _ _ _ _=>(a3n (oeT K (by exact hu)) (a0v a2s (pvF 0) a0j) (pvF 5))) (fun _ _ _ _ _=>(pvF 0)) (c5w (sc:=a0l c7j) (N:=["self","patch","track","sends","bus","out"]) rfl rfl (by decide +kernel)) rfl) a0i))))))
   (a0k (a3s Ck rfl (piT K (a2k (pvF 1) T.a1s T.c8j g6b hr.dn T.g5c .nil a3i)) (b2r 5 b2s.nd)
   (a0k a2r))))))))))),?_⟩
  clear hu
  walk_at"rf*"
  refine⟨N,p,hP,by lia,?_⟩
  rintro _ H1 ⟨t,rfl,n1,S1,h1⟩
  have ho1:=S1 _ _ ho
  have k5x:=S1 _ _ hpo
  have ot:=ap n1 ho
  clear hpo
  walk_at"rf*"
  intro H2 B2 h2
  have P2:=(hP.same S1).ins ho1 npo B2
  have h12:=B2 _ _ ot h1
  have hpo2:=B2 _ _ npo k5x
  have B02:a2j o H H2:=fun z u hz e=>B2 _ _ hz (S1 _ _ e)
  clear h1 ho1 k5x
  have rdy:∀ j,j < p.bs.length->p.bs.filter (c3s p.bs (prs p.es) (c9v p.bs (prs p.es) j))≠[]:=fun j hj=>ready rk bnd j hj
  walk_at"rf*"
  walk_at"@P2.pt@et1 b1 s1 T1"
  refine⟨t1,b1,s1,_,_,_,T1,by lia,rdy,?_⟩
  rintro _ H3 ⟨b,rfl,n3,S3,h3⟩
  obtain⟨ob,eob⟩:∃ ob,c9v p.bs (prs p.es) p.bs.length=ob:=⟨_,rfl⟩
  rw [eob] at h3 q
  have fr:∀ {H1:Hp} {z:Addr},a2j o H H1->H1 z=none->z≠o->H z=none:=fun B n nz=>by
   cases e:H _ with
   | none=>rfl
   | some u=>rw [B _ _ nz e] at n; cases n
  have ho3:=S3 _ _ h2
  have ob':=ap n3 h2
  have P3:=P2.same S3
  have h13:=S3 _ _ h12
  clear h2 h12 hpo2
  walk_at"rf*"
  intro H4 B4 h4
  have P4:=P3.ins ho3 npo B4
  have h14:=B4 _ _ ot h13
  have h34:=B4 _ _ ob' h3
  have B04:a2j o H H4:=fun z u hz e=>B4 _ _ hz (S3 _ _ (B02 _ _ hz e))
  clear h3 h13 ho3
  walk_at"rf*"
  refine fun L H5 n5 S5 h5=>?_
  have ho5:=S5 _ _ h4
  have oL:=ap n5 h4
  clear h4
  walk_at"rf*"
  intro H6 B6 h6
  have P6:=(P4.same S5).ins ho5 npo B6
  have h16:=B6 _ _ ot (S5 _ _ h14)
  have h36:=B6 _ _ ob' (S5 _ _ h34)
  have h56:=B6 _ _ oL h5
  have B06:a2j o H H6:=fun z u hz e=>B6 _ _ hz (S5 _ _ (B04 _ _ hz e))
  clear h5 h14 h34 ho5
  walk_at"rf*"
  refine fun B H7 n7 S7 h7=>?_
  have ho7:=S7 _ _ h6
  have oB:=ap n7 h6
  have LB:=ap n7 h56
  clear h6
  walk_at"rf*"
  intro H8 B8 h8
  have P8:=(P6.same S7).ins ho7 npo B8
  have h18:=B8 _ _ ot (S7 _ _ h16)
  have h38:=B8 _ _ ob' (S7 _ _ h36)
  have h58:=B8 _ _ oL (S7 _ _ h56)
  have h78:=B8 _ _ oB h7
  have B08:a2j o H H8:=fun z u hz e=>B8 _ _ hz (S7 _ _ (B06 _ _ hz e))
  clear h7 h16 h36 h56 ho7
  walk_at"rf*"
  refine fun S H9 n9 S9 h9=>?_
  have ho9:=S9 _ _ h8
  have oS:=ap n9 h8
  have LS:=ap n9 h58
  have BS:=ap n9 h78
  clear h8
  walk_at"rf*"
  intro H10 B10 h10
  have P10:=(P8.same S9).ins ho9 npo B10
  have h1t:=B10 _ _ ot (S9 _ _ h18)
  have h1b:=B10 _ _ ob' (S9 _ _ h38)
  have h1L:=B10 _ _ oL (S9 _ _ h58)
  have h1B:=B10 _ _ oB (S9 _ _ h78)
  have h1S:=B10 _ _ oS h9
  have B010:a2j o H H10:=fun z u hz e=>B10 _ _ hz (S9 _ _ (B08 _ _ hz e))
  clear h9 h18 h38 h58 h78 ho9
  obtain⟨Mid5,in5,out5⟩:=g3q (fun Aa H'=>∃ (v2:Option V) (kb:List (Key×V)),Aa = [some (.ref o),some (.ref po),v2,none,none,none]/\a2j B H10 H'/\H' B=some (.dK kb)/\kb.length<=20/\∀ z∈p.ts,b9m kb (kT z)=some (.int 1))
  try walk_at"rf"
  refine⟨Mid5,?_,?_⟩
  .walk_at"rf*"
   refine⟨⟨_,SqL.of h1t⟩,?_⟩
   obtain⟨Pv,pin,pout⟩:=b9o (fun i Aa H'=>∃ (v2:Option V) (kb:List (Key×V)),Aa = [some (.ref o),some (.ref po),v2,none,none,none]/\a2j B H10 H'/\H' B=some (.dK kb)/\kb.length<=i/\∀ z∈p.ts.take i,b9m kb (kT z)=some (.int 1))
   have tB:t≠B:=fun k=>by rw [k,h1B] at h1t; cases h1t
   have oB':o≠B:=oB.symm
   refine a5k (xs:=p.ts.map V.str) Pv (pin _ _ _ ⟨_,[],rfl,(fun z u _ e=>e),h1B,C0 _,fun z hz=>by cases hz⟩) ?_ ?_ ?_
   .intro i O H11 hi hp
    walk_at"@pout _ _ _ hp@ev2 kb@crfl B11 _"
    exact SqL.of (B11 _ _ tB h1t)
   .intro i v O H11 hv hp
    refine i2l fun zV zv=>?_
    walk_at"@pout _ _ _ hp@ev2 kb@crfl B11 h11 kbl hkb"
    rw [C9] at hv
    obtain⟨x,hx,rfl⟩:=C7.mp hv
    have hi:=(Bu.mp hx).1
    have j1f:=B11 _ _ oB' h10
    clear hv hp h10 h1B h1t h1b h1L h1S
    walk_at"rf*"
    refine⟨by lia,fun H12 B12 h12=>pin _ _ _ ⟨_,_,rfl,(fun z u hz e=>B12 _ _ hz (B11 _ _ hz e)),h12,Bz (b6s _ _ _) (by lia),fun z hz=>?_⟩⟩
    rw [Cu,hx] at hz
    rw [c3u]
    rcases De.mp hz with m | m
    .by_cases k:kT z=kT x
     .rw [if_pos k]
     .rw [if_neg k]
      exact hkb z m
    .rw [if_pos (by rw [Dh.mp m])]
   .intro O H11 hp
    walk_at"@pout _ _ _ hp@ev2 kb@crfl B11 h11 kbl hkb"
    rw [Bv] at kbl hkb
    rw [Dg] at hkb
    exact in5 _ _ ⟨_,kb,rfl,B11,h11,by lia,hkb⟩
  intro As H11 hm5
  refine hid fun zN zh=>?_
  walk_at"@out5 _ _ hm5@ev2 kb@crfl B11 h11 kbl hkb"
  clear hm5 in5 out5
  have j1f:=B11 _ _ oB.symm h10
  have k5y:=B11 _ _ (fun k=>by rw [k,h1B] at h1b; cases h1b) h1b
  have k5z:=B11 _ _ (fun k=>by rw [k,h1B] at h1t; cases h1t) h1t
  have k2w:=B11 _ _ LB.symm h1L
  have k6a:=B11 _ _ BS h1S
  have P11:c1p A H11 N po p:=P10.dict h1B B11
  walk_at"@id P11@epd2 t2 b2 s2 u2@ck5u _"
  unfold ptF at k5u
  clear h10 h1B h1t h1b h1L h1S
  walk_at"rf*"
  refine⟨N,p,P11,by rw [ees,Bv]; lia,fun e he=>?_,fun l us H12 n12 S12 h12 R12=>?_⟩
  .rw [ees] at he
   obtain⟨e',he',rfl⟩:=E4.mp he
   show (e'.2.2.map Dt.word).length<=100
   rw [Bv]
   have:=(ok e' he').1
   lia
  have j7i:=S12 _ _ j1f
  have i4c:=S12 _ _ k5y
  have j7w:=S12 _ _ k5z
  have j1h:=S12 _ _ k2w
  have hS12:=S12 _ _ k6a
  have j1i:=S12 _ _ h11
  have P12:=P11.same S12
  clear j1f k5y k5z k2w k6a h11 k5u
  have onl:=fun i b (h:ob[i]? = some b)=>i6a (i:=i) (b:=b) rdy (by rw [eob]; exact h)
  rw [eob] at onl
  have ond:ob.Nodup:=h0z fun i b h=>(onl i b h).2.1
  have oll:ob.length=p.bs.length:=by rw [<- eob]; exact c9j _ rdy
  have R12':RpL H12 (fun _=>True) us ((es.map f8t).map dSd):=by rw [<- ees]; exact R12.mono fun _ _ _=>trivial
  have cl6:∀ k,f8u es (ob.take k)<=6:=fun k=>Bz (g9d es (ond.sublist (Ht _ _))) e6
  obtain⟨Mid7,in7,out7⟩:=g3q (fun Aa H'=>∃ (v4:Option V) (kl kb:List (Key×V)) (cc:Str->List Addr),Aa = [some (.ref o),some (.ref po),v2,some (.ref l),v4,none]/\(∀ z u,z≠L->z≠B->H12 z=some u->H' z=some u)/\H' L=some (.dK kl)/\H' B=some (.dK kb)/\(∀ z∈p.ts++ob,b9m kb (kT z)=some (.int (d3i es ob z)))/\Lea A H' kl ob es cc)
  walk_at"rf"
  refine⟨Mid7,?_,?_⟩
  .walk_at"rf*"
   refine⟨⟨_,SqL.of i4c⟩,?_⟩
   obtain⟨Pv,pin,pout⟩:=b9o (fun i Aa H'=>∃ (v4:Option V) (kl kb:List (Key×V)) (cc:Str->List Addr),Aa = [some (.ref o),some (.ref po),v2,some (.ref l),v4,none]/\(∀ z u,z≠L->z≠B->H12 z=some u->H' z=some u)/\H' L=some (.dK kl)/\H' B=some (.dK kb)/\kl.length<=i/\kb.length<=20+i/\(∀ z∈p.ts++ob.take i,b9m kb (kT z)=some (.int (d3i es (ob.take i) z)))/\Lea A H' kl (ob.take i) es cc)
   have nl:∀ {z:Addr} {ys:List V},H12 z=some (.lst ys)->z≠L/\z≠B:=fun e=>⟨(fun k=>by rw [k,j1h] at e; cases e),fun k=>by rw [k,j1i] at e; cases e⟩
   have nt:∀ {z:Addr} {ys:List V},H12 z=some (.tup ys)->z≠L/\z≠B:=fun e=>⟨(fun k=>by rw [k,j1h] at e; cases e),fun k=>by rw [k,j1i] at e; cases e⟩
   refine a5k (xs:=ob.map V.str) Pv (pin _ _ _ ⟨_,[],kb,fun _=>[],rfl,(fun z u _ _ e=>e),j1h,j1i,C0 _,kbl,(fun z hz=>by rw [Kq,Jc] at hz; exact hkb z hz),(fun b hb=>by cases hb),fun b hb=>by cases hb⟩) ?_ ?_ ?_
   .intro i O H13 hi hp
    walk_at"@pout _ _ _ hp@ev4 kl kb cc@crfl K13 _"
    exact SqL.of (K13 _ _ (nl i4c).1 (nl i4c).2 i4c)
   .intro i v O H13 hv hp
    refine i2l fun zV zv=>?_
    walk_at"@pout _ _ _ hp@ev4 kl kb cc@crfl K13 hL13 hB13 kll kbl' hv13 hle"
    rw [C9] at hv
    obtain⟨b',hb',rfl⟩:=C7.mp hv
    have hi:=(Bu.mp hb').1
    obtain⟨ob1,ob2,ob3⟩:=onl i b' hb'
    have ho13:=K13 _ _ oL.symm oB.symm j7i
    have k6b:=K13 _ _ (nl h12).1 (nl h12).2 h12
    have R13:RpL H13 (fun _=>True) us ((es.map f8t).map dSd):=R12'.go (fun z vs _ e=>⟨K13 _ _ (nl e).1 (nl e).2 e,trivial⟩) fun z vs e=>K13 _ _ (nt e).1 (nt e).2 e
    clear hv hp
    walk_at"rf*"
    refine⟨⟨_,SqL.of k6b⟩,fun D H14 n14 S14 h14=>?_⟩
    have ul:us.length=es.length:=by rw [R13.j1b,Bv]
    refine d5p (xs:=us) (g8o H13 b') id n14 S14 h14 (SqL.of k6b) (by lia) ?_ ?_ ?_
    .intro j x H' Q' hx S' q'
     walk_at"@R13.at3 hx@ee' pe lw@che rfl hpe _ hlw"
     have hp':=S' _ _ hpe
     have eg:g8o H13 b' (.ref pe)=decide (e'.2.1=b'):=by simp only [g8o,hpe]
     rw [eg] at q'
     clear hx hpe hlw
     walk_at"rf*"
    .intro j x H' Q' hx hp S' q'
     walk_at"rf"
     exact q'
    .intro H15 S15 h15
     rw [List.map_id] at h15
     walk_at"rf"
     have K15:∀ z u,H13 z=some u->H15 z=some u:=S15
     have R15:RpL H15 (fun _=>True) (us.filter (g8o H13 b')) (((es.filter fun e=>decide (e.2.1=b')).map f8t).map dSd):=(RpL.goal b' R13).same S15
     have bo:=g2j ok _ (ob.take i) rfl
     have c1:f8u es (ob.take (i+1))=f8u es (ob.take i)+(b8t es b').length:=by rw [Cu,hb']; exact g5z _ _ _
     have c2:=cl6 (i+1)
     have p6:100*2 ^ f8u es (ob.take (i+1))<=100*2 ^ 6:=Gq _ (Ej (by decide) c2)
     have bst:=g6a (b8t es b').length (f8u es (ob.take i))
     rw [<- c1] at bst
     have fl:(es.filter fun e=>decide (e.2.1=b')).length=(b8t es b').length:=by unfold b8t; rw [Bv]
     have fle:=Hl (fun e:Sq=>decide (e.2.1=b')) es
     refine⟨dx,t,b,L,B,S,S15 _ _ ho13,kl,S15 _ _ hL13,kb,S15 _ _ hB13,LB.symm,d3i es (ob.take i),us.filter (g8o H13 b'),h15,es.filter fun e=>decide (e.2.1=b'),R15,fun e he=>ok e (Fy.mp he).1,by lia,by lia,by lia,100*2 ^ f8u es (ob.take i),fun e he=>?_,by rw [fl]; lia,fun q' us' cs H16 K16 hL16 hB16 nq hq cnd cfr L16=>?_⟩
     .obtain⟨he1,he2⟩:=Fy.mp he
      rw [decide_eq_true_eq] at he2
      refine⟨hv13 e.1 ?_,bo e.1⟩
      rcases (hes e he1).1 with m | m
      .exact Dp _ m
      .refine Cj _ (ob3 (e.1,e.2.1) ?_ he2 m)
       rw [ees]
       exact E4.mpr ⟨f8t e,Kl he1,rfl⟩
     .have tk:ob.take (i+1)=ob.take i++[b']:=by rw [Cu,hb']; rfl
      have K36:∀ z u,z≠L->z≠B->H13 z=some u->H16 z=some u:=fun z u n1 n2 e=>K16 z u n1 n2 (S15 _ _ e)
      refine pin _ _ _ ⟨_,_,_,_,rfl,(fun z u n1 n2 e=>K36 z u n1 n2 (K13 z u n1 n2 e)),hL16,hB16,Bz (b6s _ _ _) (by lia),Bz (b6s _ _ _) (by lia),fun z hz=>?_,by rw [tk]; exact hle.step ob2 hL13 hB13 LB.symm K36 hq cnd (fun c hc=>S15.free (cfr c hc)) L16⟩
      rw [tk,f6n,c3u]
      unfold j6q
      by_cases k:z=b'
      .rw [if_pos (by rw [k]),if_pos k,b8t,Hv]
       rfl
      .rw [if_neg (fun e=>k (by cases e; rfl)),if_neg k]
       refine hv13 z ?_
       rw [tk] at hz
       rcases De.mp hz with m | m
       .exact Dp _ m
       .exact Cj _ ((De.mp m).elim id fun m=>absurd (Dh.mp m) k)
   .intro O H13 hp
    walk_at"@pout _ _ _ hp@ev4 kl kb cc@crfl K13 hL13 hB13 kll kbl' hv13 hle"
    rw [Bv,Dg] at hv13 hle
    exact in7 _ _ ⟨_,kl,kb,cc,rfl,K13,hL13,hB13,hv13,hle⟩
  intro Aj H13 hm7
  refine hid fun zN zh=>?_
  walk_at"@out7 _ _ hm7@ev4 kl kb' cc@crfl K13 hL13 hB13 hv13 hle"
  clear hm7 in7 out7
  have P13:c1p A H13 N po p:=P12.two j1h j1i K13
  walk_at"@id P13@epd3 t3 b3 s3 u3@chp13 _"
  unfold ptF at hp13
  walk_at"rf*"
  refine⟨N,p,P13,by rw [eos]; decide,fun l14 us14 H14 n14 S14 h14 R14=>?_⟩
  rw [eos] at R14
  replace R14:RpL H14 _ us14 []:=R14
  cases R14
  refine⟨⟨_,SqL.of h14⟩,a5k (xs:=[]) (fun _ _ H'=>H'=H14) rfl (fun i O H' _ e=>by rw [e]; exact SqL.of h14) (fun i x O H' hx _=>by cases hx) fun O H' e=>?_⟩
  rw [e]
  have fL:H L=none:=fr B04 n5 oL
  have fB:H B=none:=fr B06 n7 oB
  have K14:∀ z u,z≠L->z≠B->H12 z=some u->H14 z=some u:=fun z u n1 n2 e=>S14 _ _ (K13 z u n1 n2 e)
  have bL:b≠L/\b≠B:=⟨(fun k=>by rw [k,j1h] at i4c; cases i4c),fun k=>by rw [k,j1i] at i4c; cases i4c⟩
  have tL:t≠L/\t≠B:=⟨(fun k=>by rw [k,j1h] at j7w; cases j7w),fun k=>by rw [k,j1i] at j7w; cases j7w⟩
  refine q H14 (fun z u hz e=>K14 z u (fun k=>by rw [k,fL] at e; cases e) (fun k=>by rw [k,fB] at e; cases e) (S12 _ _ (B11 _ _ (fun k=>by rw [k,fB] at e; cases e) (B010 _ _ hz e)))) ⟨dx,t,b,L,B,S,kl,kb',cc,K14 _ _ oL.symm oB.symm j7i,K14 _ _ tL.1 tL.2 j7w,K14 _ _ bL.1 bL.2 i4c,S14 _ _ hL13,S14 _ _ hB13,K14 _ _ LS BS hS12,hv13,?_⟩
  exact⟨fun b hb=>(hle.1 b hb).imp id fun⟨q,us,h1,h2,h3⟩=>⟨q,us,h1,S14 _ _ h2,h3.same S14⟩,hle.2⟩
theorem j7x(T:Tx K mg A):a1j P A.wd K mg base CX0 2 A.b7v A.b7w ["value"] k2j:=by
 have d3j:a1j P A.wd K mg base CX0 1 _ _ _ _:=f5o T
 refine T.c6s.ok g7n (fun _ _ _ _ h=>d3p h) (fun cdv A' outer s H vs Q E hr h=>?_)
 .walk_at"h"
  obtain⟨l,zE,⟨xs,hl,⟨l9,hx⟩,q⟩⟩:=g7g h
  walk_at"g"
  have hu:=hr.units
  have hs:=szl
  refine⟨_,(a0k (a0w (g6w (a3p (c3v .lst) T.a7r Fp (a0g (pvF 0) (a0g (c9w (v:=.ty "list") (u:=.type "list") (by rfl) T.d2k rfl rfl) a0i))) (h4p (a3p (g4d rfl) T.j5t boot_all (a0g (b6t (piT K (pvF 0)) (fun _ _ _ _ _=>(g6w (a2m d3j hr.dn T.d8o T.b8p.kp T.d8n (a0g (pvF 0) a0i)) (h4p (g6o of_le (a3p c2k T.g8m Kk (a0g (pvF 0) a0i)) (a6y (v:=.int 1000000000000) (by rfl) T.g5d T.d1y) (h5a _))))) (c5w (sc:=a0l d7l) (N:=["value"]) rfl rfl (by decide +kernel)) rfl) a0i)))))),?_⟩
  clear hu
  walk_at"rd*"
  refine⟨⟨_,SqL.of hl⟩,fun D H2 n2 S2 h2=>?_⟩
  refine f9z ((xs.map fun _=>true).map V.bl) (by rw [Bv,Bv,Bv]) n2 S2 h2 (SqL.of hl) (by rw [Bv]; lia) ?_ ?_
  .intro i v z H' Q' hv hz S' q'
   rw [C9] at hv
   obtain⟨x,hi,rfl⟩:=C7.mp hv
   rw [C9,C9,hi] at hz
   cases hz
   have b:=hx x (Ca hi)
   have d:decide (((x.natAbs:Nat):Int)<=1000000000000)=true:=decide_eq_true (by lia)
   clear hv
   walk_at"rd*"
  intro H3 S3 h3
  walk_at"rd*"
  refine⟨_,rfl,?_⟩
  have e:(xs.map fun _=>true).all id=true:=Fv.mpr fun y hy=>by obtain⟨_,_,rfl⟩:=E4.mp hy; rfl
  rw [e]
  exact q H3 S3
theorem j7y(T:Tx K mg A):a1j P A.wd K mg base CX0 3 A.a2y A.a2t ["self","blocks"] (k2k A):=by
 have h4d:a1j P A.wd K mg base CX0 2 _ _ _ _:=j7x T
 have a3r:=T.a3r
 have a1g:=T.a1g
 have a1i:=T.a1i
 have a2h:=T.a2h
 have a1n:=T.a1n
 have a1m:=T.a1m
 refine T.a6n.ok b6r (fun _ _ _ _ h=>g0h h) (fun cdv A' outer s H vs Q E hr h=>?_)
 .walk_at"h"
  walk_at"@i2m h@eo d@czE@ets ob es kvs f n@chE hd kl t20 hF q"
  walk_at"g"
  have hu:=hr.units
  have hs:=szl
  walk_at"@id hE@edx t b L B S kb1 kb2 cc@cho ht hb hL hB hS hbo hle"
  unfold enF at ho
  refine⟨_,(a0h (a5j (pw_or (c9k (b3l (a3p (c3v .dct) T.a7r Fp (a0g (pvF 1) (a0g (c9w (v:=.ty "dict") (u:=.type "dict") (by rfl) T.j5v rfl rfl) a0i))))) (pw_or1 (a3n (onT K hu) (a3p h2m T.b0w Dq (a0g (pvF 1) a0i)) (a3p a1q T.b0w Dq (a0g (pfT K (pvF 0)) a0i))))).pt
   (a0k a2r)
   a1u)
   (a0k (a3s Ck rfl (piT K (pfT K (pvF 0))) (b2r 2 b6r.nd)
   (a0h (a5j (h7e (f8h (hu1 hu) (pvF 2) (pvF 1)) (by rfl))
   (a0k a2r)
   a1u)
   (a0h (a5j (c9k (b3l (a2m h4d hr.dn T.h3f T.c6s.kp T.h3e (a0g (a6w (hu1 hu) (pvF 1) (pvF 2) (fun _ _=>rfl)) a0i))))
   (a0k a2r)
   a1u)
   (a0k (a5j (a3n (onT K hu) (a3p a1q T.b0w Dq (a0g (a6w (hu1 hu) (pvF 1) (pvF 2) (fun _ _=>rfl)) a0i)) (a3p a1q T.b0w Dq (a0g (a6w (hu1 hu) (pvF 1) (a0v a2s (pfT K (pvF 0)) a0j) (fun _ _=>rfl)) a0i)))
   (a0k a2r)
   a1u))))))),?_⟩
  clear hu
  walk_at"rf*"
  refine⟨⟨_,SqL.of ht⟩,?_⟩
  obtain⟨Pv,pin,pout⟩:=b9o (fun _ Aa H'=>∃ v:Option V,Aa = [some (.ref o),some (.ref d),v]/\Same H H')
  refine a5k (xs:=ts.map V.str) Pv (pin _ _ _ ⟨_,rfl,Same.refl _⟩) ?_ ?_ ?_
  .intro i O H1 hi hp
   obtain⟨v,rfl,S1⟩:=pout _ _ _ hp
   exact SqL.of (S1 _ _ ht)
  .intro i v O H1 hv hp
   refine i2l fun zV zv=>?_
   obtain⟨v2,rfl,S1⟩:=pout _ _ _ hp
   rw [C9] at hv
   obtain⟨x,hi,rfl⟩:=C7.mp hv
   obtain⟨lx,vx,hlx,bx,nx⟩:=hF x (Ca hi)
   obtain⟨t0,ts',ets⟩:∃ t0 ts',ts=t0 :: ts':=by
    cases ts with
    | nil=>cases hi
    | cons a b=>exact⟨a,b,rfl⟩
   obtain⟨l0,v0,hl0,b0,n0⟩:=hF t0 (by rw [ets]; exact Ce)
   have ht1:H1 t=some (.lst (V.str t0 :: ts'.map V.str)):=by rw [S1 _ _ ht,ets]; rfl
   have ho1:=S1 _ _ ho
   have hd1:=S1 _ _ hd
   have hx1:=S1 _ _ hlx
   have h01:=S1 _ _ hl0
   clear hv hp ht ho hd hlx hl0 hb hL hB hS
   walk_at"rs*"
   rw [if_neg (fun e=>by cases e)]
   refine⟨f x,rfl,bx,fun H2 S2=>?_⟩
   have ht2:=S2 _ _ ht1
   have ho2:=S2 _ _ ho1
   have hd2:=S2 _ _ hd1
   have hx2:=S2 _ _ hx1
   have h02:=S2 _ _ h01
   have S02:=S1.trans S2
   have ne:((f x).length:Int)=((f t0).length:Int):=by rw [nx,n0]
   have fin:=pin (i+1) _ _ ⟨some (V.str x),rfl,S02⟩
   clear ht1 ho1 hd1 hx1 h01
   walk_at"rf*"
  .intro O H1 hp
   obtain⟨v,rfl,S1⟩:=pout _ _ _ hp
   exact q H1 S1
theorem i0c(a b:Int)(X Y:Int->Int)(i:Int):∀ L:List ((Int->Int)×Nat),tap L (fun j=>a*X j+b*Y j) i=a*tap L X i+b*tap L Y i
 | []=>by show (0:Int)=a*0+b*0; lia
 | c :: L=>by
  rw [f1r,f1r,f1r,i0c a b X Y i L]
  grind
theorem g2m{a b:List Int}(h:a.length=b.length)(i:Int):d3h (f5k a b) i=d3h a i+d3h b i:=by
 unfold d3h
 split
 .rfl
 .by_cases hi:i.toNat < max a.length b.length
  .rw [g1u hi]
  .rw [C3,C3,C3,Dz (by rw [c4z]; omega),Dz (by omega),Dz (by omega)]
   rfl
theorem g2n(xs:List Int)(c i:Int):d3h (xs.map (· * c)) i=d3h xs i*c:=by
 unfold d3h
 split
 .exact (La c).symm
 .exact c6y xs c _
theorem j0m(n i:Nat):(D0 n (0:Int)).getD i 0=0:=by
 rw [C3,Mw]
 split <;> rfl
theorem i4d(n:Nat)(i:Int):d3h (D0 n 0) i=0:=by
 unfold d3h
 split
 .rfl
 .exact j0m n _
theorem i4e(xs:List Int)(i:Nat):d3h xs (i:Int)=xs.getD i 0:=by
 unfold d3h
 rw [if_neg (by lia)]
 rfl
section
variable {n:Nat}{a b:Int}{F G R F' G' R':List Int}
theorem Lin.zero:Lin n a b (D0 n 0) (D0 n 0) (D0 n 0):=by
 refine⟨Gu,Gu,Gu,fun i _=>?_⟩
 rw [i4d]
 lia
theorem Lin.add(h:Lin n a b F G R)(h':Lin n a b F' G' R'):Lin n a b (f5k F F') (f5k G G') (f5k R R'):=by
 refine⟨by rw [c4z,h.1,h'.1,L8],by rw [c4z,h.2.1,h'.2.1,L8],by rw [c4z,h.2.2.1,h'.2.2.1,L8],fun i hi=>?_⟩
 rw [g2m (by rw [h.2.2.1,h'.2.2.1]),g2m (by rw [h.1,h'.1]),g2m (by rw [h.2.1,h'.2.1]),h.2.2.2 i hi,h'.2.2.2 i hi]
 grind
theorem Lin.mul(c:Int)(h:Lin n a b F G R):Lin n a b (F.map (· * c)) (G.map (· * c)) (R.map (· * c)):=by
 refine⟨by rw [Bv,h.1],by rw [Bv,h.2.1],by rw [Bv,h.2.2.1],fun i hi=>?_⟩
 rw [g2n,g2n,g2n,h.2.2.2 i hi]
 grind
theorem Lin.outs(d:Dt)(h:Lin n a b F G R):Lin n a b (outs d [] F) (outs d [] G) (outs d [] R):=by
 refine⟨by rw [a5t,h.1],by rw [a5t,h.2.1],by rw [a5t,h.2.2.1],fun i hi=>?_⟩
 rw [g2g _ _ (by rw [h.2.2.1]; exact hi),g2g _ _ (by rw [h.1]; exact hi),g2g _ _ (by rw [h.2.1]; exact hi),<- i0c]
 exact g5n fun j hj=>h.2.2.2 j (by lia)
end
theorem Lin.blk{n:Nat}{a b:Int}:∀ (ds:List Dt) {F G R:List Int},Lin n a b F G R->Lin n a b (blk ds [] F) (blk ds [] G) (blk ds [] R)
 | [],_,_,_,h=>h
 | d :: ds,_,_,_,h=>Lin.blk ds (h.outs d)
variable {F:Str->List Int}
theorem Lin.flow{a b:Int}{G R:Str->List Int}(h:∀ z,Lin n a b (F z) (G z) (R z))(g:Str->Int)(B:Int)(ls:List Ld):Lin n a b (c6v ls F g B n) (c6v ls G g B n) (c6v ls R g B n):=by
 unfold c6v
 have key:∀ (ls:List Ld) {x y z:List Int},Lin n a b x y z->Lin n a b (ls.foldl (fun acc l=>f5k acc ((My.blk l.2 [] (F l.1)).map (· * B.fdiv (a6o (g l.1) l.2)))) x) (ls.foldl (fun acc l=>f5k acc ((My.blk l.2 [] (G l.1)).map (· * B.fdiv (a6o (g l.1) l.2)))) y) (ls.foldl (fun acc l=>f5k acc ((My.blk l.2 [] (R l.1)).map (· * B.fdiv (a6o (g l.1) l.2)))) z):=by
  intro ls
  induction ls with
  | nil=>exact fun h=>h
  | cons l ls ih=>exact fun h'=>ih (h'.add (((h l.1).blk l.2).mul _))
 exact key ls Lin.zero
theorem Lin.flw{n:Nat}{a b:Int}(es:List Sq)(g:Str->Int):∀ (ob:List Str) {F G R:Str->List Int},(∀ z,Lin n a b (F z) (G z) (R z))->∀ z,Lin n a b (flw es g n F ob z) (flw es g n G ob z) (flw es g n R ob z)
 | [],_,_,_,h=>h
 | o :: ob,F,G,R,h=>by
  refine Lin.flw es g ob (F:=flS es g n F o) (G:=flS es g n G o) (R:=flS es g n R o) fun z=>?_
  unfold flS
  by_cases e:z=o
  .simp only [if_pos e]
   exact Lin.flow h g (g o) _
  .simp only [if_neg e]
   exact h z
theorem i0d{a b:List Int}{m k:Nat}(ha:∀ y∈a,intBits y<=m)(hb:∀ y∈b,intBits y<=k)(h1:1<=m)(h2:1<=k):∀ y∈f5k a b,intBits y<=max m k+1:=by
 intro y hy
 unfold f5k at hy
 obtain⟨i,_,rfl⟩:=E4.mp hy
 have g:∀ {c:List Int} {r:Nat},1<=r->(∀ y∈c,intBits y<=r)->intBits (c.getD i 0)<=r:=fun {c r} hr h=>by
  rw [C3]
  cases e:c[i]? with
  | none=>exact Bz (by decide:intBits 0<=1) hr
  | some y=>exact h y (Ca e)
 exact Ff (g h1 ha) (g h2 hb)
theorem i0e(ds:List Dt)(b:List Int):blk ds [] b=run ds b:=by
 have:=g2c ds [] b
 rw [g8y,Ex,Ex] at this
 exact this.symm
variable {g:Str->Int}
theorem i0f{B:Int}{n Bf Bb:Nat}(ok:∀ l∈ls,l.2.length<=2/\∀ d∈l.2,okF d)(hF:∀ l∈ls,∀ y∈F l.1,intBits y<=Bf)(h1:1<=Bf)(hB:intBits B<=Bb):∀ y∈c6v ls F g B n,intBits y<=Bf+400+Bb+ls.length:=by
 unfold c6v
 have key:∀ (ls':List Ld) (a:List Int) (m:Nat),(∀ l∈ls',l∈ls)->Bf+400+Bb<=m->(∀ y∈a,intBits y<=m)->∀ y∈ls'.foldl (fun acc l=>f5k acc ((blk l.2 [] (F l.1)).map (· * B.fdiv (a6o (g l.1) l.2)))) a,intBits y<=m+ls'.length:=by
  intro ls'
  induction ls' with
  | nil=>exact fun a m _ _ ha=>ha
  | cons l ls' ih =>
   intro a m sub hm ha
   have hl:=sub l Ce
   have:=ih (f5k a ((blk l.2 [] (F l.1)).map (· * B.fdiv (a6o (g l.1) l.2)))) (m+1) (fun x hx=>sub x (Ci _ hx)) (by lia) fun y hy=>by
    refine Bz (i0d (k:=m) ha (fun y hy=>?_) (by lia) (by lia) y hy) (by lia)
    obtain⟨x,hx,rfl⟩:=E4.mp hy
    rw [i0e] at hx
    have b1:=d6v h1 (ok l hl).2 (hF l hl) x hx
    have b2:=(ok l hl).1
    have:=Cn b1 (Fo (y:=a6o (g l.1) l.2) hB)
    lia
   intro y hy
   have:=this y hy
   rw [Cq]
   lia
 refine key ls _ _ (fun l hl=>hl) (C0 _) fun y hy=>?_
 rw [(Ov.mp hy).2]
 exact Bz (by decide:intBits 0<=1) (by lia)
theorem ChS.other{H H':Hp}{pl sl:Addr}(h:ChS A H o ds xs)(hZ:H Z=some (.ins A.a7o dx (chF pl sl)))(ne:o≠Z)(B:a2j Z H H'):ChS A H' o ds xs:=by
 walk_at"@h@edx' pl' sl' os sts@ch1 h2 h3 h4 h5"; clear h
 have lk:Lk H Z:=Lk.ins hZ (.inr (.inr ⟨_,_,rfl⟩))
 exact⟨dx',pl',sl',os,sts,B _ _ ne h1,B _ _ (fun e=>by rw [e,hZ] at h2; cases h2) h2,B _ _ (fun e=>by rw [e,hZ] at h3; cases h3) h3,h4.b5q lk B,h5.b5q lk B⟩
theorem ChS.but:∀ (cs:List Addr) {H H':Hp},ChS A H o ds xs->o∉cs->ChI A H cs->Out cs H H'->ChS A H' o ds xs
 | [],_,_,h,_,_,K=>h.same fun z u e=>K z u (fun m=>by cases m) e
 | c :: cs,H,H',h,n,hc,K=>by
  by_cases k:c∈cs
  .exact ChS.but cs h (fun m=>n (Ci _ m)) (fun c hm=>hc c (Ci _ hm)) fun z u hz e=>K z u (fun m=>(Db.mp m).elim (fun q=>hz (q▸k)) hz) e
  .obtain⟨dx,pl,sl,hc0⟩:=hc c Ce
   have ne:o≠c:=fun e=>n (e▸Ce)
   have b1:a2j c H (fun z=>if z=c then H' z else H z):=fun z u hz e=>by
    show (if z=c then H' z else H z)=some u
    rw [if_neg hz]; exact e
   refine ChS.but cs (h.other hc0 ne b1) (fun m=>n (Ci _ m)) (fun c' hm=>?_) fun z u hz e=>?_
   .show ∃ dx pl sl,(if c'=c then H' c' else H c')=_
    rw [if_neg (fun q:c'=c=>k (by rw [<- q]; exact hm))]
    exact hc c' (Ci _ hm)
   .have e':(if z=c then H' z else H z)=some u:=e
    by_cases q:z=c
    .rw [if_pos q] at e'
     exact e'
    .rw [if_neg q] at e'
     exact K z u (fun m=>(Db.mp m).elim q hz) e'
theorem Lds.chi(h:Lds A H us cs ls):ChI A H cs:=fun c hc=>by
 obtain⟨i,hi⟩:=Iu hc
 have li:=(Bu.mp hi).1
 obtain⟨l1,l2,f⟩:=h
 obtain⟨q,_,_,dx,pl,sl,os,sts,h1,_⟩:=f i us[i] c ls[i] (By _) hi (By _)
 exact⟨dx,pl,sl,h1⟩
theorem ChI.no{z:Addr}{u:HO}(h:ChI A H cs)(hz:H z=some u)(n:∀ dx pl sl,u≠.ins A.a7o dx (chF pl sl)):z∉cs:=fun m=>by
 walk_at"@h z m@edx pl sl e"
 rw [hz] at e
 exact n _ _ _ (E8 e)
theorem Lds.but{H H':Hp}{cs':List Addr}(h:Lds A H us cs ls)(hc:ChI A H cs')(dj:∀ c,c∈cs->c∉cs')(K:Out cs' H H'):Lds A H' us cs ls:=⟨h.1,h.2.1,fun i u c l e1 e2 e3=>(h.2.2 i u c l e1 e2 e3).elim fun q z=>⟨q,z.1,K _ _ (hc.no z.2.1 fun _ _ _ e=>by cases e) z.2.1,z.2.2.but cs' (dj c (Ca e2)) hc K⟩⟩
theorem g6c(ls:List Ld)(l:Ld)(F:Str->List Int)(g:Str->Int)(B:Int)(n:Nat):c6v (ls++[l]) F g B n=f5k (c6v ls F g B n) ((blk l.2 [] (F l.1)).map (· * B.fdiv (a6o (g l.1) l.2))):=by
 unfold c6v
 rw [Jy]
 rfl
theorem g2o{F:Str->List Int}{g:Str->Int}{B:Int}{n:Nat}:∀ (k:Nat) (ls:List Ld),ls.length=k->(∀ l∈ls,(F l.1).length=n)->(c6v ls F g B n).length=n
 | 0,ls,hl,_=>by
  obtain rfl:=Fh.mp hl
  exact Gu
 | k+1,ls,hl,h=>by
  obtain⟨cs,c,rfl⟩:∃ cs c,ls=cs++[c]:=by
   rcases Ii ls with e | ⟨cs,c,e⟩
   .rw [e] at hl; cases hl
   .exact⟨cs,c,by rw [e,Ij]⟩
  rw [C1,Cw] at hl
  rw [g6c,c4z,g2o k cs (by lia) fun l hl=>h l (Dp _ hl),Bv,g2b,h c (Cj _ Ce),L8]
theorem f9j:∀ {ds:List Dt} {b:Int},(∀ d∈ds,okF d)->1<=b->1<=a6o b ds
 | [],b,_,h=>h
 | d :: ds,b,ok,h=>by
  have p:1<=a8n d:=by
   have dn:∀ y:Rat,1<=(y.den:Int):=fun y=>by have:=y.den_pos; lia
   cases d with
   | gain y=>exact dn y
   | echo y n t=>exact Int.pow_pos (dn y)
   | back y n=>exact dn y
   | swell cs=>exact (g2d (ok _ Ce).1 (ok _ Ce).2).1
   | _=>show (1:Int)<=1; decide
  exact f9j (ds:=ds) (b:=b*a8n d) (fun d hd=>ok d (Ci _ hd)) (K1 (by lia) (by lia))
theorem j0n(T:Tx K mg A):a1j P A.wd K mg base CX0 5 A.a6k A.a5h ["self","bus","flows","length"] (j6s A):=by
 have f6o:a1j P A.wd K mg base CX0 4 _ _ _ _:=j0f T
 have g9e:a1j P A.wd K mg base CX0 2 _ _ _ _:=i4b T
 have c0h:a1j P A.wd K mg base CX0 1 _ _ _ _:=g1v T
 have a3r:=T.a3r
 have a1g:=T.a1g
 have a1i:=T.a1i
 have a2h:=T.a2h
 have a1n:=T.a1n
 have a1m:=T.a1m
 have a4u:=T.a4u
 have a2g:=T.a2g
 have a1r:=T.a1r
 refine T.b3h.ok a3t (fun _ _ _ _ h=>i8p h) (fun cdv A' outer s H vs Q E hr h=>?_)
 .walk_at"h"
  obtain⟨o,b,d,n,zE,⟨dx,t,bo,L,B,S,kl,kb,kf,q,us,cs,ls,g,F,bt,m,em,ho,hL,hB,hd,vb,vl,hq,LD,cnd,m1,bb,hl,fin⟩⟩:=h7o h
  walk_at"g"
  subst em
  have hu:=hr.units
  have hs:=szl
  unfold enF at ho
  refine⟨_,(a0h (a1t 4 a3t.nd (a6w (hu1 hu) (pfT K (pvF 0)) (pvF 1) (fun _ _=>rfl)))
   (a0h (a1t 5 a3t.nd (a0t a2l (a4q (a0g a0j a0i)) (pvF 3)))
   (a0h (a3s Ck rfl (piT K (a6w (hu1 hu) (pfT K (pvF 0)) (pvF 1) (fun _ _=>rfl))) (d7h (n:=2) rfl (a8s (b2r 6 a3t.nd) (a8s (b2r 7 a3t.nd) d2z)))
   (a0h (a1t 8 a3t.nd (a4r (pvF 7) T.a4u T.c0p f6o hr.dn T.f4z .nil a3i (a0g (a0v a2s (a6w (hu1 hu) (pvF 2) (pvF 6) (fun _ _=>rfl)) a0j) (a0g (a0v a2s (a6w (hu1 hu) (pvF 2) (pvF 6) (fun _ _=>rfl)) a0j) a0i))))
   (a0k (a1t 5 a3t.nd (a2m c0h hr.dn T.d2g T.b0s.kp T.d1z (a0g (pvF 5) (a0g (a2m g9e hr.dn T.g8f T.c3i.kp T.g8e (a0g (pvF 8) (a0g (pvF 4) a0i))) a0i)))))))
   (a0k (a0w (a6z (a0g (pvF 5) (a0g (pvF 4) a0i)))))))),?_⟩
  clear hu
  walk_at"rf*"
  intro a0 H1 n1 S1 h1
  walk_at"rf*"
  refine⟨by lia,by lia,by lia,fun a1 H2 n2 S2 h2=>?_⟩
  rw [Dy,i1p] at h2
  have S02:=S1.trans S2
  have ho2:=S02 _ _ ho
  have hL2:=S02 _ _ hL
  have hd2:=S02 _ _ hd
  have hq2:=S02 _ _ hq
  have LD2:=LD.same S02
  clear h1 ho hL hB hd hq
  walk_at"rf*"
  refine⟨⟨_,SqL.of hq2⟩,?_⟩
  have ci:=LD2.chi
  obtain⟨Pv,pin,pout⟩:=b9o (fun i Aa H'=>∃ (a:Addr) (v6 v7 v8:Option V),Aa = [some (.ref o),some (.str b),some (.ref d),some (.int (m:Int)),some (.int bt),some (.ref a),v6,v7,v8]/\Out (cs.take i) H2 H'/\(∀ z,H' z=none->H z=none)/\H a=none/\H' a=some (.lst ((c6v (ls.take i) F g bt m).map V.int)))
  have nq:q∉cs:=ci.no hq2 fun _ _ _ e=>by cases e
  have ul:=LD2.1
  have cl:=LD2.2.1
  refine a5k (xs:=us) Pv (pin _ _ _ ⟨a1,_,_,_,rfl,(fun z u _ e=>e),(fun z e=>S02.free e),S1.free n2,h2⟩) ?_ ?_ ?_
  .intro i O H3 hi hp
   walk_at"@pout _ _ _ hp@ea v6 v7 v8@crfl K3 _"
   exact SqL.of (K3 _ _ (fun k=>nq (Eu k)) hq2)
  .intro i v O H3 hv hp
   refine i2l fun zV zv=>?_
   walk_at"@pout _ _ _ hp@ea v6 v7 v8@crfl K3 N3 na ha"
   have hi:=(Bu.mp hv).1
   obtain⟨c,hc⟩:∃ c,cs[i]? = some c:=⟨_,By (by lia)⟩
   obtain⟨l,hli⟩:∃ l,ls[i]? = some l:=⟨_,By (by lia)⟩
   obtain⟨pq,rfl,hpq,hch⟩:=LD2.2.2 i v c l hv hc hli
   have ml:=Ca hli
   walk_at"@hl l ml@cl2 okl fl fb g1 gb@epr lo@cvf hpr hlo"
   have nt:∀ {z:Addr} {u:HO},H2 z=some u->(∀ dx pl sl,u≠.ins A.a7o dx (chF pl sl))->H3 z=some u:=fun e n=>K3 _ _ (fun k=>ci.no e n (Eu k)) e
   have hpq3:=nt hpq fun _ _ _ e=>by cases e
   have hd3:=nt hd2 fun _ _ _ e=>by cases e
   have hpr3:=nt (S02 _ _ hpr) fun _ _ _ e=>by cases e
   have hlo3:=nt (S02 _ _ hlo) fun _ _ _ e=>by cases e
   have nc:c∉cs.take i:=fun k=>by
    obtain⟨j,hj,ej⟩:=Mj.mp k
    obtain⟨hc1,hc2⟩:=Bu.mp hc
    exact Mi.mp cnd j i (by lia) hc1 (by lia) (by rw [ej,hc2])
   have hch3:=hch.but (cs.take i) nc (fun c hc=>ci c (Eu hc)) K3
   walk_at"@id hch3@ecx pl sl os sts@chc3 _"
   unfold chF at hc3
   clear hv hp hpq hd2 hpr hlo ho2 hL2 hq2 h2
   walk_at"rf*"
   refine⟨l.2,[],hch3,F l.1,rfl,by lia,okl,by decide,by lia,Bz gb (by decide),fun y hy=>Bz (fb y hy) (by decide),fun rr lo2 H4 B4 nrr nlo hrr hlo4 C4=>?_⟩
   have gp:=f9j okl g1
   have gbb:=c9h okl gb
   have bl2:(blk l.2 [] (F l.1)).length=m:=by rw [g2b,fl]
   refine⟨lo2,_,_,hrr,hlo4,by lia,by lia,fun y hy=>?_,by lia,?_⟩
   .rw [i0e] at hy
    have:=d6v (by decide:1<=80000) okl fb y hy
    lia
   rintro _ H5 ⟨a5,rfl,n5,S5,h5⟩
   have nca:a≠c:=fun k=>by
    obtain⟨_,_,_,e⟩:=LD.chi c (Ca hc)
    rw [<- k,na] at e
    cases e
   have ha5:=S5 _ _ (B4 _ _ nca ha)
   clear hc3 hpq3 hd3 hpr3 hlo3 ha hrr hlo4
   walk_at"rf*"
   refine⟨_,rfl,_,rfl,by rw [g2o _ _ rfl fun l hl'=>(hl l (Eu hl')).2.2.1]; lia,by rw [Bv]; lia,?_⟩
   rintro _ H6 ⟨a6,rfl,n6,S6,h6⟩
   have et:ls.take (i+1)=ls.take i++[l]:=by rw [Cu,hli]; rfl
   have ec:cs.take (i+1)=cs.take i++[c]:=by rw [Cu,hc]; rfl
   have mc:∀ {z:Addr},z∉cs.take (i+1)->z∉cs.take i/\z≠c:=fun h=>by
    rw [ec] at h
    exact⟨fun k=>h (Dp _ k),fun k=>h (Cj _ (by rw [k]; exact Ce))⟩
   have K6:Out (cs.take (i+1)) H2 H6:=fun z u hz e=>S6 _ _ (S5 _ _ (B4 _ _ (mc hz).2 (K3 _ _ (mc hz).1 e)))
   have N5:∀ z,H5 z=none->H z=none:=fun z e=>N3 z (by
    cases k:H3 z with
    | none=>rfl
    | some u =>
     by_cases zc:z=c
     .walk_at"@C4@e_ _ _ _ _@ch _"; clear C4
      rw [zc,S5 _ _ h] at e
      cases e
     .rw [S5 _ _ (B4 _ _ zc k)] at e
      cases e)
   exact pin _ _ _ ⟨a6,_,_,_,rfl,K6,(fun z e=>N5 z (S6.free e)),N5 _ n6,by rw [et,g6c]; exact h6⟩
  .intro O H3 hp
   walk_at"@pout _ _ _ hp@ea v6 v7 v8@crfl K3 N3 na ha"
   rw [ul,Dg] at ha
   rw [ul,<- cl,Dg] at K3
   walk_at"rf*"
   intro rr H4 n4 S4 h4
   exact fin rr a H4 (fun z u hz e=>S4 _ _ (K3 _ _ hz (S02 _ _ e))) (N3 _ n4) na h4 (S4 _ _ ha)
theorem d3l.of{H H':Hp}(S:Same H H'):d3l A H H':=fun z u _ e=>S z u e
theorem d3l.trans{H H' H'':Hp}(S:d3l A H H')(S':d3l A H' H''):d3l A H H'':=fun z u n e=>S' z u n (S z u n e)
theorem Out.c{H H':Hp}(K:Out cs H H')(h:ChI A H cs):d3l A H H':=fun z u n e=>K z u (h.no e n) e
theorem noL:NoC A (.lst ys):=fun _ _ _ e=>by cases e
theorem noT:NoC A (.tup ys):=fun _ _ _ e=>by cases e
theorem noD:NoC A (.dK kvs):=fun _ _ _ e=>by cases e
theorem noE{fs:List (Str×V)}(h:fs.length≠2):NoC A (.ins C dx fs):=fun _ _ _ e=>by
 injection e with _ _ e
 rw [e] at h
 exact h rfl
variable {R:Addr->Prop}{kf:List (Key×V)}{zs:List Str}
theorem Flo.f1j{H H':Hp}(h:Flo R H kf zs g F)(S:d3l A H H'):Flo R H' kf zs g F:=fun z hz=>(h z hz).imp fun _ h=>h.imp fun _ h=>⟨h.1,S _ _ noT h.2.1,S _ _ noL h.2.2.1,h.2.2.2⟩
theorem Flo.mono{R R':Addr->Prop}(h:Flo R H kf zs g F)(m:∀ lo,R lo->R' lo):Flo R' H kf zs g F:=fun z hz=>(h z hz).imp fun _ h=>h.imp fun _ h=>⟨h.1,h.2.1,h.2.2.1,m _ h.2.2.2⟩
theorem Flo.dict{H H':Hp}{k2:List (Key×V)}(h:Flo R H kf zs g F)(hD:H D=some (.dK k2))(B:a2j D H H'):Flo R H' kf zs g F:=fun z hz=>(h z hz).imp fun _ h=>h.imp fun _ h=>⟨h.1,B _ _ (fun k=>by have y:=h.2.1; rw [k,hD] at y; cases y) h.2.1,B _ _ (fun k=>by have y:=h.2.2.1; rw [k,hD] at y; cases y) h.2.2.1,h.2.2.2⟩
theorem h1a(es:List Sq):∀ (k:Nat) (l:List Str),l.length=k->∀ z,z∉l->d3i es l z=1
 | 0,l,hl,z,_=>by
  obtain rfl:=Fh.mp hl
  rfl
 | k+1,l,hl,z,hz=>by
  obtain⟨cs,c,rfl⟩:∃ cs c,l=cs++[c]:=by
   rcases Ii l with e | ⟨cs,c,e⟩
   .rw [e] at hl; cases hl
   .exact⟨cs,c,by rw [e,Ij]⟩
  rw [C1,Cw] at hl
  rw [f6n]
  unfold j6q
  rw [if_neg (fun e=>hz (Cj _ (by rw [e]; exact Ce)))]
  exact h1a es k cs (by lia) z fun m=>hz (Dp _ m)
theorem i6b{b:Str}(ok:∀ e∈es,h8p e){l:Ld}(hl:l∈b8t es b):l.2.length<=2/\∀ d∈l.2,okF d:=by
 obtain⟨e,he,rfl⟩:=E4.mp hl
 have:=ok e (Fy.mp he).1
 exact⟨this.1,fun d hd=>⟨(this.2 d hd).1,(this.2 d hd).2.2⟩⟩
theorem h1c(es:List Sq)(g:Str->Int)(n:Nat)(f:Str->List Int)(l:List Str)(b:Str):flw es g n f (l++[b])=flS es g n (flw es g n f l) b:=by
 unfold flw
 rw [Jy]
 rfl
theorem i0g{es:List Sq}{ts ob:List Str}{f:Str->List Int}{g:Str->Int}{n:Nat}(ok:∀ e∈es,h8p e)(e6:es.length<=6)(gb:∀ z,intBits (g z)<=6400)(src:∀ (i:Nat) b,ob[i]? = some b->∀ l∈b8t es b,l.1∈ts++ob.take i)(hf:∀ z∈ts,(f z).length=n/\∀ y∈f z,intBits y<=50):∀ i,i<=ob.length->∀ z∈ts++ob.take i,(flw es g n f (ob.take i) z).length=n/\∀ y∈flw es g n f (ob.take i) z,intBits y<=50+7000*i
 | 0,_,z,hz=>by
  rw [Kq,Jc] at hz
  exact hf z hz
 | i+1,hi,z,hz=>by
  have ih:=i0g ok e6 gb src hf i (by lia)
  obtain⟨b,hb⟩:∃ b,ob[i]? = some b:=⟨_,By (by lia)⟩
  have et:ob.take (i+1)=ob.take i++[b]:=by rw [Cu,hb]; rfl
  rw [et,h1c]
  unfold flS
  by_cases k:z=b
  .rw [if_pos k]
   refine⟨g2o _ _ rfl fun l hl=>(ih _ (src i b hb l hl)).1,fun y hy=>?_⟩
   have:=i0f (fun l hl=>i6b ok hl) (fun l hl=>(ih _ (src i b hb l hl)).2) (by lia) (gb b) y hy
   have l6:(b8t es b).length<=es.length:=by
    unfold b8t
    rw [Bv]
    exact Hl _ _
   lia
  .rw [if_neg k]
   have m:z∈ts++ob.take i:=by
    rw [et,<- Eg] at hz
    exact (De.mp hz).elim id fun m=>absurd (Dh.mp m) k
   exact⟨(ih z m).1,fun y hy=>Bz ((ih z m).2 y hy) (by lia)⟩
theorem h1e(h:kvs.map (·.1)=zs.map kT):kvs.length=zs.length:=by
 have:=congrArg Lp h
 rwa [Bv,Bv] at this
theorem h1f{x:Str}(nd:zs.Nodup)(hx:zs[i]? = some x):x∉zs.take i:=fun m=>by
 obtain⟨j,hj,e⟩:=List.getElem_of_mem m
 rw [D9] at hj
 rw [List.getElem_take] at e
 have hi:=(Bu.mp hx).1
 have e2:zs[j]? = zs[i]?:=by rw [hx,By (by lia),e]
 exact absurd ((List.getElem?_inj (by lia) nd).mp e2) (by lia)
theorem h1g{x:Str}(h:kvs.map (·.1)=zs.map kT)(hx:x∉zs):(putK kvs (kT x) v).map (·.1)=(zs++[x]).map kT:=by
 unfold putK
 rw [if_neg ?_]
 .rw [Co,h,Co]
  rfl
 .intro c
  obtain⟨p,hm,e⟩:=List.any_eq_true.mp c
  have e:=of_decide_eq_true e
  have m:kT x∈zs.map kT:=by rw [<- h,<- e]; exact Kl hm
  obtain⟨z,hz,e2⟩:=E4.mp m
  cases e2
  exact hx hz
theorem j0o(T:Tx K mg A):a1j P A.wd K mg base CX0 6 A.b1z A.a9n ["self","blocks"] (j6t A):=by
 have d2u:a1j P A.wd K mg base CX0 3 _ _ _ _:=j7y T
 have f1k:a1j P A.wd K mg base CX0 5 _ _ _ _:=j0n T
 have a3r:=T.a3r
 have a1g:=T.a1g
 have a1i:=T.a1i
 have a2h:=T.a2h
 have a1n:=T.a1n
 have a1m:=T.a1m
 refine T.c1j.ok a8y (fun _ _ _ _ h=>g0h h) (fun cdv A' outer s H vs Q E hr h=>?_)
 .walk_at"h"
  obtain⟨o,d,zE,⟨ts,ob,es,kvs,f,n,hE,hd,kl,t20,tnd,tne,sk,n9,hF,ok,e6,o8,ond,dj,src,q⟩⟩:=i2m h
  walk_at"g"
  have hu:=hr.units
  have hs:=szl
  have hf:∀ z∈ts,(f z).length=n/\∀ y∈f z,intBits y<=50:=fun z hz=>by
   walk_at"@hF z hz@e_@c_ _ bx nx"
   exact⟨nx,fun y hy=>Bz (D8.mpr (by have:=bx.2 y hy; lia:y.natAbs < 2 ^ 50)) (C0 _)⟩
  walk_at"@id hE@edx t b L B S kb1 kb2 cc@cho ht hb hL hB hS hbo hle"
  unfold enF at ho
  refine⟨_,(a0h (a4p (a4r (pvF 0) T.a3r T.a9w d2u hr.dn T.d2j .nil a3i (a0g (pvF 1) a0i)))
   (a0h (a1t 2 a8y.nd (f9n (a3n (onT K hu) (pfT K (pvF 0)) (a4q a0i)) (a3p a1q T.b0w Dq (a0g (a6w (hu1 hu) (pvF 1) (a0v a2s (pfT K (pvF 0)) a0j) (fun _ _=>rfl)) a0i)) a0j))
   (a0h (a1t 3 a8y.nd d2y)
   (a7u (a3s Ck rfl (piT K (pfT K (pvF 0))) (b2r 4 a8y.nd)
   (a0k (c7h (hu1 hu) (pvF 3) (pvF 4) (a6z (a0g (a2o b1h (by rfl) T.d2k Ic (a0g (a6w (hu1 hu) (pvF 1) (pvF 4) (fun _ _=>rfl)) a0i)) (a0g a0j a0i))) rfl)))
   (a7u (a3s Ck rfl (piT K (pfT K (pvF 0))) (b2r 5 a8y.nd)
   (a0k (c7h (hu1 hu) (pvF 3) (pvF 5) (a4r (pvF 0) T.a3r T.b8o f1k hr.dn T.f1h .nil a3i (a0g (pvF 5) (a0g (pvF 3) (a0g (pvF 2) a0i)))) rfl)))
   (a0h (a1t 6 a8y.nd d2y)
   (a0h (i2k Ck rfl (pfT K (pvF 0)))
   (a0k (a0w (a6z (a0g (pvF 3) (a0g (pvF 6) a0i)))))))))))),?_⟩
  clear hu
  walk_at"rd*"
  refine⟨ts,ob,es,hE,_,rfl,kl,t20,_,_,hF,fun H1 S1=>?_⟩
  obtain⟨t0,ts',ets⟩:∃ t0 ts',ts=t0 :: ts':=by
   cases ts with
   | nil=>exact absurd rfl tne
   | cons a b=>exact⟨a,b,rfl⟩
  obtain⟨l0,v0,hl0,b0,n0⟩:=hF t0 (by rw [ets]; exact Ce)
  have ho1:=S1 _ _ ho
  have ht1:H1 t=some (.lst (V.str t0 :: ts'.map V.str)):=by rw [S1 _ _ ht,ets]; rfl
  have hl1:=S1 _ _ hl0
  have hd1:=S1 _ _ hd
  have nfo:∀ {H':Hp} {z:Addr} {u:HO},H' o=some u->H' z=none->o≠z:=fun e n k=>by rw [k,n] at e; cases e
  clear ho
  walk_at"rd*"
  intro e1 H2 n2 S2 h2
  have ho2:=S2 _ _ ho1
  have ht2:=S2 _ _ ht1
  have hl2:=S2 _ _ hl1
  have hd2:=S2 _ _ hd1
  clear ho1 ht1 hl1 hd1
  walk_at"rd*"
  refine f1o (ns:=ts) (ms:=[]) (SqL.of (by rw [ht2,ets]; rfl)) (SqL.of h2) sk (fun s h=>by cases h) ?_
  rw [decide_eq_false tne,Bool.not_false]
  walk_at"rd*"
  intro fl H3 n3 S3 h3
  rw [Bv,n0]
  have S03:=S1.trans (S2.trans S3)
  have ho3:=S3 _ _ ho2
  have ht3:=S03 _ _ ht
  have hb3:=S03 _ _ hb
  have hL3:=S03 _ _ hL
  have hB3:=S03 _ _ hB
  have hS3:=S03 _ _ hS
  have hd3:=S3 _ _ hd2
  have ap:∀ {z:Addr} {u:HO},H z=some u->z≠fl:=fun e k=>by rw [k,S1.free (S2.free n3)] at e; cases e
  have ofl:=nfo ho2 n3
  clear ho2 ht2 hl2 hd2 h2
  obtain⟨Mid3,in3,out3⟩:=g3q (fun Aa H'=>∃ (v4:Option V) (kf:List (Key×V)),Aa = [some (.ref o),some (.ref d),some (.int (n:Int)),some (.ref fl),v4,none,none,none,none]/\a2j fl H3 H'/\H' fl=some (.dK kf)/\kf.map (·.1)=ts.map kT/\Flo (FrN A H) H' kf ts (d3i es ob) f)
  try walk_at"rf"
  refine⟨Mid3,?_,?_⟩
  .walk_at"rf*"
   refine⟨⟨_,SqL.of ht3⟩,?_⟩
   obtain⟨Pv,pin,pout⟩:=b9o (fun i Aa H'=>∃ (v4:Option V) (kf:List (Key×V)),Aa = [some (.ref o),some (.ref d),some (.int (n:Int)),some (.ref fl),v4,none,none,none,none]/\a2j fl H3 H'/\H' fl=some (.dK kf)/\kf.map (·.1)=(ts.take i).map kT/\Flo (FrN A H) H' kf (ts.take i) (d3i es ob) f)
   refine a5k (xs:=ts.map V.str) Pv (pin _ _ _ ⟨_,[],rfl,(fun z u _ e=>e),h3,rfl,fun z hz=>by cases hz⟩) ?_ ?_ ?_
   .intro i O H4 hi hp
    walk_at"@pout _ _ _ hp@ev4 kf@crfl B4 _"
    exact SqL.of (B4 _ _ (ap ht) ht3)
   .intro i v O H4 hv hp
    walk_at"@pout _ _ _ hp@ev4 kf@crfl B4 h4 kfl R4"
    rw [C9] at hv
    obtain⟨x,hx,rfl⟩:=C7.mp hv
    have mx:=Ca hx
    have hi:=(Bu.mp hx).1
    have kll:kf.length<=20:=by
     have l1:=h1e kfl
     have l2:=O1 i ts
     lia
    walk_at"@hF x mx@elx@cvx hlx bx nx"
    have hd4:=B4 _ _ (ap hd) hd3
    have hx4:=B4 _ _ (ap hlx) (S03 _ _ hlx)
    clear hv hp hd3 ho3 hb3 hL3 hB3 hS3 hd h3
    walk_at"rf*"
    intro la H5 n5 S5 h5
    walk_at"rf*"
    intro pr H6 n6 S6 h6
    have h46:=S6 _ _ (S5 _ _ h4)
    have h56:=S6 _ _ h5
    have b1:d3i es ob x=1:=h1a es _ ob rfl x (dj x mx)
    have R6:Flo (FrN A H) H6 kf (ts.take i) (d3i es ob) f:=R4.f1j (A:=A) (d3l.of (S5.trans S6))
    clear hx4 hd4 h5
    walk_at"rf*"
    refine⟨by lia,fun H7 B7 h7=>pin _ _ _ ⟨_,_,rfl,(fun z u hz e=>B7 _ _ hz (S6 _ _ (S5 _ _ (B4 _ _ hz e)))),h7,by rw [Cu,hx]; exact h1g kfl (h1f tnd hx),fun z hz=>?_⟩⟩
    rw [c3u]
    by_cases k:z=x
    .rw [if_pos (by rw [k]),k,b1]
     exact⟨pr,la,rfl,B7 _ _ (fun e=>by rw [e,h46] at h6; cases h6) h6,B7 _ _ (fun e=>by rw [e,h46] at h56; cases h56) h56,fun u _ e=>by rw [B4 _ _ (ap e) (S03 _ _ e)] at n5; cases n5⟩
    .rw [if_neg (fun e=>k (by cases e; rfl))]
     rw [Cu,hx] at hz
     exact R6.dict h46 B7 z ((De.mp hz).elim id fun m=>absurd (Dh.mp m) k)
   .intro O H4 hp
    walk_at"@pout _ _ _ hp@ev4 kf@crfl B4 h4 kfl R4"
    rw [Bv,Dg] at kfl R4
    exact in3 _ _ ⟨_,kf,rfl,B4,h4,kfl,R4⟩
  intro Al H4 hm3
  walk_at"@out3 _ _ hm3@ev4 kf0@crfl B4 h4 kfl R4"
  clear hm3 in3 out3
  have bk:∀ b'∈ob,∃ q us,b9m kb1 (kT b')=some (.ref q)/\H4 q=some (.lst us)/\Lds A H4 us (cc b') (b8t es b'):=fun b' hb'=>by
   obtain⟨_,q',us,v,hq,hl⟩:=hle.1 b' hb'
   exact⟨q',us,v,B4 _ _ (ap hq) (S03 _ _ hq),(hl.same S03).dict h3 B4⟩
  have ho4:=B4 _ _ ofl ho3
  have hb4:=B4 _ _ (ap hb) hb3
  have hL4:=B4 _ _ (ap hL) hL3
  have hB4:=B4 _ _ (ap hB) hB3
  have hS4:=B4 _ _ (ap hS) hS3
  have f4:∀ {z:Addr} {u:HO},H z=some u->z≠fl:=ap
  clear ho3 ht3 hb3 hL3 hB3 hS3 hd3 h3
  obtain⟨Mid4,in4,out4⟩:=g3q (fun Aa H'=>∃ (v4 v5:Option V) (kf:List (Key×V)),Aa = [some (.ref o),some (.ref d),some (.int (n:Int)),some (.ref fl),v4,v5,none,none,none]/\(∀ z u,z≠fl->NoC A u->H4 z=some u->H' z=some u)/\H' fl=some (.dK kf)/\kf.map (·.1)=(ts++ob).map kT/\Flo (FrN A H) H' kf (ts++ob) (d3i es ob) (flw es (d3i es ob) n f ob))
  refine⟨Mid4,?_,?_⟩
  .walk_at"rf*"
   refine⟨⟨_,SqL.of hb4⟩,?_⟩
   obtain⟨Pv,pin,pout⟩:=b9o (fun i Aa H'=>∃ (v4 v5:Option V) (kf:List (Key×V)),Aa = [some (.ref o),some (.ref d),some (.int (n:Int)),some (.ref fl),v4,v5,none,none,none]/\(∀ z u,z≠fl->NoC A u->H4 z=some u->H' z=some u)/\H' fl=some (.dK kf)/\kf.map (·.1)=(ts++ob.take i).map kT/\Flo (FrN A H) H' kf (ts++ob.take i) (d3i es ob) (flw es (d3i es ob) n f (ob.take i))/\∀ b'∈ob.drop i,∃ q us,b9m kb1 (kT b')=some (.ref q)/\H' q=some (.lst us)/\Lds A H' us (cc b') (b8t es b'))
   refine a5k (xs:=ob.map V.str) Pv (pin _ _ _ ⟨_,_,kf0,rfl,(fun z u _ _ e=>e),h4,by rw [Kq,Jc]; exact kfl,by rw [Kq,Jc]; exact R4,fun b' hb'=>bk b' (Ir hb')⟩) ?_ ?_ ?_
   .intro i O H5 hi hp
    walk_at"@pout _ _ _ hp@ev4 v5 kf@crfl K5 _"
    exact SqL.of (K5 _ _ (f4 hb) noL hb4)
   .intro i v O H5 hv hp
    walk_at"@pout _ _ _ hp@ev4 v5 kf@crfl K5 h5 kf5 R5 L5"
    rw [C9] at hv
    obtain⟨x,hx,rfl⟩:=C7.mp hv
    have hi:=(Bu.mp hx).1
    have kll:kf.length<=28:=by
     have l1:=h1e kf5
     have l2:=O1 i ob
     rw [C1] at l1
     lia
    have ho5:=K5 _ _ ofl (noE (by simp)) ho4
    have hL5:=K5 _ _ (f4 hL) noD hL4
    have hB5:=K5 _ _ (f4 hB) noD hB4
    clear hv hp ho4 hb4 hL4 hB4 hS4 h4
    walk_at"rf*"
    have mx:x∈ob:=Ca hx
    have dr:ob.drop i=x :: ob.drop (i+1):=by rw [List.drop_eq_getElem_cons hi]; rw [(Bu.mp hx).2]
    obtain⟨q',us,vq,hq,hl⟩:=L5 x (by rw [dr]; exact Ce)
    have bo:=g2j ok _ ob rfl
    have c6:100*2 ^ f8u es ob<=100*2 ^ 6:=Gq _ (Ej (by decide) (Bz (g9d es ond) e6))
    have bb:∀ z,intBits (d3i es ob z)<=6400:=fun z=>Bz (bo z).2 c6
    refine⟨dx,t,b,L,B,S,kb1,kb2,kf,q',us,cc x,b8t es x,d3i es ob,flw es (d3i es ob) n f (ob.take i),d3i es ob x,n,rfl,rfl,hL5,hB5,rfl,hbo x (Cj _ mx),vq,hq,hl,(hle.1 x mx).1,n9,Bz (bb x) (by decide),fun l ml=>?_,fun rr lo H6 K6 nr nl hr6 hl6=>?_⟩
    .obtain⟨o1,o2⟩:=i0g ok e6 bb src hf i (by lia) l.1 (src i x hx l ml)
     obtain⟨s1,s2⟩:=i6b ok ml
     exact⟨s1,s2,o1,fun y hy=>Bz (o2 y hy) (by lia),(bo l.1).1,Bz (bb l.1) (by decide),(R5 l.1 (src i x hx l ml)).imp fun _ ⟨_,h1,h2,h3,_⟩=>⟨h1,_,h2,h3⟩⟩
    .have ci:=hl.chi
     have h6:H6 fl=some (.dK kf):=K6 _ _ (ci.no h5 noD) h5
     have C6:=K6.c ci
     have R6:=R5.f1j C6
     clear ho5 hL5 hB5 h5
     walk_at"rf*"
     refine⟨by lia,fun H7 B7 h7=>pin _ _ _ ⟨_,_,_,rfl,(fun z u hz nu e=>B7 _ _ hz (C6 _ _ nu (K5 _ _ hz nu e))),h7,by rw [Cu,hx,<- Eg]; exact h1g kf5 (fun m=>(De.mp m).elim (fun m=>dj x m mx) (h1f ond hx)),fun z hz=>?_,fun b' hb'=>?_⟩⟩
     .have et:ob.take (i+1)=ob.take i++[x]:=by rw [Cu,hx]; rfl
      rw [c3u,et,h1c]
      unfold flS
      by_cases k:z=x
      .rw [if_pos (by rw [k]),if_pos k,k]
       exact⟨rr,lo,rfl,B7 _ _ (fun e=>by rw [e,h6] at hr6; cases hr6) hr6,B7 _ _ (fun e=>by rw [e,h6] at hl6; cases hl6) hl6,fun u nu e=>by rw [K5 _ _ (f4 e) nu (B4 _ _ (f4 e) (S03 _ _ e))] at nl; cases nl⟩
      .rw [if_neg (fun e=>k (by cases e; rfl)),if_neg k]
       rw [et,<- Eg] at hz
       exact R6.dict h6 B7 z ((De.mp hz).elim id fun m=>absurd (Dh.mp m) k)
     .have ne:b'≠x:=fun k=>by
       have nd:=ond.sublist (List.drop_sublist i ob)
       rw [dr] at nd
       exact (Ih.mp nd).1 (by rw [<- k]; exact hb')
      obtain⟨q2,us2,v2,hq2,hl2⟩:=L5 b' (by rw [dr]; exact Ci _ hb')
      have hq6:=C6 _ _ noL hq2
      exact⟨q2,us2,v2,B7 _ _ (fun e=>by rw [e,h6] at hq6; cases hq6) hq6,(hl2.but ci (fun c c1 c2=>ne (hle.2 b' (Ir hb') x mx c c1 c2)) K6).dict h6 B7⟩
   .intro O H5 hp
    walk_at"@pout _ _ _ hp@ev4 v5 kf@crfl K5 h5 kf5 R5 L5"
    rw [Bv,Dg] at R5 kf5
    exact in4 _ _ ⟨_,_,kf,rfl,K5,h5,kf5,R5⟩
  intro Ba H5 hm4
  walk_at"@out4 _ _ hm4@ev4 v5 kf@crfl K5 h5 kf5 R5"
  clear hm4 in4 out4
  have ho5:=K5 _ _ ofl (noE (by simp)) ho4
  have hS5:=K5 _ _ (f4 hS) noD hS4
  clear ho4 hb4 hL4 hB4 hS4 h4
  walk_at"rf*"
  intro st H6 n6 S6 h6
  have ho6:=S6 _ _ ho5
  have hS6:=S6 _ _ hS5
  have h56:=S6 _ _ h5
  clear ho5 hS5
  walk_at"rf*"
  intro rr H7 n7 S7 h7
  refine q rr fl st kf H7 ?_ h7 (S7 _ _ h56) kf5 (R5.f1j (A:=A) (d3l.of (S6.trans S7)))
  exact fun z u nu e=>S7 _ _ (S6 _ _ (K5 _ _ (f4 e) nu (B4 _ _ (f4 e) (S03 _ _ e))))
theorem i0h(T:Tx K mg A):a1j P A.wd K mg base CX0 1 A.a8k A.a9s ["_law_script","_law_k"] (j6u K):=by
 refine T.a3u.ok f6z (fun _ _ _ _ h=>g0g h) (fun cdv A' outer s H vs Q E hr h=>?_)
 .walk_at"h"
  walk_at"@j5e h@ea k@czE@ens@chS hk q"
  walk_at"g"
  have hu:=hr.units
  refine⟨_,(a0h (a5j (a3n of_lt (pvF 1) (a3p (lkT K) T.b0w Dq (a0g (pvF 0) a0i)))
   (a0k (a0w (a0v (isT K) (pvF 0) (pvF 1))))
   a1u)
   (a0k (a0w a0j))),?_⟩
  clear hu
  walk_at"rd"
  refine⟨_,hS,?_⟩
  rw [Bv]
  split
  .rename_i h
   exact⟨_,hS,hk,h,q⟩
  .rename_i h
   obtain⟨j,rfl⟩:=Hc hk
   rw [C3,Dz (by omega)] at q
   exact q
theorem i4f(T:Tx K mg A):a1j P A.wd K mg base CX0 1 A.a8l A.a9t ["_law_one","_law_other"] j6v:=by
 refine T.b6j.ok b8y (fun _ _ _ _ h=>h7l h) (fun cdv A' outer s H vs Q E hr h=>?_)
 .walk_at"h"
  walk_at"@k1o h@ea b@czE a0 b0 q"
  walk_at"g"
  have hu:=hr.units
  refine⟨_,(a0h (d0g Ck (a3n f9v (pvF 1) a0j)
   (a0h (a1t 2 b8y.nd (a0t a8q (pvF 0) (pvF 1)))
   (a0h (a1t 0 b8y.nd (pvF 1))
   (a0k (a1t 1 b8y.nd (pvF 2))))))
   (a0k (a0w (pvF 0)))),?_⟩
  clear hu
  walk_at"rd"
  refine d0h (fun m O H1=>∃ l r z,O = [some (.int l),some (.int r),z]/\H1=H/\0<=l/\0<=r/\m=r.toNat/\Cv l r=Cv a b) _
   ⟨_,_,_,rfl,rfl,a0,b0,rfl,rfl⟩ ?_
  rintro m O H1 ⟨l,r,z,rfl,rfl,hl,hr',rfl,hg⟩
  walk_at"rd"
  split
  .rename_i h
   have hp:0 < r:=by omega
   have f:=h8r hl hp
   exact⟨by omega,_,(by omega:(l.fmod r).toNat < r.toNat),_,_,_,⟨rfl,rfl,rfl⟩,hr',f.1,rfl,(h0l hl hp).trans hg⟩
  .rename_i h
   obtain rfl:r=0:=by omega
   rw [<- hg,gcd_zero hl] at q
   exact q
theorem d4z(x:Str):F6++x=x:=c3z (by rw [a3k]; rfl)
theorem j7z(y:Rat):B0 "gain:"++fW y=(Dt.gain y).word:=by rw [<- i5f,d4z]
theorem j0p(n:Nat):B0 "delay:"++nW n=(Dt.delay n).word:=by rw [<- h7a,d4z]
theorem j8a(y:Rat)(n t:Nat):B0 "echo:"++fW y++B0 ":"++nW n++B0 ":"++nW t=(Dt.echo y n t).word:=by rw [<- i5g,d4z]
theorem j0q(cs:List (Int×Rat)):B0 "swell:"++Kv (B0 ",") (cs.map cW)=(Dt.swell cs).word:=by rw [<- h7b,d4z]
theorem h1h(c:Int×Rat):B0 (toString c.1)++B0 "="++fW c.2=cW c:=by unfold cW; rw [d4z]
theorem g6d{t b g:Int}(hg:0 < g)(h1:g∣t)(h2:g∣b)(h:(t.natAbs:Int) < b):((t.fdiv g).natAbs:Int) < b.fdiv g:=by
 obtain⟨x,rfl⟩:=h1
 obtain⟨y,rfl⟩:=h2
 rw [Eh _ (by lia),Eh _ (by lia)]
 rw [Hi] at h
 have e:((g.natAbs*x.natAbs:Nat):Int)=g*(x.natAbs:Int):=by rw [Fj]; congr 1; lia
 rw [e] at h
 exact Int.lt_of_mul_lt_mul_left h (by lia)
theorem f6p{a g:Int}(ha:0 < a)(hg:0 < g)(h:g∣a):0 < a.fdiv g:=by
 obtain⟨z,rfl⟩:=h
 rw [Eh _ (by lia)]
 rcases Int.lt_or_le 0 z with h | h
 .exact h
 .exfalso
  have:=Int.mul_nonpos_of_nonneg_of_nonpos (a:=g) (by lia) h
  lia
theorem j8b{t b:Int}(t1:t.natAbs<=1000)(b1:1<=b)(b2:b<=1000):0 < Cv (t.natAbs:Int) b/\CFd t (Cv (t.natAbs:Int) b:Int)/\CFd b (Cv (t.natAbs:Int) b:Int) /\
  ∃ y:Rat,YOk y/\y.num=t.fdiv (Cv (t.natAbs:Int) b:Int)/\(y.den:Int)=b.fdiv (Cv (t.natAbs:Int) b:Int)/\((t.natAbs:Int) < b->(y.num.natAbs:Int) < y.den):=by
 have gp:0 < Cv (t.natAbs:Int) b:=G4 _ (by omega)
 have gl:(Cv (t.natAbs:Int) b:Int)<=b:=Ry (by omega) (J5 _ _)
 have gd:(Cv (t.natAbs:Int) b:Int)∣t:=by
  have:=Lq (t.natAbs:Int) b
  exact Int.dvd_natAbs.mp this
 have gd2:(Cv (t.natAbs:Int) b:Int)∣b:=J5 _ _
 have ge:Cv (t.natAbs:Int) b=Cv t b:=by
  have:=h8s t b
  rw [<- this,show ((b.natAbs:Nat):Int)=b by omega]
 have cf:CFd t (Cv (t.natAbs:Int) b:Int):=⟨by omega,Bz (Ei (by omega) (by omega)) (by decide)⟩
 have q1:=c8z (a:=t) (g:=(Cv (t.natAbs:Int) b:Int)) (by omega) gd
 have q2:=c8z (a:=b) (g:=(Cv (t.natAbs:Int) b:Int)) (by omega) gd2
 have q3:0 < b.fdiv (Cv (t.natAbs:Int) b:Int):=f6p (by omega) (by omega) gd2
 have q4:Cv (t.fdiv (Cv (t.natAbs:Int) b:Int)) (b.fdiv (Cv (t.natAbs:Int) b:Int))=1:=by
  rw [ge]
  have:=i3g (a:=t) (b:=b) (by omega)
  omega
 have d1:t.natAbs / (Cv (t.natAbs:Int) b:Int).natAbs<=t.natAbs:=Jo _ _
 have d2:b.natAbs / (Cv (t.natAbs:Int) b:Int).natAbs<=b.natAbs:=Jo _ _
 obtain⟨y,y1,y2⟩:=i5u (by omega:1<=b.fdiv (Cv (t.natAbs:Int) b:Int)) q4
 refine⟨gp,cf,⟨cf.1,cf.2⟩,y,⟨by rw [y1]; omega,by omega⟩,y1,y2,fun z=>?_⟩
 rw [y1,y2]
 exact g6d (by omega) gd gd2 z
theorem i4g(T:Tx K mg A):a1j P A.wd K mg base CX0 2 A.b8g A.b8h ["_law_mixed"] i9q:=by
 have g2p:a1j P A.wd K mg base CX0 1 _ _ _ _:=i4f T
 refine T.c2i.ok b6u (fun _ _ _ _ h=>k1n h) (fun cdv A' outer s H vs Q E hr h=>?_)
 .walk_at"h"
  obtain⟨M,zE,k⟩:=j8q h
  walk_at"g"
  have hu:=hr.units
  have hs:=szl
  refine⟨_,(a0h (a1t 1 b6u.nd (a0t a1k a0j (a0t a8q (pvF 0) a0j)))
   (a0h (a1t 2 b6u.nd (a0t d3m (a0t a8q (a0t a7t (pvF 0) a0j) a0j) a0j))
   (a7u (a5j (a3n (oeT K hu) (a0t a8q (a0t a7t (pvF 0) a0j) a0j) a0j)
   (a0h (a1t 1 b6u.nd (a0t a1k a0j (a0t a8q (pvF 0) a0j)))
   (a0k (a1t 2 b6u.nd (a0t d3m (a0t a8q (a0t a7t (pvF 0) a0j) a0j) a0j))))
   a1u)
   (a0h (a1t 3 b6u.nd (a2m g2p hr.dn T.g1n T.b6j.kp T.g1m (a0g (a3p c2k T.g8m Kk (a0g (pvF 2) a0i)) (a0g (pvF 1) a0i))))
   (a0k (a0w (a0t a1k (a0t a1k (a2o b9p (by rfl) T.f5h Ju (a0g (a0t a7t (pvF 2) (pvF 3)) a0i)) a2p) (a2o b9p (by rfl) T.f5h Ju (a0g (a0t a7t (pvF 1) (pvF 3)) a0i))))))))),?_⟩
  clear hu
  have f1:=b6p M (b:=1000) (by decide)
  have f2:=b6p (M.fdiv 2000) (b:=2001) (by decide)
  have f3:=b6p M (b:=4) (by decide)
  have f4:=b6p (M.fdiv 2000) (b:=9) (by decide)
  walk_at"rd"
  obtain⟨Mid,pin,pout⟩:=g3q (fun Aa H1=>∃ t b:Int,Aa = [some (.int M),some (.int b),some (.int t),none]/\H1=H/\t.natAbs<=1000/\1<=b/\b<=1000)
  refine⟨⟨by decide,by decide⟩,Mid,?_,?_⟩
  .walk_at"rd"
   refine⟨⟨by decide,by decide⟩,?_⟩
   split
   .exact⟨⟨by decide,by decide⟩,pin _ _ ⟨_,_,rfl,rfl,by omega,by omega,by omega⟩⟩
   .exact pin _ _ ⟨_,_,rfl,rfl,by omega,by omega,by omega⟩
  intro Aa H1 hm2
  walk_at"@pout _ _ hm2@et b@crfl rfl t1 b1 b2"
  walk_at"@j8b t1 b1 b2@cgp cf1 cf2@ey@coy y1 y2 yl"
  have q:=k y oy
  have g1:=c6g (D8.mp oy.b.1) (by decide)
  have g2:=c6g (D8.mp oy.b.2) (by decide)
  have a:=c7g (D8.mp oy.b.1) (by decide)
  have c:=c7g (D8.mp oy.b.2) (by decide)
  have e1:(B0 "/").length=1:=by decide +kernel
  unfold fW at q
  rw [d4z] at q
  rw [y1] at q a g1
  rw [y2] at q c g2
  walk_at"rd"
  exact⟨by omega,by omega,cf1,by omega,by omega,cf2,by omega,by rw [E6]; omega,q⟩
theorem i4h(T:Tx K mg A):a1j P A.wd K mg base CX0 3 A.b8i A.b8j ["_law_mixed"] i9r:=by
 have f9k:a1j P A.wd K mg base CX0 2 _ _ _ _:=i4g T
 refine T.c6t.ok c2n (fun _ _ _ _ h=>k1n h) (fun cdv A' outer s H vs Q E hr h=>?_)
 .walk_at"h"
  obtain⟨M,zE,k⟩:=j8q h
  walk_at"g"
  have hu:=hr.units
  have f6q:b2u 2 _:=hr.dn
  have hs:=szl
  refine⟨_,(a0h (a1t 1 c2n.nd (a0v a2s (a4q (a0g a2p (a0g a2p (a0g a2p (a0g a2p (a0g a2p a0i)))))) (a0t a8q (pvF 0) a0j)))
   (a0h (a1t 2 c2n.nd (a2m f9k f6q T.f8s T.c2i.kp T.f8r (a0g (a0t a7t (pvF 0) a0j) a0i)))
   (a0h (a1t 3 c2n.nd (a0t a1k a0j (a0t a8q (a0t a7t (pvF 0) (a0t f2o a0j a0j)) a0j)))
   (a0h (a5j (a3n (oeT K hu) (pvF 1) a2p)
   (a0k (a0w (a0t a1k a2p (pvF 2))))
   a1u)
   (a0h (a5j (a3n (oeT K hu) (pvF 1) a2p)
   (a0k (a0w (a0t a1k a2p (a2o b9p (by rfl) T.f5h Ju (a0g (pvF 3) a0i)))))
   a1u)
   (a0h (a5j (a3n (oeT K hu) (pvF 1) a2p)
   (a0k (a0w (a0t a1k (a0t a1k (a0t a1k (a0t a1k (a0t a1k a2p (pvF 2)) a2p) (a2o b9p (by rfl) T.f5h Ju (a0g (pvF 3) a0i))) a2p) (a2o b9p (by rfl) T.f5h Ju (a0g (a0t a8q (a0t a7t (pvF 0) (a0t f2o a0j a0j)) a0j) a0i)))))
   a1u)
   (a0h (a5j (a3n (oeT K hu) (pvF 1) a2p)
   (a0h (a1t 4 c2n.nd (a0t a1k (a0t a1k (a2o b9p (by rfl) T.f5h Ju (a0g (a0t a1k (pvF 3) a0j) a0i)) a2p) (a2m f9k f6q T.f8s T.c2i.kp T.f8r (a0g (a0t a7t (pvF 0) a0j) a0i))))
   (a0k (a0w (a0t a1k (a0t a1k (a0t a1k (a0t a1k (a0t a1k a2p (a2o b9p (by rfl) T.f5h Ju (a0g (pvF 3) a0i))) a2p) (pvF 2)) a2p) (pvF 4)))))
   a1u)
   (a0k (a0w (a0t a1k (a0t a1k (a0t a1k a2p (pvF 2)) a2p) (a2o b9p (by rfl) T.f5h Ju (a0g (pvF 3) a0i)))))))))))),?_⟩
  clear hu
  have f6:=b6p M (b:=5) (by decide)
  have f9:=b6p (M.fdiv 100000000) (b:=6) (by decide)
  have f5:=b6p (M.fdiv 1000000000) (b:=4) (by decide)
  walk_at"rd"
  refine⟨by lia,fun kl H1 n1 S1 h1=>?_⟩
  obtain⟨ks,ha⟩:∃ ks:Str,atI [V.str (B0 "gain"),V.str (B0 "delay"),V.str (B0 "echo"),V.str (B0 "back"),V.str (B0 "swell")] (M.fmod 5)=some (.str ks):=by
   rcases (by lia:M.fmod 5=0\/M.fmod 5=1\/M.fmod 5=2\/M.fmod 5=3\/M.fmod 5=4) with z | z | z | z | z <;> rw [z] <;> exact⟨_,rfl⟩
  obtain⟨n,en⟩:∃ n:Nat,1+(M.fdiv 100000000).fmod 6=(n:Int):=⟨(1+(M.fdiv 100000000).fmod 6).toNat,by lia⟩
  walk_at"rd*"
  refine⟨⟨by decide,by decide⟩,fun y oy=>⟨by decide,⟨by decide,by decide⟩,?_⟩⟩
  have fl:=d5s oy.b.1 oy.b.2
  have nl:=d9j (n:=n) (by lia)
  have g0:=c6g (t:=(n:Int)) (n:=20) (by lia) (by decide)
  have c0:(B0 ":").length=1:=by decide +kernel
  have c1:(B0 "gain:").length=5:=by decide +kernel
  have c2:(B0 "delay:").length=6:=by decide +kernel
  have c3:(B0 "echo:").length=5:=by decide +kernel
  have c4:(B0 "back:").length=5:=by decide +kernel
  unfold nW at nl
  split
  .refine⟨by lia,?_⟩
   rw [j7z]
   exact k _ _ oy (by simp [Dt.kd]) trivial S1
  split
  .have v:=j0p n
   unfold nW at v
   refine⟨by lia,by lia,?_⟩
   rw [v]
   exact k (.delay n) _ (show n<=1000 by lia) (by simp [Dt.kd]) trivial S1
  split
  .obtain⟨t,et⟩:∃ t:Nat,(M.fdiv 1000000000).fmod 4=(t:Int):=⟨((M.fdiv 1000000000).fmod 4).toNat,by lia⟩
   have tl:=d9j (n:=t) (by lia)
   have g2:=c6g (t:=(t:Int)) (n:=20) (by lia) (by decide)
   have v:=j8a y n t
   unfold nW at tl v
   rw [et]
   simp only [E6]
   refine⟨by lia,by lia,by lia,by lia,by lia,by decide,⟨by decide,by decide⟩,by lia,by lia,?_⟩
   rw [v]
   exact k (.echo y n t) _ ⟨oy,by lia,by lia,by lia⟩ (by simp [Dt.kd]) (show t<=4 by lia) S1
  split
  .have g3:=c6g (t:=(n:Int)+3) (n:=20) (by lia) (by decide)
   have c5:(B0 "swell:").length=6:=by decide +kernel
   have c6:(B0 "=").length=1:=by decide +kernel
   have c7:(B0 ",").length=1:=by decide +kernel
   have n3:=d9j (n:=n+3) (by lia)
   unfold nW at n3
   rw [show (((n+3:Nat)):Int)=(n:Int)+3 by lia] at n3
   refine⟨by lia,by lia,⟨by decide,by decide⟩,fun y2 oy2=>?_⟩
   have fl2:=d5s oy2.b.1 oy2.b.2
   simp only [E6]
   refine⟨by lia,by lia,by lia,by lia,by lia,by lia,by lia,?_⟩
   have v:B0 "swell:"++B0 (toString (n:Int))++B0 "="++fW y++B0 ","++(B0 (toString ((n:Int)+3))++B0 "="++fW y2)=(Dt.swell [((n:Int),y),((n:Int)+3,y2)]).word:=by
    rw [<- j0q,i8e,i2e]
    refine c3z ?_
    rw [Es,Es,N6,a3k (B0 "swell:"),b2w,h2l,<- h1h,<- h1h]
    simp only [a3k,Eg]
    rfl
   rw [v]
   refine k _ _ ⟨fun c hc=>?_,fun i c d h1 h2=>?_,by show 1<=2; decide,by show 2<=12; decide⟩ (by simp [Dt.kd]) ⟨_,_,rfl,rfl⟩ S1
   .simp only [Db,Eo,or_false] at hc
    rcases hc with rfl | rfl
    .exact⟨by show 0<=(n:Int); lia,by show (n:Int)<=_; lia,oy⟩
    .exact⟨by show 0<=(n:Int)+3; lia,by show (n:Int)+3<=_; lia,oy2⟩
   .match i,h1,h2 with
    | 0,h1,h2 =>
     cases h1
     cases h2
     show (n:Int) < (n:Int)+3
     lia
    | i+1,h1,h2=>simp at h2
  .have v:B0 "back:"++fW y++B0 ":"++nW n=(Dt.back y n).word:=by rw [<- i5h,d4z]
   unfold nW at v
   simp only [E6]
   refine⟨by lia,by lia,by lia,by lia,?_⟩
   rw [v]
   exact k (.back y n) _ ⟨oy,by lia,by lia⟩ (by simp [Dt.kd]) trivial S1
theorem g9f{x:Str}(h:f0r x):D1 x=true:=by
 unfold D1
 rw [<- Array.all_toList,Fv]
 intro c hc
 have:=h.2.2 c hc
 rw [decide_eq_true_eq]
 lia
theorem k2x{H0 H H1:Hp}(S:Same H0 H)(N:c0t (fun a=>H0 a=none) H H1):Same H0 H1:=fun z u e=>N _ _ (fun n=>by have n:H0 z=none:=n; rw [e] at n; cases n) (S _ _ e)
theorem i9o.no{es:List (Str×Str)}{x y:Str}(r:Str->Nat)(h:∀ e∈es,r e.1 < r e.2)(hxy:r x < r y):¬ Rch es y x:=fun z=>by
 have:=z (fun u=>r y<=r u) (C0 _) fun u v hu hv=>Bz hu (Jl (h _ hv))
 lia
theorem i0i(T:Tx K mg A):a1j P A.wd K mg base CX0 13 A.b3t A.b5l ["_law_script","_law_names","_law_tracks"] (i3f A K):=by
 have a8p:a1j P A.wd K mg base CX0 1 _ _ _ _:=i0h T
 have h4e:a1j P A.wd K mg base CX0 3 _ _ _ _:=i4h T
 have g6e:a1j P A.wd K mg base CX0 1 _ _ _ _:=k2v T
 have g2q:a1j P A.wd K mg base CX0 3 _ _ _ _:=j7o T
 have g9g:a1j P A.wd K mg base CX0 3 _ _ _ _:=j7p T
 have g6f:a1j P A.wd K mg base CX0 12 _ _ _ _:=j0i T
 have a1s:=T.a1s
 have a0m:=T.a0m
 have a0o:=T.a0o
 have a0n:=T.a0n
 have a0p:=T.a0p
 refine T.c3k.ok a3o (fun _ _ _ _ h=>h7n h) (fun cdv A' outer s H vs Q E hr h=>?_)
 .walk_at"h"
  obtain⟨sc,nl,nt,zE,⟨ns,ts,bu,ent,hS,hbit,hn,⟨nam,nnd,t1,t3,b1,b4⟩,q⟩⟩:=h7m h
  walk_at"g"
  subst ent
  have hu:=hr.units
  have hs:=szl
  have a6v:b2u 1 _:=hr.dn
  refine⟨_,(a0h (a1t 3 a3o.nd (h6i T.g7v g6e hr.dn (by rfl) T.i2s T.g5a .nil a3i))
   (a7u (a3s Ck rfl (piT K (a3z g3s (pvF 1) b0j (a3j (pvF 2)))) (b2r 4 a3o.nd)
   (a0k (a4p (a4r (pvF 3) T.a1s T.c5p g2q hr.dn T.g1j .nil a3i (a0g (pvF 4) a0i)))))
   (a0h (a1t 5 a3o.nd (a3z g3s (pvF 1) (a3j (pvF 2)) b0j))
   (a0h (a1t 6 a3o.nd (a0t a8q (a2m a8p a6v T.b2p T.a3u.kp T.b2o (a0g (pvF 0) (a0g a0j a0i))) (a3p a1q T.b0w Dq (a0g (pvF 5) a0i))))
   (a7u (a3s Ck rfl (piT K (a0t a1k (a3z g3s (pvF 5) (a3j (pvF 6)) b0j) (a3z g3s (pvF 5) b0j (a3j (pvF 6))))) (b2r 4 a3o.nd)
   (a0k (a4p (a4r (pvF 3) T.a1s T.d1m g9g hr.dn T.g8i .nil a3i (a0g (pvF 4) a0i)))))
   (a7u (a3s Ck rfl (a8w (by rfl) T.c3r (a0g (a0t a1k a0j (a0t a8q (a0t a7t (a2m a8p a6v T.b2p T.a3u.kp T.b2o (a0g (pvF 0) (a0g a0j a0i))) a0j) a0j)) a0i)) (b2r 7 a3o.nd)
   (a0h (a1t 8 a3o.nd (a0t a1k (a2m a8p a6v T.b2p T.a3u.kp T.b2o (a0g (pvF 0) (a0g (a0t a1k a0j (pvF 7)) a0i))) (a0t a2l a0j (pvF 7))))
   (a7u (a1t 9 a3o.nd (a0t a8q (a0t a2l (pvF 8) a0j) (a0t a1k (a0t f2o a0j a0j) a0j)))
   (a0h (a1t 10 a3o.nd (a0t a8q (pvF 9) (a3p a1q T.b0w Dq (a0g (pvF 5) a0i))))
   (a0h (a1t 11 a3o.nd (a4q a0i))
   (a0h (a3s Ck rfl (a8w (by rfl) T.c3r (a0g (a0t a8q (a0t a7t (pvF 9) a0j) a0j) a0i)) (b2r 12 a3o.nd)
   (a0k (a4p (b5r b1j Da D3 Dd a5v (pvF 11) (a0g (a2m h4e hr.dn T.h3h T.c6t.kp T.h3g (a0g (a0t a8q (a0t a2l (a0t a1k (a0t a2l a0j (pvF 8)) (pvF 12)) a0j) (a0t a1k (a0t f2o a0j a0j) a0j)) a0i)) a0i)))))
   (a0k (a4p (a4r (pvF 3) T.a1s T.c8i g6f hr.dn T.g5b .nil a3i (a0g (a0v a2s (pvF 1) (a0t a8q (a0t a7t (pvF 9) a0j) (a0t a1k (pvF 2) (pvF 10)))) (a0g (a0v a2s (pvF 5) (pvF 10)) (a0g (pvF 11) a0i))))))))))))
   (a0k (a0w (pvF 3))))))))),?_⟩
  clear hu
  walk_at"rf"
  intro o dx H1 n1 n1' nx S1 hdx ho
  refine⟨dx,ho,fun H2 B2 hP=>?_⟩
  rw [asNew]
  refine⟨rfl,?_⟩
  have S2:Same H H2:=fun z u e=>B2 _ _ (fun ze=>by rw [ze] at e; rw [e] at n1; cases n1) (S1 _ _ e)
  have P2:c1p A H2 (fun a=>H a=none) o ⟨[],[],[],[]⟩:=hP.mono fun z hz _=>S1.free hz
  clear hP hdx ho B2 S1 n1 n1' nx
  walk_at"rf"
  have hn2:=S2 _ _ hn
  obtain⟨Mid1,in1,out1⟩:=g3q (fun Aa H'=>∃ v4:Option V,Aa = [some (.ref sc),some (.ref nl),some (.int (ts.length:Int)),some (.ref o),v4,none,none,none,none,none,none,none,none]/\Same H H'/\c1p A H' (fun a=>H a=none) o ⟨ts,[],[],[]⟩)
  have cs:∀ (xs:List Str) lo hi,f0y (xs.map V.str) lo hi=(f1m xs lo hi).map V.str:=fun xs lo hi=>f9w V.str xs lo hi
  have one:∀ {z:Addr} {H' H'':Hp} {X:Addr->Prop},Same H H'->c0t (fun a=>H a=none/\X a) H' H''->Same H H'':=fun {z H' H'' X} S N=>k2x S fun z u h e=>N z u (fun n=>h n.1) e
  refine⟨Mid1,?_,?_⟩
  .walk_at"rf*"
   intro l4 H4 n4 S4 h4
   rw [d0i,List.take_left] at h4
   refine⟨⟨_,SqL.of h4⟩,?_⟩
   obtain⟨Pv,pin,pout⟩:=b9o (fun i Aa H'=>∃ v4:Option V,Aa = [some (.ref sc),some (.ref nl),some (.int (ts.length:Int)),some (.ref o),v4,none,none,none,none,none,none,none,none]/\Same H H'/\H' l4=some (.lst (ts.map V.str))/\c1p A H' (fun a=>H a=none/\a≠l4) o ⟨ts.take i,[],[],[]⟩)
   have P4:c1p A H4 (fun a=>H a=none/\a≠l4) o ⟨[],[],[],[]⟩:=(P2.mono fun z hz lv=>⟨hz,fun e=>lv (by rw [e]; exact n4)⟩).same S4
   refine a5k (xs:=ts.map V.str) Pv (pin _ _ _ ⟨_,rfl,S2.trans S4,h4,P4⟩) ?_ ?_ ?_
   .intro i O H5 hi hp
    walk_at"@pout _ _ _ hp@e_@crfl _ h5 _"
    exact SqL.of h5
   .intro i v O H5 hv hp
    refine i2l fun zV zv=>?_
    walk_at"@pout _ _ _ hp@ev4@crfl S5 h5 P5"
    rw [C9] at hv
    obtain⟨x,hx,rfl⟩:=C7.mp hv
    walk_at"@id P5@edx3 t0 b0 sd0 ou0@cho3 _"
    unfold ptF at ho3
    have mx:=Ca hx
    have et:ts.take (i+1)=ts.take i++[x]:=by rw [Cu,hx]; rfl
    have nx:x∉ts.take i:=fun m=>by
     have nd:=(nnd.sublist (Mq ts bu)).sublist (Ht (i+1) ts)
     rw [et] at nd
     exact (Hu.mp nd).2.2 x m x Ce rfl
    clear hv hp hn2 h4
    walk_at"rf*"
    refine⟨_,_,P5,nam x (Dp _ mx),nx,(fun h=>by cases h),by show (ts.take i).length<=100; rw [D9]; omega,fun H6 S6 P6=>pin _ _ _ ⟨_,rfl,one (z:=o) S5 S6,S6 _ _ (fun n=>absurd rfl n.2) h5,by rw [et]; exact P6⟩⟩
   .intro O H5 hp
    walk_at"@pout _ _ _ hp@ev4@crfl S5 h5 P5"
    rw [Bv,Dg] at P5
    exact in1 _ _ ⟨_,rfl,S5,P5.mono fun z hz _=>hz.1⟩
  intro Am H3 hm1
  refine hid fun zN zh=>?_
  walk_at"@out1 _ _ hm1@ev4@crfl S3 P3"
  clear hm1 in1 out1 hn2 P2 S2
  have hn3:=S3 _ _ hn
  walk_at"rf*"
  intro l5 H4 n4 S4 h4
  rw [a7g,List.drop_left] at h4
  have S04:=S3.trans S4
  have h4':=h4
  have P4:c1p A H4 (fun a=>H a=none/\a≠l5) o ⟨ts,[],[],[]⟩:=(P3.mono fun z hz lv=>⟨hz,fun e=>lv (by rw [e]; exact n4)⟩).same S4
  clear hn3 P3
  walk_at"rf*"
  refine⟨ns,S04.seq hS,by omega,?_⟩
  have ft:=b6p (ns.getD 1 0) (b:=(bu.length:Int)) (by omega)
  obtain⟨tn,etn⟩:∃ tn:Nat,(ns.getD 1 0).fmod (bu.length:Int)=(tn:Int):=⟨((ns.getD 1 0).fmod (bu.length:Int)).toNat,by omega⟩
  rw [etn]
  have pm:(bu.drop tn++bu.take tn).Perm bu:=List.perm_append_comm.trans (by rw [List.take_append_drop])
  obtain⟨bs,ebs⟩:∃ bs,bu.drop tn++bu.take tn=bs:=⟨_,rfl⟩
  rw [ebs] at pm
  obtain⟨Mid4,in4,out4⟩:=g3q (fun Aa H'=>∃ v4:Option V,Aa = [some (.ref sc),some (.ref nl),some (.int (ts.length:Int)),some (.ref o),v4,some (.ref l5),some (.int (tn:Int)),none,none,none,none,none,none]/\Same H H'/\H' l5=some (.lst (bu.map V.str))/\c1p A H' (fun a=>H a=none/\a≠l5) o ⟨ts,bs,[],[]⟩)
  walk_at"rf"
  refine⟨Mid4,?_,?_⟩
  .walk_at"rf*"
   intro l6 H5 n5 S5 h5
   have h45:=S5 _ _ h4
   clear h4
   walk_at"rf*"
   intro l7 H6 n6 S6 h6
   have h56:=S6 _ _ h5
   have h46:=S6 _ _ h45
   clear h5 h45
   walk_at"rf*"
   refine⟨by have:=C1 (as:=bu.drop tn) (bs:=bu.take tn); rw [a7g,d0i]; rw [ebs,pm.length_eq] at this; omega,fun l8 H7 n7 S7 h7=>?_⟩
   rw [<- Co,a7g,d0i,ebs] at h7
   have h47:=S7 _ _ h46
   have S47:=S5.trans (S6.trans S7)
   refine⟨⟨_,SqL.of h7⟩,?_⟩
   obtain⟨Pv,pin,pout⟩:=b9o (fun i Aa H'=>∃ v4:Option V,Aa = [some (.ref sc),some (.ref nl),some (.int (ts.length:Int)),some (.ref o),v4,some (.ref l5),some (.int (tn:Int)),none,none,none,none,none,none]/\Same H H'/\H' l5=some (.lst (bu.map V.str))/\H' l8=some (.lst (bs.map V.str))/\c1p A H' (fun a=>H a=none/\(a≠l5/\a≠l8)) o ⟨ts,bs.take i,[],[]⟩)
   have P7:c1p A H7 (fun a=>H a=none/\(a≠l5/\a≠l8)) o ⟨ts,[],[],[]⟩:=((P4.same (S5.trans S6)).mono fun z hz lv=>⟨hz.1,hz.2,fun e=>lv (by rw [e]; exact n7)⟩).same S7
   clear P4 h46 h47 h56 h6
   refine a5k (xs:=bs.map V.str) Pv (pin _ _ _ ⟨_,rfl,S04.trans S47,S7 _ _ (S6 _ _ (S5 _ _ h4')),h7,P7⟩) ?_ ?_ ?_
   .intro i O H8 hi hp
    walk_at"@pout _ _ _ hp@e_@crfl _ _ h8 _"
    exact SqL.of h8
   .intro i v O H8 hv hp
    refine i2l fun zV zv=>?_
    walk_at"@pout _ _ _ hp@ev4@crfl S8 hl8 h8 P8"
    rw [C9] at hv
    obtain⟨x,hx,rfl⟩:=C7.mp hv
    walk_at"@id P8@edx3 t0 b0 sd0 ou0@cho3 _"
    unfold ptF at ho3
    have mx:x∈bu:=pm.mem_iff.mp (Ca hx)
    have et:bs.take (i+1)=bs.take i++[x]:=by rw [Cu,hx]; rfl
    have nx:x∉bs.take i:=fun m=>by
     have nd:=(pm.nodup_iff.mpr (nnd.sublist (Iy ts bu))).sublist (Ht (i+1) bs)
     rw [et] at nd
     exact (Hu.mp nd).2.2 x m x Ce rfl
    have nt:x∉ts:=fun m=>(Hu.mp nnd).2.2 x m x mx rfl
    clear hv hp h7
    walk_at"rf*"
    refine⟨_,_,P8,nam x (Cj _ mx),nt,nx,by show (bs.take i).length<=100; rw [D9,pm.length_eq]; omega,fun H9 S9 P9=>pin _ _ _ ⟨_,rfl,one (z:=o) S8 S9,S9 _ _ (fun n=>absurd rfl n.2.1) hl8,S9 _ _ (fun n=>absurd rfl n.2.2) h8,by rw [et]; exact P9⟩⟩
   .intro O H8 hp
    walk_at"@pout _ _ _ hp@ev4@crfl S8 hl8 h8 P8"
    rw [Bv,Dg] at P8
    exact in4 _ _ ⟨_,rfl,S8,hl8,P8.mono fun z hz _=>⟨hz.1,hz.2.1⟩⟩
  intro Ba H5 hm4
  refine hid fun zN zh=>?_
  walk_at"@out4 _ _ hm4@ev4'@crfl S5 h5 P5"
  clear hm4 in4 out4 h4 P4 S04 S4 S3 n4
  obtain⟨Mid5,in5,out5⟩:=g3q (fun Aa H'=>∃ (v4 v7 v8 v9 v10 v11 v12:Option V) (es:List Sq),Aa = [some (.ref sc),some (.ref nl),some (.int (ts.length:Int)),some (.ref o),v4,some (.ref l5),some (.int (tn:Int)),v7,v8,v9,v10,v11,v12]/\Same H H'/\c1p A H' (fun a=>H a=none) o ⟨ts,bs,es.map f8t,[]⟩/\Gd ts bu bs es)
  walk_at"rf"
  refine⟨Mid5,?_,?_⟩
  .have f0:=b6p ((ns.getD 0 0).fdiv 24) (b:=6) (by decide)
   walk_at"rf*"
   refine⟨ns,S5.seq hS,⟨by decide,by decide⟩,by omega,by omega,?_⟩
   obtain⟨m,em⟩:∃ m:Nat,1+((ns.getD 0 0).fdiv 24).fmod 6=(m:Int):=⟨(1+((ns.getD 0 0).fdiv 24).fmod 6).toNat,by omega⟩
   rw [em,Dy]
   obtain⟨Pv,pin,pout⟩:=b9o (fun i Aa H'=>∃ (v4 v7 v8 v9 v10 v11 v12:Option V) (es:List Sq),Aa = [some (.ref sc),some (.ref nl),some (.int (ts.length:Int)),some (.ref o),v4,some (.ref l5),some (.int (tn:Int)),v7,v8,v9,v10,v11,v12]/\Same H H'/\H' l5=some (.lst (bu.map V.str))/\c1p A H' (fun a=>H a=none/\a≠l5) o ⟨ts,bs,es.map f8t,[]⟩/\es.length=i/\∀ e∈es,h8p e/\(e.1∈ts\/e.1∈bs)/\e.2.1∈bs/\(ts++bu).idxOf e.1 < (ts++bu).idxOf e.2.1)
   refine c1s (lo:=0) Pv (pin _ _ _ ⟨_,_,_,_,_,_,_,[],rfl,S5,h5,P5,rfl,fun e he=>by cases he⟩) ?_ ?_
   .intro i O H6 hi hp
    walk_at"@pout _ _ _ hp@ew4 w7 w8 w9 w10 w11 w12 es@crfl S6 h6 P6 el eok"
    have bi:=hbit (2+(0+i))
    obtain⟨Mid6,in6,out6⟩:=g3q (fun Aa H'=>∃ (c M:Int),Aa = [some (.ref sc),some (.ref nl),some (.int (ts.length:Int)),some (.ref o),w4,some (.ref l5),some (.int (tn:Int)),some (.int (i:Int)),some (.int c),some (.int M),w10,w11,w12]/\H'=H6/\intBits c<=1100010)
    clear hp h5 P5
    walk_at"rs*"
    refine⟨ns,S6.seq hS,by omega,Du (by decide),?_⟩
    have bc:intBits (ns.getD ((2:Int)+(i:Int)).toNat 0+7*(i:Int))<=1100010:=Bz (Ff (hbit _) (Ei (k:=7*(i:Int)) (by omega) (by omega))) (by decide)
    generalize ns.getD ((2:Int)+(i:Int)).toNat 0+7*(i:Int)=c at bc ⊢
    refine⟨Mid6,?_,?_⟩
    .walk_at"rs"
     exact⟨by walk_at"mul",by decide,in6 _ _ ⟨c,_,rfl,rfl,bc⟩⟩
    clear bc bi
    intro Aw H6' hm6
    walk_at"@out6 _ _ hm6@ec M@crfl rfl bc"
    clear hm6 in6 out6
    have f1:=b6p M (b:=(bu.length:Int)) (by omega)
    have f2:=b6p (M.fdiv 100) (b:=3) (by decide)
    obtain⟨tb,etb⟩:∃ tb:Nat,M.fmod (bu.length:Int)=(tb:Int):=⟨(M.fmod (bu.length:Int)).toNat,by omega⟩
    have f3:=b6p (M.fdiv 4) (b:=(ts.length:Int)+(tb:Int)) (by omega)
    obtain⟨si,esi⟩:∃ si:Nat,(M.fdiv 4).fmod ((ts.length:Int)+(tb:Int))=(si:Int):=⟨((M.fdiv 4).fmod ((ts.length:Int)+(tb:Int))).toNat,by omega⟩
    obtain⟨k3,ek3⟩:∃ k3:Nat,(M.fdiv 100).fmod 3=(k3:Int):=⟨((M.fdiv 100).fmod 3).toNat,by omega⟩
    walk_at"rd*"
    refine⟨by omega,fun lw H7 n7 S7 h7=>?_⟩
    have S07:=S6.trans S7
    walk_at"rf*"
    obtain⟨Pw,qin,qout⟩:=b9o (fun j Aa H'=>∃ (v12:Option V) (ds:List Dt),Aa = [some (.ref sc),some (.ref nl),some (.int (ts.length:Int)),some (.ref o),w4,some (.ref l5),some (.int (tn:Int)),some (.int (i:Int)),some (.int c),some (.int M),some (.int (tb:Int)),some (.ref lw),v12]/\Same H6' H'/\H' lw=some (.lst (ds.map fun d=>V.str d.word))/\ds.length=j/\∀ d∈ds,d.ok/\d.kd≠4/\Few d)
    refine⟨⟨by decide,by decide⟩,by omega,by omega,?_⟩
    refine c1s (lo:=0) Pw (qin _ _ _ ⟨_,[],rfl,S7,h7,rfl,fun d hd=>by cases hd⟩) ?_ ?_
    .intro j O H8 hj hp
     walk_at"@qout _ _ _ hp@eu12 ds@crfl S8 h8 dl dok"
     have bj:intBits (3*c+(j:Int))<=1100020:=Bz (Ff (Cn (by decide:intBits 3<=2) bc) (Ei (k:=(j:Int)) (by omega) (by omega))) (by decide)
     clear hp h7
     walk_at"rf*"
     refine⟨Du (by decide),by walk_at"mul",by decide,fun d H9 d1 d2 d3 S9=>?_⟩
     have h9:=S9 _ _ h8
     clear h8
     walk_at"rf*"
     refine⟨by omega,?_⟩
     rintro _ H10 ⟨rfl,B10,h10⟩
     refine qin _ _ _ ⟨_,ds++[d],rfl,(S8.trans S9).step n7 B10,by rw [h10,Co]; rfl,by rw [C1,dl]; rfl,fun d' hd=>?_⟩
     rcases De.mp hd with m' | m'
     .exact dok d' m'
     .rw [Dh.mp m']
      exact⟨d1,d2,d3⟩
    .intro O H8 hp
     walk_at"@qout _ _ _ hp@eu12 ds@crfl S8 h8 dl dok"
     have P8:=P6.same S8
     walk_at"@id P8@edx3 t0 b0 sd0 ou0@cho3 _"
     unfold ptF at ho3
     have hn8:=(S6.trans S8) _ _ hn
     have h58:=S8 _ _ h6
     have ln:(ts++bu).length=ts.length+bu.length:=C1
     obtain⟨x,hx⟩:∃ x,(ts++bu)[si]? = some x:=⟨_,By (by omega)⟩
     obtain⟨y,hy⟩:∃ y,bu[tb]? = some y:=⟨_,By (by omega)⟩
     have hy':(ts++bu)[ts.length+tb]? = some y:=by rw [Df (by omega),show ts.length+tb - ts.length=tb by omega]; exact hy
     have ix:∀ {i:Nat} {x:Str},(ts++bu)[i]? = some x->(ts++bu).idxOf x=i:=fun h=>by
      obtain⟨h1,h2⟩:=Bu.mp h
      rw [<- h2]
      exact nnd.idxOf_getElem _ h1
     have xy:(ts++bu).idxOf x < (ts++bu).idxOf y:=by rw [ix hx,ix hy']; omega
     have a1:atI ((ts++bu).map V.str) (si:Int)=some (.str x):=c0j (by rw [C9,hx]; rfl)
     have a2:atI (bu.map V.str) (tb:Int)=some (.str y):=c0j (by rw [C9,hy]; rfl)
     have mx:x∈ts\/x∈bs:=(De.mp (Ca hx)).imp id pm.mem_iff.mpr
     have my:y∈bs:=pm.mem_iff.mpr (Ca hy)
     clear hp h7
     walk_at"rf*"
     have rk:∀ e∈prs (es.map f8t),(ts++bu).idxOf e.1 < (ts++bu).idxOf e.2:=fun e he=>by
      obtain⟨e',he',rfl⟩:=E4.mp he
      obtain⟨e2,h2,rfl⟩:=E4.mp he'
      exact (eok e2 h2).2.2.2
     have nmb:∀ {z:Str},z∈bs->D1 z=true:=fun m=>g9f (nam _ (Cj _ (pm.mem_iff.mp m)))
     refine⟨⟨by decide,by decide⟩,by omega,_,_,P8,ds,rfl,by omega,fun d hd=>⟨(dok d hd).1,(dok d hd).2.1⟩,mx,my,i9o.no (fun z=>(ts++bu).idxOf z) rk xy,by show (es.map f8t).length<=99; rw [Bv]; omega,nmb my,(fun e he=>?_),fun H9 N9 P9=>pin _ _ _ ⟨_,_,_,_,_,_,_,es++[(x,y,ds)],rfl,one (z:=o) (S6.trans S8) N9,N9 _ _ (fun n=>absurd rfl n.2) h58,?_,by rw [C1,el]; rfl,fun e he=>?_⟩⟩
     .obtain⟨e',he',rfl⟩:=E4.mp he
      exact nmb (eok e' he').2.2.1
     .rw [Co]
      exact P9.mono fun z hz _=>hz.elim id fun n=>⟨(S6.trans S8).free n,fun k=>by rw [k,h58] at n; cases n⟩
     .rcases De.mp he with m' | m'
      .exact eok e m'
      .rw [Dh.mp m']
       exact⟨⟨by show ds.length<=2; omega,dok⟩,mx,my,xy⟩
   .intro O H6 hp
    walk_at"@pout _ _ _ hp@ew4 w7 w8 w9 w10 w11 w12 es@crfl S6 h6 P6 el eok"
    exact in5 _ _ ⟨_,_,_,_,_,_,_,es,rfl,S6,P6.mono (fun z hz _=>hz.1),(fun z=>pm.mem_iff),pm.nodup_iff.mpr (nnd.sublist (Iy ts bu)),pm.length_eq,by omega,eok⟩
  intro As H6 hm5
  refine hid fun zN zh=>?_
  walk_at"@out5 _ _ hm5@e_ _ _ _ _ _ _ es@crfl S6 P6 g6"
  walk_at"rf"
  exact q _ _ _ _ S6 P6 g6
theorem Gd.rk{ts bu bs:List Str}(g:Gd ts bu bs es):i9o (prs (es.map f8t)):=⟨fun z=>(ts++bu).idxOf z,fun e he=>by
 obtain⟨e',he',rfl⟩:=E4.mp he
 obtain⟨e2,h2,rfl⟩:=E4.mp he'
 exact (g.2.2.2.2 e2 h2).2.2.2⟩
theorem Gd.ord{ts bu bs:List Str}(g:Gd ts bu bs es):(obL bs es).length=bu.length/\(obL bs es).Nodup/\(∀ z,z∈obL bs es ↔ z∈bu)/\∀ (i:Nat) b,(obL bs es)[i]? = some b->∀ l∈b8t es b,l.1∈ts++(obL bs es).take i:=by
 have rdy:∀ j,j < bs.length->bs.filter (c3s bs (prs (es.map f8t)) (c9v bs (prs (es.map f8t)) j))≠[]:=fun j hj=>ready g.rk g.2.1 j hj
 have at':=fun (i:Nat) b (h:(obL bs es)[i]? = some b)=>i6a rdy h
 have nd:(obL bs es).Nodup:=h0z fun i b h=>(at' i b h).2.1
 have ln:(obL bs es).length=bs.length:=c9j _ rdy
 have sub:∀ z,z∈obL bs es->z∈bs:=fun z hz=>by
  obtain⟨i,hi⟩:=Iu hz
  exact (at' i z hi).1
 refine⟨by rw [ln,g.2.2.1],nd,fun z=>⟨fun h=>(g.1 z).mp (sub z h),fun h=>?_⟩,fun i b hb l hl=>?_⟩
 .by_cases k:z∈obL bs es
  .exact k
  .have:=List.Nodup.length_le_of_subset (l₂:=bs) (Ih.mpr ⟨k,nd⟩) fun x hx=>by
    rcases Db.mp hx with e | m
    .rw [e]; exact (g.1 z).mpr h
    .exact sub x m
   rw [Cq] at this
   lia
 .obtain⟨e,he,rfl⟩:=E4.mp hl
  obtain⟨h1,h2⟩:=Fy.mp he
  rw [decide_eq_true_eq] at h2
  rcases (g.2.2.2.2 e h1).2.1 with m | m
  .exact Dp _ m
  .exact Cj _ ((at' i b hb).2.2 (e.1,e.2.1) (E4.mpr ⟨f8t e,Kl h1,rfl⟩) h2 m)
theorem j8c{ts:List Str}{rows:List (List Int)}{x:Str}{r:List Int}(nd:ts.Nodup)(hx:ts[i]? = some x)(hr:rows[i]? = some r):fdF ts rows n x=r:=by
 obtain⟨h1,h2⟩:=Bu.mp hx
 unfold fdF
 rw [<- h2,nd.idxOf_getElem _ h1,C3,hr]
 rfl
theorem j8d(T:Tx K mg A):a1j P A.wd K mg base CX0 15 A.b3u A.b5m ["_law_patch_here","_law_names","_law_rows"] (k2l A):=by
 have g2r:a1j P A.wd K mg base CX0 13 _ _ _ _:=j7v T
 have g2s:a1j P A.wd K mg base CX0 6 _ _ _ _:=j0o T
 have a3r:=T.a3r
 have a1g:=T.a1g
 have a1i:=T.a1i
 have a2h:=T.a2h
 have a1n:=T.a1n
 have a1m:=T.a1m
 refine T.b3v.ok d1g (fun _ _ _ _ h=>j5i h) (fun cdv A' outer s H vs Q E hr h=>?_)
 .walk_at"h"
  walk_at"@j5h h@epo nl rl@czE@ets bu bs es N rows ras n@chP gd nms hn hrl RW rl3 rok n9 q"
  walk_at"g"
  have hu:=hr.units
  have hs:=szl
  walk_at"@id nms@cnam nnd t1 t3 b1 b4"
  have tnd:ts.Nodup:=nnd.sublist (Mq ts bu)
  have rl':=RW.1
  refine⟨_,(a0h (a1t 3 d1g.nd d2y)
   (a7u (a3s Ck rfl (a8w (by rfl) T.c3r (a0g (a3p a1q T.b0w Dq (a0g (pvF 2) a0i)) a0i)) (b2r 4 d1g.nd)
   (a0k (c7h (hu1 hu) (pvF 3) (a0v a2s (pvF 1) (pvF 4)) (a2o b1h (by rfl) T.d2k Ic (a0g (a0v a2s (pvF 2) (pvF 4)) a0i)) rfl)))
   (a0k (a0w (a0v a2s (a4r (c3y T.g0y g2r hr.dn (by rfl) T.h8k T.g1h .nil a3i (a0g (pvF 0) a0i)) T.a3r T.c5o g2s hr.dn T.g1i .nil a3i (a0g (pvF 3) a0i)) a0j))))),?_⟩
  clear hu
  walk_at"rf"
  intro fd H1 n1 S1 h1
  walk_at"rf"
  obtain⟨Mid,min',mout⟩:=g3q (fun Aa H'=>∃ (v:Option V) (kvs:List (Key×V)),Aa = [some (.ref po),some (.ref nl),some (.ref rl),some (.ref fd),v]/\Same H H'/\H' fd=some (.dK kvs)/\kvs.length=ts.length/\∀ z∈ts,∃ l,b9m kvs (kT z)=some (.ref l)/\H' l=some (.lst ((fdF ts rows n z).map V.int)))
  refine⟨Mid,?_,?_⟩
  .have hrl1:=S1 _ _ hrl
   walk_at"rf*"
   refine⟨by lia,by lia,?_⟩
   rw [Dy]
   obtain⟨Pv,pin,pout⟩:=b9o (fun i Aa H'=>∃ (v:Option V) (kvs:List (Key×V)),Aa = [some (.ref po),some (.ref nl),some (.ref rl),some (.ref fd),v]/\Same H H'/\H' fd=some (.dK kvs)/\kvs.length=i/\(∀ z,z∉ts.take i->b9m kvs (kT z)=none)/\∀ z∈ts.take i,∃ l,b9m kvs (kT z)=some (.ref l)/\H' l=some (.lst ((fdF ts rows n z).map V.int)))
   refine c1s (lo:=0) Pv (pin _ _ _ ⟨_,[],rfl,S1,h1,rfl,(fun z _=>rfl),fun z hz=>by cases hz⟩) ?_ ?_
   .intro i O H3 hi hp
    walk_at"@pout _ _ _ hp@ev kvs@crfl S3 h3 kl kn ks"
    obtain⟨x,hx⟩:∃ x,ts[i]? = some x:=⟨_,By (by lia)⟩
    obtain⟨ra,hra⟩:∃ ra,ras[i]? = some ra:=⟨_,By (by lia)⟩
    obtain⟨r,hrr⟩:∃ r,rows[i]? = some r:=⟨_,By (by lia)⟩
    have hra3:=S3 _ _ (RW.2 i ra r hra hrr)
    have hn3:=S3 _ _ hn
    have hrl3:=S3 _ _ hrl
    have a1:atI ((ts++bu).map V.str) (i:Int)=some (.str x):=c0j (by rw [C9,Cm (by lia),hx]; rfl)
    have a2:atI (ras.map V.ref) (i:Int)=some (.ref ra):=c0j (by rw [C9,hra]; rfl)
    have et:ts.take (i+1)=ts.take i++[x]:=by rw [Cu,hx]; rfl
    have nx:x∉ts.take i:=fun m=>by
     have nd:=tnd.sublist (Ht (i+1) ts)
     rw [et] at nd
     exact (Hu.mp nd).2.2 x m x Ce rfl
    clear hp hrl1 h1
    walk_at"rf*"
    intro lc H4 n4 S4 h4
    have hn4:=S4 _ _ hn3
    have h34:=S4 _ _ h3
    clear hn3 h3 hra3 hrl3
    walk_at"rf*"
    refine⟨by lia,fun H5 B5 h5=>pin _ _ _ ⟨_,_,rfl,(S3.trans S4).step n1 B5,h5,by rw [g9q _ (kn x nx),C1,kl]; rfl,fun z hz=>?_,fun z hz=>?_⟩⟩
    .rw [et] at hz
     rw [c3u,if_neg (fun e=>hz (Cj _ (by cases e; exact Ce)))]
     exact kn z fun m=>hz (Dp _ m)
    .rw [c3u]
     by_cases k:z=x
     .rw [if_pos (by rw [k]),k,j8c tnd hx hrr]
      exact⟨lc,rfl,B5 _ _ (fun e=>by rw [e,h34] at h4; cases h4) h4⟩
     .rw [if_neg (fun e=>k (by cases e; rfl))]
      rw [et] at hz
      obtain⟨l,v1,v2⟩:=ks z ((De.mp hz).elim id fun m=>absurd (Dh.mp m) k)
      have v3:=S4 _ _ v2
      exact⟨l,v1,B5 _ _ (fun e=>by rw [e,h34] at v3; cases v3) v3⟩
   .intro O H3 hp
    walk_at"@pout _ _ _ hp@ev kvs@crfl S3 h3 kl kn ks"
    rw [Dg] at ks
    exact min' _ _ ⟨_,kvs,rfl,S3,h3,kl,ks⟩
  intro Aa H2 hm
  walk_at"@mout _ _ hm@ev kvs@crfl S2 h2 kl hk"
  clear hm min' mout h1 n1 S1
  walk_at"@gd.ord@co1 o2 o3 o4"
  walk_at"rf*"
  intro c cx H3 n3 n3' nx S3 hdx hc
  have P3:=(hP.same S2).same S3
  refine⟨cx,N,_,es,hc,P3,rfl,rfl,fun e he=>(gd.2.2.2.2 e he).1,gd.2.2.2.1,by show ts.length<=20; lia,by show bs.length<=20; rw [gd.2.2.1]; lia,gd.2.1,(fun x hx hx'=>(Hu.mp nnd).2.2 x hx' x ((gd.1 x).mp hx) rfl),gd.rk,fun e he=>⟨(gd.2.2.2.2 e he).2.1,(gd.2.2.2.2 e he).2.2.1⟩,fun H4 B4 hE=>?_⟩
  rw [asNew]
  refine⟨rfl,?_⟩
  have S4:Same H2 H4:=fun z u ez=>B4 _ _ (fun ze=>by rw [ze,n3] at ez; cases ez) (S3 _ _ ez)
  walk_at"@id hE@edx t b L B S kb1 kb2 cc@cho _"
  unfold enF at ho
  have h4:=S4 _ _ h2
  clear hc h2
  walk_at"rf*"
  refine⟨ts,obL bs es,es,hE,_,rfl,kl,by lia,tnd,(fun e=>by rw [e] at t1; cases t1),(fun s hs=>g9f (nam s (Dp _ hs))),fdF ts rows n,n,n9,fun z hz=>?_,fun e he=>(gd.2.2.2.2 e he).1,gd.2.2.2.1,by lia,o2,(fun z hz hz'=>(Hu.mp nnd).2.2 z hz z ((o3 z).mp hz') rfl),o4,?_⟩
  .obtain⟨l,v1,v2⟩:=hk z hz
   obtain⟨i,hi⟩:=Iu hz
   have li:=(Bu.mp hi).1
   obtain⟨r,hrr⟩:∃ r,rows[i]? = some r:=⟨_,By (by lia)⟩
   have e:=j8c (n:=n) tnd hi hrr
   exact⟨l,v1,S4 _ _ v2,by rw [e]; exact (rok r (Ca hrr)).1,by rw [e]; exact (rok r (Ca hrr)).2⟩
  intro rr d1 d2 kf H5 C5 h5 hd5 ky F5
  rw [h5]
  exact⟨_,rfl,q d1 kf H5 (fun z u nu e=>C5 z u nu (S4 _ _ (S2 _ _ e))) hd5 ky (F5.mono fun lo hl u nu e=>hl u nu (S4 _ _ (S2 _ _ e)))⟩
theorem j0r(T:Tx K mg A):a1j P A.wd K mg base CX0 1 A.a6u A.a7n ["_law_flow","_law_one","_law_other","_law_many","_law_more"] j6w:=by
 refine T.b2t.ok b5t (fun _ _ _ _ h=>i2n h) (fun cdv A' outer s H vs Q E hr h=>?_)
 .walk_at"h"
  obtain⟨f,o,t,a,b,zE,⟨l1,l2,l3,F,G,R,g,n,hf,h3,ho,h1,ht,h2,L,n1,ab,bb,gb,bF,bG,bR,q⟩⟩:=h0e h
  walk_at"g"
  have hu:=hr.units
  have hs:=szl
  walk_at"@L@clF lG lR lin"; clear L
  refine⟨_,(a0h (a5j (pw_or (a3n (onT K hu) (a3p a1q T.b0w Dq (a0g (a0v a2s (pvF 0) a0j) a0i)) (a3p a1q T.b0w Dq (a0g (a0v a2s (pvF 1) a0j) a0i))) (pw_or1 (a3n (onT K hu) (a3p a1q T.b0w Dq (a0g (a0v a2s (pvF 0) a0j) a0i)) (a3p a1q T.b0w Dq (a0g (a0v a2s (pvF 2) a0j) a0i))))).pt
   (a0k (a0w f0v))
   a1u)
   (a0h (a3s Ck rfl (a8w (by rfl) T.c3r (a0g (a3p a1q T.b0w Dq (a0g (a0v a2s (pvF 0) a0j) a0i)) a0i)) (b2r 5 b5t.nd)
   (a0h (a1t 6 b5t.nd (a0t a2l (a0t a2l (pvF 3) (a0v a2s (a0v a2s (pvF 1) a0j) (pvF 5))) (a0v a2s (pvF 2) a0j)))
   (a0h (a1t 6 b5t.nd (a0t a1k (pvF 6) (a0t a2l (a0t a2l (pvF 4) (a0v a2s (a0v a2s (pvF 2) a0j) (pvF 5))) (a0v a2s (pvF 1) a0j))))
   (a0k (a5j (a3n (onT K hu) (a0t a2l (a0t a2l (a0v a2s (a0v a2s (pvF 0) a0j) (pvF 5)) (a0v a2s (pvF 1) a0j)) (a0v a2s (pvF 2) a0j)) (a0t a2l (pvF 6) (a0v a2s (pvF 0) a0j)))
   (a0k (a0w f0v))
   a1u)))))
   (a0k (a0w f0v)))),?_⟩
  clear hu
  walk_at"rf*"
  refine⟨by lia,by lia,?_⟩
  rw [Dy]
  obtain⟨Pv,pin,pout⟩:=b9o (fun j O H'=>∃ v5 v6:Option V,O = [some (.ref f),some (.ref o),some (.ref t),some (.int a),some (.int b),v5,v6]/\H'=H)
  refine c1s (n:=n) Pv (pin _ _ _ ⟨_,_,rfl,rfl⟩) ?_ ?_
  .intro j O H' hj hp
   walk_at"@pout _ _ _ hp@ev5 v6@crfl rfl"
   have gx:∀ {X:List Int},X.length=n->∃ x,X[j]? = some x/\atI (X.map V.int) (j:Int)=some (.int x)/\d3h X (j:Int)=x:=fun {X} h=>by
    obtain⟨x,hx⟩:∃ x,X[j]? = some x:=⟨_,By (by lia)⟩
    exact⟨x,hx,c0j (by rw [C9,hx]; rfl),by rw [i4e,C3,hx]; rfl⟩
   walk_at"@gx lF@ex@chx ax sx"
   walk_at"@gx lG@ey@chy ay sy"
   obtain⟨z,hz,az,sz⟩:=gx lR
   have e:=lin (j:Int) (by lia)
   rw [sx,sy,sz] at e
   have bx:=bF x (Ca hx)
   have by':=bG y (Ca hy)
   have bz:=bR z (Ca hz)
   have m1:Fu a x:=Dr ab bx (by decide)
   have m2:Fu (a*x) g:=Dr (Cn ab bx) gb (by decide)
   have m3:Fu b y:=Dr bb by' (by decide)
   have m4:Fu (b*y) g:=Dr (Cn bb by') gb (by decide)
   have m5:Fu z g:=Dr bz gb (by decide)
   have m6:Fu (z*g) g:=Dr (Cn bz gb) gb (by decide)
   have m7:Fu (a*x*g+b*y*g) g:=Dr (Ff (Cn (Cn ab bx) gb) (Cn (Cn bb by') gb)) gb (by decide)
   have eq:z*g*g=(a*x*g+b*y*g)*g:=by rw [e]; grind
   clear e sx sy sz hp lin gx bF bG bR
   rw [Int.zero_add]
   walk_at"rf*"
   exact pin _ _ _ ⟨_,_,rfl,rfl⟩
  .intro O H' hp
   walk_at"@pout _ _ _ hp@ev5 v6@crfl rfl"
   walk_at"rf"
   exact q
theorem j8e{a b:Nat}(a1:1<=a)(a3:a<=3)(b1:1<=b)(b4:b<=4):Nms (nmT.take a) (nmB.take b):=by
 have al:∀ z∈nmT++nmB,f0r z:=by unfold f0r; decide +kernel
 have nd:(nmT++nmB).Nodup:=by decide +kernel
 have sb:(nmT.take a++nmB.take b).Sublist (nmT++nmB):=(Ht _ _).append (Ht _ _)
 have l1:(nmT.take a).length=a:=by rw [D9]; show min a 3=a; lia
 have l2:(nmB.take b).length=b:=by rw [D9]; show min b 4=b; lia
 exact⟨fun z hz=>al z (sb.subset hz),nd.sublist sb,by lia,by lia,by lia,by lia⟩
theorem k2y{ts:List Str}{rows:List (List Int)}(h:∀ r∈rows,r.length=n/\∀ y∈r,intBits y<=50)(z:Str):(fdF ts rows n z).length=n/\∀ y∈fdF ts rows n z,intBits y<=50:=by
 unfold fdF
 rw [C3]
 cases e:rows[ts.idxOf z]? with
 | none=>exact⟨Gu,fun y hy=>by rw [(Ov.mp hy).2]; decide⟩
 | some r=>exact h r (Ca e)
theorem i0j{tn:List Int}{n k m:Nat}(h:m*n<=tn.length)(hk:k < m):(rwA tn n k).length=n:=by
 have:(k+1)*n<=m*n:=Ek _ hk
 rw [Jk] at this
 unfold rwA
 rw [D9,Ev]
 lia
theorem d8v{tn:List Int}{n k:Nat}{y:Int}(h:y∈rwA tn n k):y∈tn:=Ir (Eu h)
theorem Lin.zip(a b:Int){F G:List Int}(hF:F.length=n)(hG:G.length=n):Lin n a b F G (h0k a b F G):=by
 have hR:(h0k a b F G).length=n:=by unfold h0k; rw [Km,hF,hG,Io]
 refine⟨hF,hG,hR,fun i hi=>?_⟩
 unfold d3h
 by_cases k:i < 0
 .rw [if_pos k,if_pos k,if_pos k]
  omega
 .rw [if_neg k,if_neg k,if_neg k,C3,C3,C3,By (by omega),By (l:=F) (by omega),By (l:=G) (by omega)]
  unfold h0k
  rw [List.getElem_zipWith]
  rfl
theorem Lin.rows{m:Nat}{a b:Int}{f g:Nat->List Int}(hf:∀ k,k < m->(f k).length=n)(hg:∀ k,k < m->(g k).length=n)(ts:List Str)(z:Str):Lin n a b (fdF ts ((Cz m).map f) n z) (fdF ts ((Cz m).map g) n z) (fdF ts ((Cz m).map fun k=>h0k a b (f k) (g k)) n z):=by
 unfold fdF
 generalize ts.idxOf z=k
 rw [C3,C3,C3,C9,C9,C9]
 rcases F0 k m with h | h
 .rw [Ed h]
  exact Lin.zip a b (hf k h) (hg k h)
 .rw [Dz (by rw [Ga]; exact h)]
  exact Lin.zero
theorem i4i{a b y:Int}:∀ {F G:List Int},y∈h0k a b F G->∃ u v,u∈F/\v∈G/\y=a*u+b*v
 | [],_,h=>by cases h
 | _ :: _,[],h=>by cases h
 | u :: F,v :: G,h=>by
  rcases Db.mp h with e | m
  .exact⟨u,v,Ce,Ce,e⟩
  .obtain⟨u',v',h1,h2,e⟩:=i4i (F:=F) (G:=G) m
   exact⟨u',v',Ci _ h1,Ci _ h2,e⟩
theorem i0k{a u:Int}(a1 : -1000<=a)(a2:a<=1000)(u1 : -1000000<=u)(u2:u<=1000000) : -1000000000<=a*u/\a*u<=1000000000:=by
 have h:(a*u).natAbs<=1000*1000000:=by
  rw [Hi]
  exact Nat.mul_le_mul (by lia) (by lia)
 lia
theorem j0s{a b u v:Int}(a1 : -1000<=a)(a2:a<=1000)(b1 : -1000<=b)(b2:b<=1000)(u1 : -1000000<=u)(u2:u<=1000000)(v1 : -1000000<=v)(v2:v<=1000000) : -1000000000000<=a*u+b*v/\a*u+b*v<=1000000000000:=by
 have h1:=i0k a1 a2 u1 u2
 have h2:=i0k b1 b2 v1 v2
 lia
theorem c1p.f1j{H H':Hp}(h:c1p A H N po p)(S:d3l A H H'):c1p A H' N po p:=by
 obtain⟨pdx,t,b,sd,ou,hp,n,d,ht,hb,⟨us,hs,R1⟩,vs,hu,R2⟩:=h
 exact⟨pdx,t,b,sd,ou,S _ _ (noE (by unfold ptF; simp)) hp,n,d,S _ _ noL ht,S _ _ noL hb,⟨us,S _ _ noL hs,R1.go (fun z vs nz e=>⟨S _ _ noL e,nz⟩) fun z vs e=>S _ _ noT e⟩,vs,S _ _ noL hu,R2.go (fun z vs nz e=>⟨S _ _ noL e,nz⟩) fun z vs e=>S _ _ noT e⟩
theorem h1i{a:Addr}(ss:List Str)(h:H a=some (.lst (ss.map V.str))\/∃ kvs,H a=some (.dK kvs)/\kvs.map (·.1)=ss.map kT)(hl:ss.length < 64)(q:∀ p zs H1,H p=none->Same H H1->H1 p=some (.lst (zs.map V.str))->zs.Perm ss->M4 zs=true->Q (.ref p) H1):i5j [.ref a] H Q:=⟨ss,h,hl,q⟩
theorem i0l{a b u v:Int}{F G:List Int}{j:Nat}(hu:F[j]? = some u)(hv:G[j]? = some v):(h0k a b F G).take (j+1)=(h0k a b F G).take j++[a*u+b*v]:=by
 rw [Cu]
 unfold h0k
 rw [Jp,hu,hv]
 rfl
theorem j8f(T:Tx K mg A):a1j P A.wd K mg base CX0 17 A.g4r A.f0g ["_law_script"] (g6v 63 K):=by
 have a8p:a1j P A.wd K mg base CX0 1 _ _ _ _:=i0h T
 have g9h:a1j P A.wd K mg base CX0 13 _ _ _ _:=i0i T
 have d5g:a1j P A.wd K mg base CX0 15 _ _ _ _:=j8d T
 have f7s:a1j P A.wd K mg base CX0 1 _ _ _ _:=j0r T
 refine T.h7x.ok b2q (fun vs H Q E h=>?_) (fun cdv A' outer s H vs Q E hr h=>?_)
 .walk_at"@h@ea ns@crfl _"; clear h
  rfl
 .walk_at"@h@ea ns@crfl hS hl hbit hO q"; clear h
  have hu:=hr.units
  have a6v:b2u 1 _:=hr.dn
  have d2v:b2u 15 _:=hr.dn
  have hs:=szl
  have bc:∀ k:Nat,intBits (ns.getD k 0)<=1100000:=fun k=>Bz (h6e hbit k) (by decide)
  refine⟨_,(a0h (a1t 1 b2q.nd (a2m a8p a6v T.b2p T.a3u.kp T.b2o (a0g (pvF 0) (a0g a0j a0i))))
   (a0h (d8w (i:=2) b2q.nd rfl (G3 rfl) (a0t a1k a0j (a0t a8q (pvF 1) a0j)))
   (a7u (a1t 3 b2q.nd (a0t a1k (a3z g3s (a4q (a0g a2p (a0g a2p (a0g a2p a0i)))) b0j (a3j (pvF 2))) (a3z g3s (a4q (a0g a2p (a0g a2p (a0g a2p (a0g a2p a0i))))) b0j (a3j (a0t a1k a0j (a0t a8q (a0t a7t (pvF 1) a0j) a0j))))))
   (a0h (a1t 4 b2q.nd (a2m g9h hr.dn T.g8l T.c3k.kp T.g8k (a0g (pvF 0) (a0g (pvF 3) (a0g (pvF 2) a0i)))))
   (a0h (d8w (i:=5) b2q.nd rfl (G3 rfl) (a0t a1k (a0t a2l a0j (a0t f2o a0j a0j)) a0j))
   (a7u (d8w (i:=6) b2q.nd rfl (G3 rfl) (b6t (piT K (a3z (slT K) (pvF 0) (a3j a0j) (a3j a0j))) (fun _ _ _ _ _=>(a0t d3m (a0t a8q (a0t a8q (a0t a2l (pvF 0) a0j) (a0t a1k (a0t f2o a0j a0j) a0j)) (pvF 6)) (a0t f2o a0j a0j))) (c5w (sc:=a0l h7q) (N:=["_law_script","_law_first","_law_tracks","_law_names","_law_patch_here","_law_far","_law_tones","_law_size","_law_ones","_law_others","_law_many","_law_more","_law_rows","_law_one","_law_other","_law_row","_law_here","_law_there","_law_found","_law_name"]) rfl rfl (by decide +kernel)) rfl))
   (a0h (d8w (i:=7) b2q.nd rfl (G3 rfl) (a0t a7t (a3p a1q T.b0w Dq (a0g (pvF 6) a0i)) (a0t a2l a0j (pvF 2))))
   (a7u (f2p (i:=8) b2q.nd rfl rfl (a8w (by rfl) T.c3r (a0g (pvF 2) a0i)) (fun _ _ _ _ _=>(a3z g3s (pvF 7) (a3j (a0t a2l (pvF 0) (pvF 8))) (a3j (a0t a2l (a0t a1k (pvF 0) a0j) (pvF 8))))) (c5w (sc:=a0l h7q) (N:=["_law_script","_law_first","_law_tracks","_law_names","_law_patch_here","_law_far","_law_tones","_law_size","_law_ones","_law_others","_law_many","_law_more","_law_rows","_law_one","_law_other","_law_row","_law_here","_law_there","_law_found","_law_name"]) rfl rfl (by decide +kernel)) rfl)
   (a7u (f2p (i:=9) b2q.nd rfl rfl (a8w (by rfl) T.c3r (a0g (pvF 2) a0i)) (fun _ _ _ _ _=>(a3z g3s (pvF 7) (a3j (a0t a2l (a0t a1k (pvF 3) (pvF 0)) (pvF 8))) (a3j (a0t a2l (a0t a1k (a0t a1k (pvF 3) (pvF 0)) a0j) (pvF 8))))) (c5w (sc:=a0l h7q) (N:=["_law_script","_law_first","_law_tracks","_law_names","_law_patch_here","_law_far","_law_tones","_law_size","_law_ones","_law_others","_law_many","_law_more","_law_rows","_law_one","_law_other","_law_row","_law_here","_law_there","_law_found","_law_name"]) rfl rfl (by decide +kernel)) rfl)
   (a7u (a1t 10 b2q.nd (a0t d3m (a0t a8q (a0t a8q (a0t a2l (a2m a8p a6v T.b2p T.a3u.kp T.b2o (a0g (pvF 0) (a0g a0j a0i))) a0j) a0j) a0j) a0j))
   (a7u (a1t 11 b2q.nd (a0t d3m (a0t a8q (a0t a8q (a0t a2l (a2m a8p a6v T.b2p T.a3u.kp T.b2o (a0g (pvF 0) (a0g a0j a0i))) a0j) a0j) a0j) a0j))
   (a0h (a1t 12 b2q.nd (a4q a0i))
   (a7u (a3s Ck rfl (f7z (by rfl) T.h3i (a0g (pvF 8) (a0g (pvF 9) a0i))) (d7h (n:=2) rfl (a8s (b2r 13 b2q.nd) (a8s (b2r 14 b2q.nd) d2z)))
   (a0h (a1t 15 b2q.nd (a4q a0i))
   (a0h (a3s Ck rfl (f7z (by rfl) T.h3i (a0g (pvF 13) (a0g (pvF 14) a0i))) (d7h (n:=2) rfl (a8s (b2r 16 b2q.nd) (a8s (b2r 17 b2q.nd) d2z)))
   (a0k (a4p (b5r b1j Da D3 Dd a5v (pvF 15) (a0g (a0t a1k (a0t a2l (pvF 10) (pvF 16)) (a0t a2l (pvF 11) (pvF 17))) a0i)))))
   (a0k (a4p (b5r b1j Da D3 Dd a5v (pvF 12) (a0g (pvF 15) a0i)))))))
   (a0h (a1t 16 b2q.nd (a2m d5g d2v T.d4v T.b3v.kp T.d4u (a0g (pvF 4) (a0g (pvF 3) (a0g (pvF 8) a0i)))))
   (a0h (a1t 17 b2q.nd (a2m d5g d2v T.d4v T.b3v.kp T.d4u (a0g (pvF 4) (a0g (pvF 3) (a0g (pvF 9) a0i)))))
   (a0h (a1t 18 b2q.nd (a2m d5g d2v T.d4v T.b3v.kp T.d4u (a0g (pvF 4) (a0g (pvF 3) (a0g (pvF 12) a0i)))))
   (a0h (a5j (a3n (onT K hu) (a3p (d9k rfl) T.h0f boot_sorted (a0g (pvF 18) a0i)) (a3p (d9k rfl) T.h0f boot_sorted (a0g (pvF 3) a0i)))
   (a0k (a0w f0v))
   a1u)
   (a0h (a3s Ck rfl (piT K (pvF 3)) (b2r 19 b2q.nd)
   (a0h (a5j (c9k (b3l (a2m f7s hr.dn T.f7l T.b2t.kp T.f7k (a0g (a6w (hu1 hu) (pvF 18) (pvF 19) (fun _ _=>rfl)) (a0g (a6w (hu1 hu) (pvF 16) (pvF 19) (fun _ _=>rfl)) (a0g (a6w (hu1 hu) (pvF 17) (pvF 19) (fun _ _=>rfl)) (a0g (pvF 10) (a0g (pvF 11) a0i))))))))
   (a0k (a0w f0v))
   a1u)
   (a0k (a5j (a3n (onT K hu) (a3p a1q T.b0w Dq (a0g (a0v a2s (a6w (hu1 hu) (pvF 18) (pvF 19) (fun _ _=>rfl)) a0j) a0i)) (pvF 7))
   (a0k (a0w f0v))
   a1u))))
   (a0k (a0w f0v)))))))))))))))))))),?_⟩
  walk_at"rs"
  refine⟨ns,hS,?_⟩
  have f1:=b6p (ns.getD 0 0) (b:=3) (by decide)
  have f2:=b6p ((ns.getD 0 0).fdiv 3) (b:=4) (by decide)
  obtain⟨nt,ent⟩:∃ nt:Nat,1+(ns.getD 0 0).fmod 3=(nt:Int):=⟨(1+(ns.getD 0 0).fmod 3).toNat,by lia⟩
  obtain⟨nb,enb⟩:∃ nb:Nat,1+((ns.getD 0 0).fdiv 3).fmod 4=(nb:Int):=⟨(1+((ns.getD 0 0).fdiv 3).fmod 4).toNat,by lia⟩
  have nms:=j8e (a:=nt) (b:=nb) (by lia) (by lia) (by lia) (by lia)
  have tl:(nmT.take nt).length=nt:=by rw [D9]; show min nt 3=nt; lia
  obtain⟨ts,ets⟩:∃ ts,nmT.take nt=ts:=⟨_,rfl⟩
  obtain⟨bu,ebu⟩:∃ bu,nmB.take nb=bu:=⟨_,rfl⟩
  obtain⟨Mid2,in2,out2⟩:=g3q (fun Aa H'=>∃ (fi:Int) (nl:Addr),Aa = [some (.ref a),some (.int fi),some (.int (nt:Int)),some (.ref nl),none,none,none,none,none,none,none,none,none,none,none,none,none,none,none,none]/\Same H H'/\H' nl=some (.lst ((ts++bu).map V.str)))
  walk_at"rs"
  rw [ent]
  refine⟨Mid2,?_,?_⟩
  .have cs:∀ (xs:List Str) lo hi,f0y (xs.map V.str) lo hi=(f1m xs lo hi).map V.str:=fun xs lo hi=>f9w V.str xs lo hi
   walk_at"rs"
   refine⟨by lia,fun l1 H1 n1 S1 h1=>?_⟩
   rw [show [V.str (B0 "dry"),V.str (B0 "wet"),V.str (B0 "x")]=nmT.map V.str from rfl] at h1
   walk_at"rs*"
   intro l2 H2 n2 S2 h2
   rw [d0i,ets] at h2
   walk_at"rs"
   refine⟨by lia,fun l3 H3 n3 S3 h3=>?_⟩
   rw [show [V.str (B0 "mix"),V.str (B0 "left"),V.str (B0 "y"),V.str (B0 "room")]=nmB.map V.str from rfl] at h3
   have h23:=S3 _ _ h2
   clear h1 h2
   walk_at"rs*"
   refine⟨⟨by decide,by decide⟩,fun l4 H4 n4 S4 h4=>?_⟩
   rw [d0i,ebu] at h4
   have h24:=S4 _ _ h23
   have l9:=C1 (as:=ts) (bs:=bu)
   have tb9:ts.length<=3/\bu.length<=4:=by rw [<- ets,<- ebu,D9,D9]; show min nt 3<=3/\min nb 4<=4; lia
   clear h3 h23
   walk_at"rs*"
   refine⟨by lia,fun l5 H5 n5 S5 h5=>in2 _ _ ⟨_,l5,rfl,S1.trans (S2.trans (S3.trans (S4.trans S5))),by rw [h5,Co]⟩⟩
  intro Af H2 hm2
  refine hid fun zN zh=>?_
  walk_at"@out2 _ _ hm2@efi nl@crfl S2 hn2"
  rw [ets,ebu] at nms
  rw [ets] at tl
  clear hm2 in2 out2 f1 f2 ets ebu ent enb
  walk_at"rs"
  refine⟨ns,ts,by rw [tl],S2.seq hS,bc,bu,hn2,nms,fun po bs es H3 S3 P3 gd=>?_⟩
  have hn3:=S3 _ _ hn2
  have S03:=S2.trans S3
  have t13:=nms.2.2.1
  have t33:=nms.2.2.2.1
  clear hn2
  obtain⟨Mid5,in5,out5⟩:=g3q (fun Aa H'=>∃ (lt:Addr) (tn:List Int),Aa = [some (.ref a),some (.int fi),some (.int (nt:Int)),some (.ref nl),some (.ref po),some (.int 2000001),some (.ref lt),none,none,none,none,none,none,none,none,none,none,none,none,none]/\Same H3 H'/\H' lt=some (.lst (tn.map V.int))/\tn.length<=63/\∀ x∈tn,-1000000<=x/\x<=1000000)
  walk_at"rs"
  refine⟨by decide,Du (by decide),?_⟩
  walk_at"rs"
  refine⟨Mid5,?_,?_⟩
  .walk_at"rs"
   refine⟨_,S03.seq hS,fun p4 H4 n4 S4 h4=>?_⟩
   rw [c5y] at h4
   have hmem:∀ x∈f1m ns (some 8) (some 71),intBits x<=1100000:=fun x hx=>Bz (hbit x (i1n hx)) (by decide)
   have ml:=i1o ns (some 8) (some 71)
   generalize f1m ns (some 8) (some 71)=ms at h4 hmem ml
   walk_at"rs"
   refine⟨⟨_,SqL.of h4⟩,fun D H5 n5 S5 h5=>?_⟩
   refine b1i (xs:=ms.map V.int) (fun i ys H'=>Same H4 H'/\H' D=some (.lst ys)/\∃ tn:List Int,ys=tn.map V.int/\tn.length=i/\∀ x∈tn,-1000000<=x/\x<=1000000) ⟨S5,h5,[],rfl,rfl,fun x hx=>by cases hx⟩ (by rw [Bv]; lia) ?_ ?_ ?_
   .intro i ys H' hi ⟨S',h',tn,e,tl',_⟩
    exact⟨h',SqL.of (S' _ _ h4),by rw [e,Bv]; exact tl'⟩
   .intro i x ys H' hx ⟨S',h',tn,e,tl',tb⟩
    rw [C9] at hx
    obtain⟨c,hc,rfl⟩:=C7.mp hx
    have bx:=hmem c (Ca hc)
    walk_at"rs"
    have f:=b6p ((c*618033988749894848204587).fmod 1000000000000000000000007) (b:=2000001) (by decide)
    refine⟨by walk_at"mul",by decide,by decide,h',?_⟩
    generalize ((c*618033988749894848204587).fmod 1000000000000000000000007).fmod 2000001=X at f ⊢
    refine fun H7 B7 h7=>⟨S'.step n5 B7,h7,tn++[X - 1000000],by rw [e,Co]; rfl,by rw [C1,tl']; rfl,fun y hy=>?_⟩
    rcases De.mp hy with m | m
    .exact tb y m
    .rw [Dh.mp m]
     lia
   intro ys H6 ⟨S6,h6,tn,e,tl',tb⟩
   subst e
   rw [Bv] at tl'
   walk_at"rs"
   exact in5 _ _ ⟨D,tn,rfl,S4.trans S6,h6,by lia,tb⟩
  intro As H5 hm5
  refine hid fun zN zh=>?_
  walk_at"@out5 _ _ hm5@elt tn@crfl S5 h5 tn63 tnb"
  clear hm5 in5 out5
  have S05:=S03.trans S5
  have P5:=P3.same S5
  have hn5:=S5 _ _ hn3
  clear hn3 P3
  walk_at"rs*"
  obtain⟨n,en,nle⟩:∃ n:Nat,(tn.length:Int).fdiv (2*(nt:Int))=(n:Int)/\(nt+nt)*n<=tn.length:=⟨tn.length / (nt+nt),by rw [show 2*(nt:Int)=((nt+nt:Nat):Int) by lia,Iw _ (by lia)]; rfl,Nat.mul_div_le _ _⟩
  rw [en]
  have n63:n<=63:=by
   have:1*n<=(nt+nt)*n:=Ek _ (by lia)
   lia
  have rl1:∀ k,k < nt->(rwA tn n k).length=n:=fun k hk=>i0j nle (by lia)
  have rl2:∀ k,k < nt->(rwA tn n (nt+k)).length=n:=fun k hk=>i0j nle (by lia)
  obtain⟨Mid7,in7,out7⟩:=g3q (fun Aa H'=>∃ (lr:Addr) (ras:List Addr),Aa = [some (.ref a),some (.int fi),some (.int (nt:Int)),some (.ref nl),some (.ref po),some (.int 2000001),some (.ref lt),some (.int (n:Int)),some (.ref lr),none,none,none,none,none,none,none,none,none,none,none]/\Same H5 H'/\H' lr=some (.lst (ras.map V.ref))/\Rws H' ras ((Cz nt).map (rwA tn n)))
  refine⟨Du (by decide),⟨by lia,D8.mpr (by lia:(2*(nt:Int)).natAbs < 2 ^ 9000)⟩,?_⟩
  walk_at"rs"
  refine⟨Mid7,?_,?_⟩
  .walk_at"rs*"
   refine⟨by lia,by lia,fun D H6 n6 S6 h6=>?_⟩
   rw [Dy]
   refine d4g (fun j ys H'=>Same H5 H'/\H' D=some (.lst ys)/\∃ ras:List Addr,ys=ras.map V.ref/\ras.length=j/\∀ (k:Nat) b,ras[k]? = some b->H' b=some (.lst ((rwA tn n k).map V.int))/\b≠D) ⟨S6,h6,[],rfl,rfl,fun k b hb=>by simp at hb⟩ (by lia) ?_ ?_ ?_
   .intro j ys H' hj ⟨S',h',ras,e,rl,_⟩
    exact⟨h',by rw [e,Bv]; exact rl⟩
   .intro j ys H' hj ⟨S',h',ras,e,rl,ra⟩
    have h5':=S' _ _ h5
    clear h6
    walk_at"rs*"
    refine⟨Du (Ei (by lia) (by lia)),Du (Ei (by lia) (by lia)),fun l8 H8 n8 S8 h8=>?_⟩
    rw [c5y,show ((j:Int)+1)*(n:Int)=((j*n:Nat):Int)+(n:Int) by rw [Int.add_mul,Hz,Fj],show (j:Int)*(n:Int)=((j*n:Nat):Int) by rw [Fj],g3p] at h8
    have nD:l8≠D:=fun k=>by rw [k,h'] at n8; cases n8
    refine⟨S8 _ _ h',fun H9 B9 h9=>⟨(S'.trans S8).step n6 B9,h9,ras++[l8],by rw [e,Co]; rfl,by rw [C1,rl]; rfl,fun k b hb=>?_⟩⟩
    rcases F0 k ras.length with hk | hk
    .rw [Cm hk] at hb
     exact⟨B9 _ _ (ra k b hb).2 (S8 _ _ (ra k b hb).1),(ra k b hb).2⟩
    .have hk':=(Bu.mp hb).1
     rw [C1,Cw] at hk'
     obtain rfl:k=ras.length:=by lia
     rw [E5] at hb
     cases hb
     rw [rl]
     exact⟨B9 _ _ nD h8,nD⟩
   intro ys H7 ⟨S7,h7,ras,e,rl,ra⟩
   subst e
   walk_at"rs"
   refine in7 _ _ ⟨D,ras,rfl,S7,h7,by rw [rl,Bv,Ga],fun k b r hb hr'=>?_⟩
   have hk:=(Bu.mp hb).1
   rw [C9,Ed (by lia)] at hr'
   rw [<- E8 hr']
   exact (ra k b hb).1
  intro Aj H7 hm7
  refine hid fun zN zh=>?_
  walk_at"@out7 _ _ hm7@elr ras@crfl S7 h7 R7"
  clear hm7 in7 out7
  have h57:=S7 _ _ h5
  obtain⟨Mid8,in8,out8⟩:=g3q (fun Aa H'=>∃ (l2:Addr) (ra2:List Addr),Aa = [some (.ref a),some (.int fi),some (.int (nt:Int)),some (.ref nl),some (.ref po),some (.int 2000001),some (.ref lt),some (.int (n:Int)),some (.ref lr),some (.ref l2),none,none,none,none,none,none,none,none,none,none]/\Same H7 H'/\H' l2=some (.lst (ra2.map V.ref))/\Rws H' ra2 ((Cz nt).map fun k=>rwA tn n (nt+k)))
  walk_at"rs"
  refine⟨Mid8,?_,?_⟩
  .walk_at"rs*"
   refine⟨by lia,by lia,fun D H6 n6 S6 h6=>?_⟩
   rw [Dy]
   refine d4g (fun j ys H'=>Same H7 H'/\H' D=some (.lst ys)/\∃ ras:List Addr,ys=ras.map V.ref/\ras.length=j/\∀ (k:Nat) b,ras[k]? = some b->H' b=some (.lst ((rwA tn n (nt+k)).map V.int))/\b≠D) ⟨S6,h6,[],rfl,rfl,fun k b hb=>by simp at hb⟩ (by lia) ?_ ?_ ?_
   .intro j ys H' hj ⟨S',h',ras,e,rl,_⟩
    exact⟨h',by rw [e,Bv]; exact rl⟩
   .intro j ys H' hj ⟨S',h',ras,e,rl,ra⟩
    have h5':=S' _ _ h57
    clear h6
    rw [Int.zero_add]
    walk_at"rs*"
    refine⟨Du (Ei (by lia) (by lia)),Du (Ei (by lia) (by lia)),fun l8 H8 n8 S8 h8=>?_⟩
    rw [c5y,show ((nt:Int)+(j:Int)+1)*(n:Int)=(((nt+j)*n:Nat):Int)+(n:Int) by rw [Int.add_mul,Hz,Fj,Gx],show ((nt:Int)+(j:Int))*(n:Int)=(((nt+j)*n:Nat):Int) by rw [Fj,Gx],g3p] at h8
    have nD:l8≠D:=fun k=>by rw [k,h'] at n8; cases n8
    refine⟨S8 _ _ h',fun H9 B9 h9=>⟨(S'.trans S8).step n6 B9,h9,ras++[l8],by rw [e,Co]; rfl,by rw [C1,rl]; rfl,fun k b hb=>?_⟩⟩
    rcases F0 k ras.length with hk | hk
    .rw [Cm hk] at hb
     exact⟨B9 _ _ (ra k b hb).2 (S8 _ _ (ra k b hb).1),(ra k b hb).2⟩
    .have hk':=(Bu.mp hb).1
     rw [C1,Cw] at hk'
     obtain rfl:k=ras.length:=by lia
     rw [E5] at hb
     cases hb
     rw [rl]
     exact⟨B9 _ _ nD h8,nD⟩
   intro ys H7 ⟨S7,h7,ras,e,rl,ra⟩
   subst e
   walk_at"rs"
   refine in8 _ _ ⟨D,ras,rfl,S7,h7,by rw [rl,Bv,Ga],fun k b r hb hr'=>?_⟩
   have hk:=(Bu.mp hb).1
   rw [C9,Ed (by lia)] at hr'
   rw [<- E8 hr']
   exact (ra k b hb).1
  intro Au H8 hm8
  refine hid fun zN zh=>?_
  walk_at"@out8 _ _ hm8@el2 ra2@crfl S8 h8 R8"
  clear hm8 in8 out8 h5 h57 en
  have S08:=S05.trans (S7.trans S8)
  have P8:=P5.same (S7.trans S8)
  have hn8:=(S7.trans S8) _ _ hn5
  have h78:=S8 _ _ h7
  have R78:Rws H8 ras ((Cz nt).map (rwA tn n)):=⟨R7.1,fun i b r e1 e2=>S8 _ _ (R7.2 i b r e1 e2)⟩
  clear P5 hn5 h7 R7
  obtain⟨Mid9,in9,out9⟩:=g3q (fun Aa H'=>∃ ma:Int,-1000<=ma/\ma<=1000/\Aa = [some (.ref a),some (.int fi),some (.int (nt:Int)),some (.ref nl),some (.ref po),some (.int 2000001),some (.ref lt),some (.int (n:Int)),some (.ref lr),some (.ref l2),some (.int ma),none,none,none,none,none,none,none,none,none]/\H'=H8)
  walk_at"rs"
  refine⟨Mid9,?_,?_⟩
  .walk_at"rs"
   refine⟨ns,S08.seq hS,Fc (by decide),in9 _ _ ⟨_,?_,?_,rfl,rfl⟩⟩
   .have:=b6p ((ns.getD 1 0*48271).fmod 1000003) (b:=2001) (by decide)
    lia
   .have:=b6p ((ns.getD 1 0*48271).fmod 1000003) (b:=2001) (by decide)
    lia
  intro Bj H9 hm9
  refine hid fun zN zh=>?_
  walk_at"@out9 _ _ hm9@ema@cma1 ma2 rfl e9"
  clear hm9 in9 out9
  subst e9
  obtain⟨Mid10,in10,out10⟩:=g3q (fun Aa H'=>∃ mo:Int,-1000<=mo/\mo<=1000/\Aa = [some (.ref a),some (.int fi),some (.int (nt:Int)),some (.ref nl),some (.ref po),some (.int 2000001),some (.ref lt),some (.int (n:Int)),some (.ref lr),some (.ref l2),some (.int ma),some (.int mo),none,none,none,none,none,none,none,none]/\H'=H9)
  walk_at"rs"
  refine⟨Mid10,?_,?_⟩
  .walk_at"rs"
   refine⟨ns,S08.seq hS,Fc (by decide),in10 _ _ ⟨_,?_,?_,rfl,rfl⟩⟩
   .have:=b6p ((ns.getD 1 0*16807).fmod 999983) (b:=2001) (by decide)
    lia
   .have:=b6p ((ns.getD 1 0*16807).fmod 999983) (b:=2001) (by decide)
    lia
  intro Bm H10 hm10
  refine hid fun zN zh=>?_
  walk_at"@out10 _ _ hm10@emo@cmo1 mo2 rfl e10"
  clear hm10 in10 out10
  subst e10
  walk_at"rs"
  refine⟨by lia,fun l3 H11 n11 S11 h11=>?_⟩
  walk_at"rs"
  obtain⟨Mid12,in12,out12⟩:=g3q (fun Aa H'=>∃ (v13 v14 v15 v16 v17:Option V) (ra3:List Addr),Aa = [some (.ref a),some (.int fi),some (.int (nt:Int)),some (.ref nl),some (.ref po),some (.int 2000001),some (.ref lt),some (.int (n:Int)),some (.ref lr),some (.ref l2),some (.int ma),some (.int mo),some (.ref l3),v13,v14,v15,v16,v17,none,none]/\Same H10 H'/\H' l3=some (.lst (ra3.map V.ref))/\Rws H' ra3 ((Cz nt).map fun k=>h0k ma mo (rwA tn n k) (rwA tn n (nt+k))))
  refine⟨Mid12,?_,?_⟩
  .have h7':=S11 _ _ h78
   have h8':=S11 _ _ h8
   walk_at"rs*"
   obtain⟨Pv,pin,pout⟩:=b9o (fun i Aa H'=>∃ (v13 v14 v15 v16 v17:Option V) (ra3:List Addr),Aa = [some (.ref a),some (.int fi),some (.int (nt:Int)),some (.ref nl),some (.ref po),some (.int 2000001),some (.ref lt),some (.int (n:Int)),some (.ref lr),some (.ref l2),some (.int ma),some (.int mo),some (.ref l3),v13,v14,v15,v16,v17,none,none]/\Same H10 H'/\H' l3=some (.lst (ra3.map V.ref))/\ra3.length=i/\∀ (k:Nat) b,ra3[k]? = some b->H' b=some (.lst ((h0k ma mo (rwA tn n k) (rwA tn n (nt+k))).map V.int))/\b≠l3)
   have l78:=R78.1
   have l8:=R8.1
   rw [Bv,Ga] at l78 l8
   refine d5q (xs:=ras.map V.ref) (ys:=ra2.map V.ref) Pv (pin _ _ _ ⟨_,_,_,_,_,[],rfl,S11,h11,rfl,fun k b hb=>by simp at hb⟩) ?_ ?_ ?_
   .intro i O H12 hp
    walk_at"@pout _ _ _ hp@e_ _ _ _ _ _@crfl S12 _"
    exact⟨SqL.of (S12 _ _ h78),SqL.of (S12 _ _ h8)⟩
   .intro i x y O H12 p H13 hx hy hp np S13 h13
    refine i2l fun zV zv=>?_
    walk_at"@pout _ _ _ hp@ev13 v14 v15 v16 v17 ra3@crfl S12 h12 rl3 r3"
    rw [C9] at hx hy
    obtain⟨pa,hpa,rfl⟩:=C7.mp hx
    obtain⟨pb,hpb,rfl⟩:=C7.mp hy
    have hi:=(Bu.mp hpa).1
    have ha:=S13 _ _ (S12 _ _ (R78.2 i pa _ hpa (by rw [C9,Ed (by lia)]; rfl)))
    have hb:H13 pb=some (.lst ((rwA tn n (nt+i)).map V.int)):=S13 _ _ (S12 _ _ (R8.2 i pb _ hpb (by rw [C9,Ed (by lia)]; rfl)))
    have j8g:=S13 _ _ h12
    have xl:=rl1 i (by lia)
    have yl:=rl2 i (by lia)
    have xb:∀ y∈rwA tn n i,-1000000<=y/\y<=1000000:=fun y hy=>tnb y (d8v hy)
    have yb:∀ y∈rwA tn n (nt+i),-1000000<=y/\y<=1000000:=fun y hy=>tnb y (d8v hy)
    obtain⟨X,eX⟩:∃ X,rwA tn n i=X:=⟨_,rfl⟩
    obtain⟨Y,eY⟩:∃ Y,rwA tn n (nt+i)=Y:=⟨_,rfl⟩
    rw [eX] at ha xl xb
    rw [eY] at hb yl yb
    clear hx hy h78 h8 h12 h11 h7' h8'
    walk_at"rs*"
    intro lw H14 n14 S14 h14
    have ha4:=S14 _ _ ha
    have hb4:=S14 _ _ hb
    have k6c:=S14 _ _ j8g
    have S24:=S12.trans (S13.trans S14)
    have nl3:lw≠l3:=fun k=>by rw [k,j8g] at n14; cases n14
    clear h13 np
    walk_at"rs*"
    obtain⟨Pw,qin,qout⟩:=b9o (fun j Aa H'=>∃ (v16 v17:Option V),Aa = [some (.ref a),some (.int fi),some (.int (nt:Int)),some (.ref nl),some (.ref po),some (.int 2000001),some (.ref lt),some (.int (n:Int)),some (.ref lr),some (.ref l2),some (.int ma),some (.int mo),some (.ref l3),some (.ref pa),some (.ref pb),some (.ref lw),v16,v17,none,none]/\Same H13 H'/\H' lw=some (.lst (((h0k ma mo X Y).take j).map V.int)))
    have Ll:=(Lin.zip ma mo xl yl).2.2.1
    refine d5q (xs:=X.map V.int) (ys:=Y.map V.int) Pw (qin _ _ _ ⟨_,_,rfl,S14,h14⟩) ?_ ?_ ?_
    .intro j O H15 hp
     walk_at"@qout _ _ _ hp@e_ _@crfl S15 _"
     exact⟨SqL.of (S15 _ _ ha),SqL.of (S15 _ _ hb)⟩
    .intro j x y O H15 p' H16 hx hy hp np' S16 h16
     refine i2l fun zV zv=>?_
     walk_at"@qout _ _ _ hp@eu16 u17@crfl S15 h15"
     rw [C9] at hx hy
     obtain⟨u,hu',rfl⟩:=C7.mp hx
     obtain⟨v,hv',rfl⟩:=C7.mp hy
     have h156:=S16 _ _ h15
     clear hx hy h15 ha4 hb4 k6c h14 ha hb j8g
     walk_at"rs*"
     refine⟨Du (Ei (by lia) (by lia)),Du (Ei (by lia) (by lia)),by rw [D9]; lia,?_⟩
     rintro _ H17 ⟨rfl,B17,h17⟩
     exact qin _ _ _ ⟨_,_,rfl,(S15.trans S16).step n14 B17,by rw [h17,i0l hu' hv',Co]; rfl⟩
    .intro O H15 hp
     walk_at"@qout _ _ _ hp@eu16 u17@crfl S15 h15"
     rw [Bv,Bv,xl,yl,Io,Ef (by lia)] at h15
     have h125:=S15 _ _ j8g
     clear ha hb ha4 hb4 k6c h14 j8g
     walk_at"rs*"
     refine⟨by lia,?_⟩
     rintro _ H17 ⟨rfl,B17,h17⟩
     refine pin _ _ _ ⟨_,_,_,_,_,ra3++[lw],rfl,((S12.trans S13).trans S15).step n11 B17,by rw [h17,Co]; rfl,by rw [C1,rl3]; rfl,fun k b hb=>?_⟩
     rcases F0 k ra3.length with hk | hk
     .rw [Cm hk] at hb
      exact⟨B17 _ _ (r3 k b hb).2 (S15 _ _ (S13 _ _ (r3 k b hb).1)),(r3 k b hb).2⟩
     .have hk':=(Bu.mp hb).1
      rw [C1,Cw] at hk'
      obtain rfl:k=ra3.length:=by lia
      rw [E5] at hb
      cases hb
      rw [rl3,eX,eY]
      exact⟨B17 _ _ nl3 h15,nl3⟩
   .intro O H12 hp
    walk_at"@pout _ _ _ hp@ev13 v14 v15 v16 v17 ra3@crfl S12 h12 rl3 r3"
    rw [Bv,Bv,l78,l8,Io] at rl3
    refine in12 _ _ ⟨_,_,_,_,_,ra3,rfl,S12,h12,by rw [rl3,Bv,Ga],fun k b r hb hr'=>?_⟩
    have hk:=(Bu.mp hb).1
    rw [C9,Ed (by lia)] at hr'
    rw [<- E8 hr']
    exact (r3 k b hb).1
  intro Bl H12 hm12
  refine hid fun zN zh=>?_
  walk_at"@out12 _ _ hm12@ev13 v14 v15 v16 v17 ra3@crfl S12 h12 R12"
  clear hm12 in12 out12
  have j8h:=S12 _ _ hn8
  have P12:c1p A H12 _ po ⟨ts,bs,es.map f8t,[]⟩:=P8.same S12
  have k6d:=S12 _ _ h78
  have k6e:=S12 _ _ h8
  have k6f:Rws H12 ras ((Cz nt).map (rwA tn n)):=⟨R78.1,fun i b r e1 e2=>S12 _ _ (R78.2 i b r e1 e2)⟩
  have k2z:Rws H12 ra2 ((Cz nt).map fun k=>rwA tn n (nt+k)):=⟨R8.1,fun i b r e1 e2=>S12 _ _ (R8.2 i b r e1 e2)⟩
  clear h11 n11 S11 hn8 P8 h78 h8 R78 R8
  have rg:∀ {f:Nat->List Int},(∀ k,k < nt->(f k).length=n/\∀ y∈f k,-1000000000000<=y/\y<=1000000000000)->((Cz nt).map f).length=ts.length/\∀ r∈(Cz nt).map f,h8q r/\r.length=n:=fun {f} h=>⟨by rw [Bv,Ga,tl],fun r hr'=>by
   obtain⟨k,hk,rfl⟩:=E4.mp hr'
   have:=h k (Qo.mp hk)
   exact⟨⟨by rw [this.1]; lia,this.2⟩,this.1⟩⟩
  have g1:=rg (f:=rwA tn n) fun k hk=>⟨rl1 k hk,fun y hy=>by have:=tnb y (d8v hy); lia⟩
  have g2:=rg (f:=fun k=>rwA tn n (nt+k)) fun k hk=>⟨rl2 k hk,fun y hy=>by have:=tnb y (d8v hy); lia⟩
  have g3:=rg (f:=fun k=>h0k ma mo (rwA tn n k) (rwA tn n (nt+k))) fun k hk=>⟨(Lin.zip ma mo (rl1 k hk) (rl2 k hk)).2.2.1,fun y hy=>by
   walk_at"@i4i hy@eu v@chu' hv' rfl"
   have u1:=tnb u (d8v hu')
   have v1:=tnb v (d8v hv')
   exact j0s ma1 ma2 mo1 mo2 u1.1 u1.2 v1.1 v1.2⟩
  clear rg
  walk_at"rs"
  refine⟨ts,bu,bs,es,_,P12,gd,nms,j8h,_,ras,k6d,k6f,g1.1,n,g1.2,by lia,fun d1 k1 H13 C13 h13 ky13 F13=>?_⟩
  clear k6f k6d
  walk_at"rs"
  refine⟨ts,bu,bs,es,_,P12.f1j C13,gd,nms,C13 _ _ noL j8h,_,ra2,C13 _ _ noL k6e,⟨k2z.1,fun i b r e1 e2=>C13 _ _ noL (k2z.2 i b r e1 e2)⟩,g2.1,n,g2.2,by lia,fun d2 k2 H14 C14 h14 ky14 F14=>?_⟩
  clear k2z k6e
  have C24:=C13.trans C14
  walk_at"rs"
  refine⟨ts,bu,bs,es,_,P12.f1j C24,gd,nms,C24 _ _ noL j8h,_,ra3,C24 _ _ noL h12,⟨R12.1,fun i b r e1 e2=>C24 _ _ noL (R12.2 i b r e1 e2)⟩,g3.1,n,g3.2,by lia,fun d3 k3 H15 C15 h15 ky15 F15=>?_⟩
  have k3a:=C15 _ _ noL (C24 _ _ noL j8h)
  have k6g:=C15 _ _ noD (C14 _ _ noD h13)
  have k6h:=C15 _ _ noD h14
  have F135:=((F13.f1j C14).f1j C15).mono (R':=fun _=>True) fun _ _=>trivial
  have F145:=(F14.f1j C15).mono (R':=fun _=>True) fun _ _=>trivial
  have F155:=F15.mono (R':=fun _=>True) fun _ _=>trivial
  clear R12 h12 P12 j8h h13 h14 F13 F14 F15 C13 C14 C15 C24 S12
  walk_at"@gd.ord@co1 o2 o3 o4"
  have pmo:(ts++obL bs es).Perm (ts++bu):=List.Perm.append_left ts ((List.perm_ext_iff_of_nodup o2 (nms.2.1.sublist (Iy ts bu))).mpr o3)
  have k6i:(ts++bu).length < 64:=by
   rw [C1]
   have:=nms.2.2.2.2.2
   lia
  walk_at"rs"
  refine h1i (ts++obL bs es) (.inr ⟨_,h15,ky15⟩) (by rw [pmo.length_eq]; exact k6i) fun p3 z3 H16 n16 S16 h16 pm16 so16=>?_
  refine h1i (ts++bu) (.inl (S16 _ _ k3a)) k6i fun p4 z4 H17 n17 S17 h17 pm17 so17=>?_
  obtain rfl:=h7k (pm16.trans (pmo.trans pm17.symm)) so16 so17
  have zk:∀ s∈z3,D1 s=true:=fun s hs=>g9f (nms.1 s (pm17.mem_iff.mp hs))
  have j0t:=S16.trans S17
  have k6j:=S17 _ _ h16
  have k3b:=j0t _ _ k3a
  have hd1:=j0t _ _ k6g
  have hd2:=j0t _ _ k6h
  have hd3:=j0t _ _ h15
  have F1:=F135.f1j (A:=A) (d3l.of j0t)
  have F2:=F145.f1j (A:=A) (d3l.of j0t)
  have F3:=F155.f1j (A:=A) (d3l.of j0t)
  clear h15 ky15 h16 n16 n17 so16 so17 pm16 F135 F145 F155 k6g k6h k3a
  walk_at"rs"
  refine f1o (ns:=z3) (ms:=z3) (SqL.of k6j) (SqL.of h17) zk zk ?_
  rw [decide_eq_true (rfl:z3=z3),Bool.not_true]
  clear k6j h17 zk pm17
  walk_at"rs"
  refine⟨⟨_,SqL.of k3b⟩,?_⟩
  obtain⟨Pv,pin,pout⟩:=b9o (fun _ Aa H'=>∃ (v:Option V),Aa = [some (.ref a),some (.int fi),some (.int (nt:Int)),some (.ref nl),some (.ref po),some (.int 2000001),some (.ref lt),some (.int (n:Int)),some (.ref lr),some (.ref l2),some (.int ma),some (.int mo),some (.ref l3),v13,v14,v15,some (.ref d1),some (.ref d2),some (.ref d3),v]/\H'=H17)
  refine a5k (xs:=(ts++bu).map V.str) Pv (pin _ _ _ ⟨_,rfl,rfl⟩) ?_ ?_ ?_
  .intro i O H18 hi hp
   obtain⟨v,rfl,rfl⟩:=pout _ _ _ hp
   exact SqL.of k3b
  .intro i v O H18 hv hp
   refine i2l fun zV zv=>?_
   obtain⟨v18,rfl,e18⟩:=pout _ _ _ hp
   subst e18
   rw [C9] at hv
   obtain⟨x,hx,rfl⟩:=C7.mp hv
   have mx:x∈ts++obL bs es:=pmo.mem_iff.mpr (Ca hx)
   walk_at"@F1 x mx@eq1 a1@ce1 e2 e3 _"
   walk_at"@F2 x mx@eq2 a2@cc1 c2 c3 _"
   walk_at"@F3 x mx@eq3 a3@cx1 x2 x3 _"
   have L:=Lin.flw (n:=n) (a:=ma) (b:=mo) es (d3i es (obL bs es)) (obL bs es) (fun z=>Lin.rows rl1 rl2 ts z) x
   have sok:∀ e∈es,h8p e:=fun e he=>(gd.2.2.2.2 e he).1
   have bo:=g2j sok _ (obL bs es) rfl
   have c6:100*2 ^ f8u es (obL bs es)<=100*2 ^ 6:=Gq _ (Ej (by decide) (Bz (g9d es o2) gd.2.2.2.1))
   have bb:∀ z,intBits (d3i es (obL bs es) z)<=6400:=fun z=>Bz (bo z).2 c6
   have ob4:(obL bs es).length<=4:=by rw [o1]; exact nms.2.2.2.2.2
   have fb:∀ {rows:List (List Int)},(∀ r∈rows,h8q r/\r.length=n)->∀ y∈flw es (d3i es (obL bs es)) n (fdF ts rows n) (obL bs es) x,intBits y<=60000:=fun {rows} h y hy=>by
    have:=i0g sok gd.2.2.2.1 bb o4 (fun z _=>k2y (ts:=ts) (fun r hr'=>⟨(h r hr').2,fun y hy=>D8.mpr (by have:=(h r hr').1.2 y hy; lia:y.natAbs < 2 ^ 50)⟩) z) _ (C0 _) x (by rw [Dg]; exact mx)
    rw [Dg] at this
    exact Bz (this.2 y hy) (by lia)
   have b1:=fb g1.2
   have b2:=fb g2.2
   have b3:=fb g3.2
   have gx:=bb x
   generalize flw es (d3i es (obL bs es)) n (fdF ts ((Cz nt).map (rwA tn n)) n) (obL bs es) x=W1 at L e3 b1
   generalize flw es (d3i es (obL bs es)) n (fdF ts ((Cz nt).map fun k=>rwA tn n (nt+k)) n) (obL bs es) x=W2 at L c3 b2
   generalize flw es (d3i es (obL bs es)) n (fdF ts ((Cz nt).map fun k=>h0k ma mo (rwA tn n k) (rwA tn n (nt+k))) n) (obL bs es) x=W3 at L x3 b3
   generalize d3i es (obL bs es) x=gg at e2 c2 x2 gx
   have l3':(W3.length:Int)=(n:Int):=by rw [L.2.2.1]
   have ab:intBits ma<=20:=D8.mpr (by lia:ma.natAbs < 2 ^ 20)
   have mb:intBits mo<=20:=D8.mpr (by lia:mo.natAbs < 2 ^ 20)
   have Y1:∀ {W:List Int},(∀ y∈W,intBits y<=60000)->∀ y∈W,intBits y<=80000:=fun h y hy=>Bz (h y hy) (by decide)
   clear hv hp k3b fb F1 F2 F3 bb bo c6 sok g1 g2 g3 rl1 rl2 hS hbit hO bc nms gd tnb nle pmo o1 o2 o3 o4 mx hx ky13 ky14
   walk_at"rs*"
   exact⟨a1,a2,a3,W1,W2,W3,gg,⟨rfl,rfl⟩,x3,⟨rfl,rfl⟩,e3,⟨rfl,rfl⟩,c3,n,L,by lia,Bz gx (by decide),Y1 b1,Y1 b2,Y1 b3,pin _ _ _ ⟨_,rfl,rfl⟩⟩
  .intro O H18 hp
   obtain⟨v,rfl,rfl⟩:=pout _ _ _ hp
   walk_at"rs"
   exact q _
theorem len1{α:Type _}{us:List α}(h:us.length=1):∃ a,us = [a]:=match us,h with | [a],_=>⟨a,rfl⟩
local macro_rules | `(tactic| walk_at "b1") => `(tactic| (intro _ _ _ _ _ _ us hl; obtain ⟨_, e⟩ := len1 hl; subst e; rfl))
theorem len2{α:Type _}{us:List α}(h:us.length=2):∃ a b,us = [a,b]:=match us,h with | [a,b],_=>⟨a,b,rfl⟩
local macro_rules | `(tactic| walk_at "b2") => `(tactic| (intro _ _ _ _ _ _ us hl; obtain ⟨_, _, e⟩ := len2 hl; subst e; rfl))
theorem len3{α:Type _}{us:List α}(h:us.length=3):∃ a b c,us = [a,b,c]:=match us,h with | [a,b,c],_=>⟨a,b,c,rfl⟩
local macro_rules | `(tactic| walk_at "b3") => `(tactic| (intro _ _ _ _ _ _ us hl; obtain ⟨_, _, _, e⟩ := len3 hl; subst e; rfl))
theorem len4{α:Type _}{us:List α}(h:us.length=4):∃ a b c d,us = [a,b,c,d]:=match us,h with | [a,b,c,d],_=>⟨a,b,c,d,rfl⟩
local macro_rules | `(tactic| walk_at "b4") => `(tactic| (intro _ _ _ _ _ _ us hl; obtain ⟨_, _, _, _, e⟩ := len4 hl; subst e; rfl))
theorem len5{α:Type _}{us:List α}(h:us.length=5):∃ a b c d e,us = [a,b,c,d,e]:=match us,h with | [a,b,c,d,e],_=>⟨a,b,c,d,e,rfl⟩
local macro_rules | `(tactic| walk_at "b5") => `(tactic| (intro _ _ _ _ _ _ us hl; obtain ⟨_, _, _, _, _, e⟩ := len5 hl; subst e; rfl))
theorem all_mk{l:W.OpenLaw}{K:Bw}{h:Heap}{fa:Addr}{b6v b0l b6y b9w b7h b7j f3s d4k a3y a5l b0m b3n c2o c2p b0n a4z b7l b0o a6q b7m b4i a5n b4j b3o b7n b0p a6r b4m b7o b7p b0q a6s b7q a5q b3p b3q f3t a7z b4s a8g b1s a7i a7j a5r b4t b3r a8h b3s a8i b9y b4w b9z c0g a8j b4y c2q b7t b4z a7k b1v b1w b7v b1y a6j a2y b1z a6k c2r b5g a5i b2h b7y b5i b7z a9p b2k b5k b2m a7m a8k a8l b8g b8i b3t b3u a6u g4r f0h a8u a4s a5s a7q a2w a7o a4h a4t a3h:Addr}{b6w b1k b6z b7g b7i b7k d7m d3g a4k a5y b1l b3z c1u c1v b1m b1n b4g a7v a5m b4h b1o a4l b1p b4k b4l a7w a5o b1q b4n b4o a7y a5p b4p a5z b4q b4r d7n a8z b1r a6t a9g a6g a6h a4m b1t b4u a9h b4v a9i c1w b7r c1y c1z a9j b7s c2g b7u b1u a6i a9k a9l b7w a9m a5g a2t a9n a5h c2h b2g a4g a9o b5h b2j b5j a7l a9q b2l a9r a6l a9s a9t b8h b8j b5l b5m a7n f0g:C8}{c6j a2z a3g b8k b8l b5n c6k a9u b5o c6l a9v b8m:Br}{wd:E2}{es_READERS:Array DictEntry}{n_READERS:Nat}(X:K.In h)(G:h.Ns C2 mg)(hfa:mg "law"=some (.ref fa))(Y:Ty K ⟨b6v,b6w,b0l,b1k,b6y,b6z,b9w,b7g,b7h,b7i,b7j,b7k,f3s,d7m,d4k,d3g,a3y,a4k,a5l,a5y,b0m,b1l,b3n,b3z,c2o,c1u,c2p,c1v,b0n,b1m,a4z,b1n,b7l,b4g,b0o,a7v,a6q,a5m,b7m,b4h,b4i,b1o,a5n,a4l,b4j,b1p,b3o,b4k,b7n,b4l,b0p,a7w,a6r,a5o,b4m,b1q,b7o,b4n,b7p,b4o,b0q,a7y,a6s,a5p,b7q,b4p,a5q,a5z,b3p,b4q,b3q,b4r,f3t,d7n,a7z,a8z,b4s,b1r,a8g,a6t,b1s,a9g,a7i,a6g,a7j,a6h,a5r,a4m,b4t,b1t,b3r,b4u,a8h,a9h,b3s,b4v,a8i,a9i,b9y,c1w,b4w,b7r,b9z,c1y,c0g,c1z,a8j,a9j,b4y,b7s,c2q,c2g,b7t,b7u,b4z,b1u,a7k,a6i,b1v,a9k,b1w,a9l,b7v,b7w,b1y,a9m,a6j,a5g,a2y,a2t,b1z,a9n,a6k,a5h,c2r,c2h,b5g,b2g,a5i,a4g,b2h,a9o,b7y,b5h,b5i,b2j,b7z,b5j,a9p,a7l,b2k,a9q,b5k,b2l,b2m,a9r,a7m,a6l,a8k,a9s,a8l,a9t,b8g,b8h,b8i,b8j,b3t,b5l,b3u,b5m,a6u,a7n,g4r,f0g,f0h,a8u,a4s,a5s,a7q,a2w,a7o,a4h,a4t,c6j,a2z,a3g,b8k,b8l,b5n,c6k,a9u,b5o,c6l,a9v,b8m,a3h,wd⟩)(ld_READERS:K.lookup a3h=some ⟨.type "dict",none,.dict es_READERS n_READERS,#[]⟩)(kd_READERS:W.KeysLit wd.params es_READERS.toList)(ne_READERS:(a3h == G8)=false):∃ fd:C8,(∀ (s:Bx) (v:Br),M3 s fd ⟨[v],[]⟩ [("_law_script",v)])/\∀ base:Heap,K.In base->base.Ns C2 mg->a1j l.prog wd K mg base CX0 17 fa fd ["_law_script"] (g6v 63 K):=by
 have ea:fa=g4r:=by injection (hfa.symm.trans (Ct X G Y.i2p)) with e; injection e
 rw [ea]
 have T:Tx K mg ⟨b6v,b6w,b0l,b1k,b6y,b6z,b9w,b7g,b7h,b7i,b7j,b7k,f3s,d7m,d4k,d3g,a3y,a4k,a5l,a5y,b0m,b1l,b3n,b3z,c2o,c1u,c2p,c1v,b0n,b1m,a4z,b1n,b7l,b4g,b0o,a7v,a6q,a5m,b7m,b4h,b4i,b1o,a5n,a4l,b4j,b1p,b3o,b4k,b7n,b4l,b0p,a7w,a6r,a5o,b4m,b1q,b7o,b4n,b7p,b4o,b0q,a7y,a6s,a5p,b7q,b4p,a5q,a5z,b3p,b4q,b3q,b4r,f3t,d7n,a7z,a8z,b4s,b1r,a8g,a6t,b1s,a9g,a7i,a6g,a7j,a6h,a5r,a4m,b4t,b1t,b3r,b4u,a8h,a9h,b3s,b4v,a8i,a9i,b9y,c1w,b4w,b7r,b9z,c1y,c0g,c1z,a8j,a9j,b4y,b7s,c2q,c2g,b7t,b7u,b4z,b1u,a7k,a6i,b1v,a9k,b1w,a9l,b7v,b7w,b1y,a9m,a6j,a5g,a2y,a2t,b1z,a9n,a6k,a5h,c2r,c2h,b5g,b2g,a5i,a4g,b2h,a9o,b7y,b5h,b5i,b2j,b7z,b5j,a9p,a7l,b2k,a9q,b5k,b2l,b2m,a9r,a7m,a6l,a8k,a9s,a8l,a9t,b8g,b8h,b8i,b8j,b3t,b5l,b3u,b5m,a6u,a7n,g4r,f0g,f0h,a8u,a4s,a5s,a7q,a2w,a7o,a4h,a4t,c6j,a2z,a3g,b8k,b8l,b5n,c6k,a9u,b5o,c6l,a9v,b8m,a3h,wd⟩:=⟨Y,Y.b8p.binds (by walk_at"b1"),Ct X G Y.d7o,Y.b5p.binds (by walk_at"b1"),Ct X G Y.d1h,Y.c6m.binds (by walk_at"b1"),Ct X G Y.d7p,Y.c6n.binds (by walk_at"b2"),Ct X G Y.f3v,Y.c6o.binds (by walk_at"b2"),Ct X G Y.d7q,Y.b8q.binds (by walk_at"b2"),Ct X G Y.d7r,Y.g4s.binds (by walk_at"b2"),Ct X G Y.h7r,Y.d7z.binds (by walk_at"b2"),Ct X G Y.g7s,Y.a2u.binds (by walk_at"b1"),Ct X G Y.c2s,Y.b0r.binds (by walk_at"b1"),Ct X G Y.c2t,Y.b0s.binds (by walk_at"b2"),Ct X G Y.d1i,Y.a8m.binds (by walk_at"b2"),Ct X G Y.d4l,Y.c3g.binds (by walk_at"b3"),Ct X G Y.f3w,Y.c3h.binds (by walk_at"b2"),Ct X G Y.f3y,Y.c4h.binds (by walk_at"b1"),Y.c4i.binds (by walk_at"b1"),Y.c8k.binds (by walk_at"b2"),Y.c4j.binds (by walk_at"b1"),Y.b9h.binds (by walk_at"b4"),Y.c8l.binds (by walk_at"b1"),Y.c4k.binds (by walk_at"b2"),Y.b5u.binds (by walk_at"b4"),Y.c4l.binds (by walk_at"b1"),Y.b8r.binds (by walk_at"b2"),Ct X G Y.d4m,Y.c8m.binds (by walk_at"b4"),Y.c4m.binds (by walk_at"b1"),Y.b9i.binds (by walk_at"b4"),Y.c4n.binds (by walk_at"b1"),Y.c8n.binds (by walk_at"b1"),Y.c8o.binds (by walk_at"b3"),Y.c4o.binds (by walk_at"b1"),Y.b9j.binds (by walk_at"b4"),Y.c8p.binds (by walk_at"b1"),Y.a7p.binds (by walk_at"b1"),Ct X G Y.c2u,Y.c3i.binds (by walk_at"b2"),Ct X G Y.d4n,Y.c3j.binds (by walk_at"b1"),Ct X G Y.d4o,Y.f8q.binds (by walk_at"b2"),Ct X G Y.h7s,Y.b5v.binds (by walk_at"b1"),Ct X G Y.c7p,Y.c4p.binds (by walk_at"b2"),Y.c0y.binds (by walk_at"b1"),Y.c0z.binds (by walk_at"b1"),Y.b5w.binds (by walk_at"b2"),Y.b5y.binds (by walk_at"b2"),Y.b5z.binds (by walk_at"b4"),Y.c4q.binds (by walk_at"b1"),Y.b0t.binds (by walk_at"b1"),Ct X G Y.d4p,Y.a6m.binds (by walk_at"b3"),Ct X G Y.c7q,Y.b8s.binds (by walk_at"b1"),Ct X G Y.d4q,Y.a4v.binds (by walk_at"b2"),Ct X G Y.c7r,Y.d1o.binds (by walk_at"b1"),Ct X G Y.f3z,Y.c6p.binds (by walk_at"b1"),Ct X G Y.d7s,Y.d1p.binds (by walk_at"b1"),Ct X G Y.f4g,Y.d1q.binds (by walk_at"b1"),Ct X G Y.f4h,Y.b6g.binds (by walk_at"b1"),Ct X G Y.c7s,Y.c6q.binds (by walk_at"b1"),Ct X G Y.d7t,Y.d1r.binds (by walk_at"b1"),Ct X G Y.f4i,Y.c6r.binds (by walk_at"b1"),Ct X G Y.d7u,Y.c4r.binds (by walk_at"b2"),Y.b6h.binds (by walk_at"b3"),Y.c1g.binds (by walk_at"b1"),Y.c1h.binds (by walk_at"b1"),Y.c6s.binds (by walk_at"b1"),Ct X G Y.d7v,Y.c1i.binds (by walk_at"b2"),Y.b3g.binds (by walk_at"b3"),Y.a6n.binds (by walk_at"b2"),Y.c1j.binds (by walk_at"b2"),Y.b3h.binds (by walk_at"b4"),Y.d1s.binds (by walk_at"b1"),Ct X G Y.f4j,Y.c4s.binds (by walk_at"b1"),Y.b2n.binds (by walk_at"b2"),Y.c1k.binds (by walk_at"b2"),Y.c8q.binds (by walk_at"b2"),Y.c4t.binds (by walk_at"b4"),Y.c8r.binds (by walk_at"b3"),Y.b9k.binds (by walk_at"b1"),Y.c1l.binds (by walk_at"b1"),Y.c4u.binds (by walk_at"b1"),Y.c1m.binds (by walk_at"b1"),Y.b6i.binds (by walk_at"b3"),Y.a3u.binds (by walk_at"b2"),Ct X G Y.c7t,Y.b6j.binds (by walk_at"b2"),Ct X G Y.c7u,Y.c2i.binds (by walk_at"b1"),Ct X G Y.d7w,Y.c6t.binds (by walk_at"b1"),Ct X G Y.d7y,Y.c3k.binds (by walk_at"b3"),Ct X G Y.d4r,Y.b3v.binds (by walk_at"b3"),Ct X G Y.d4s,Y.b2t.binds (by walk_at"b5"),Ct X G Y.c5j,Y.h7x.binds (by walk_at"b1"),Ct X G Y.i2p,Ee X G Y.i8u,Ee X G Y.i8v,Ee X G Y.y_bool,Ee X G Y.h7y,Ee X G Y.d4t,Ee X G Y.i8w,Ee X G Y.d1t,Ee X G Y.i8x,Ee X G Y.h7z,Ee X G Y.i8y,Ee X G Y.i8z,Ee X G Y.g7w,Ee X G Y.g0z,Ee X G Y.i9a,Ee X G Y.g7x,Ee X G Y.i9b,Ct X G Y.g7o,Ct X G Y.g7p,Ct X G Y.g0t,Ct X G Y.g7q,Ct X G Y.g7r,Ct X G Y.g0u,Ct X G Y.g0v,Ct X G Y.f3u,Ct X G Y.g0w,Ct X G Y.d8g,Ct X G Y.a9y,Ct X G Y.b0g,Ct X G Y.d1u,Ct X G Y.d1v,Ct X G Y.c8s,Ct X G Y.d8i,Ct X G Y.c3l,Ct X G Y.c8u,Ct X G Y.d8k,Ct X G Y.c3n,Ct X G Y.d1w,Ct X G Y.d8m,⟨⟨_,_,ld_READERS,kd_READERS⟩,ne_READERS⟩⟩
 obtain⟨_,_,_,_,_,_,_,_,_,e,_,_⟩:=Y.h7x.ex
 exact⟨f0g,fun s v=>by have e':f0g=_:=e; rw [e']; exact .of_eq rfl,fun base _ _=>j8f T⟩
end My
namespace PySem.W.Fast
def tw5188627901273965631:=0
def tw1922693011083028848:=0
def tw15836291594272857238:=0
def tw12615757334497994244:=0
def tw11544192063362240745:=0
def tw17429137430260086689:=0
def tw17494811672227710218:=0
def tw4028316640612059814:=0
def tw5472961014299189289:=0
def tw17614360487490237196:=0
def tw6631101334977383916:=0
def tw5398235662886763448:=0
def tw9349650227051848175:=0
def tw6668749797478272681:=0
def tw3612450410120344984:=0
def tw17103969239812363970:=0
def tw18129924579131302052:=0
def tw4118008898978622574:=0
def tw8504350015478453640:=0
def tw670297092847190974:=0
def tw16779399324606671775:=0
def tw10607417954155907335:=0
def tw2120128387298883112:=0
def tw11566442985849288303:=0
def tw867588343976816901:=0
def tw14576274439450444116:=0
def tw299922141568975015:=0
def tw1177795249886505258:=0
def tw13885663770583965816:=0
def tw14537965666398212268:=0
def tw7459584211808277163:=0
def tw13241725636162556413:=0
def tw13015611749575786386:=0
def tw17402355586203908823:=0
def tw12293735172237937507:=0
def tw13034785250923625816:=0
def tw16767933052134160793:=0
def tw480483005914981083:=0
def tw4619776448417866044:=0
def tw10736879499040761415:=0
def tw15748415509103834243:=0
def tw7697267881333446645:=0
def tw2281617512082028147:=0
def tw12797693844623620572:=0
def tw16480970986455607422:=0
def tw12550426886181080153:=0
def tw68900392755738642:=0
def tw5339273893613620308:=0
def tw13104944429254880074:=0
def tw12678867927080136674:=0
def tw13780240273334196854:=0
def tw15126295050311503172:=0
def tw17533482695426746916:=0
def tw17259732918602679924:=0
def tw16644238143533801496:=0
def tw4734853336427618012:=0
def tw68280844797572869:=0
def tw10041517295708852818:=0
def tw2426217178240369031:=0
def tw16839828167717837600:=0
def tw4249414738725132237:=0
def tw16905925830197752351:=0
def tw7948042037449942470:=0
def tw14566627051820633652:=0
def tw5722371346734265979:=0
def tw15374948647071569584:=0
def tw7916560556624677843:=0
def tw508690043385415389:=0
def tw1212456886236040872:=0
def tw601509230052304562:=0
def tw6651616537971942086:=0
def tw12389013525610994528:=0
def tw10250681217479480116:=0
def tw17423960893699605824:=0
def tw13786839920297264421:=0
def tw17118029803374918485:=0
def tw11159390030759967744:=0
def tw16658109525084001726:=0
def tw2252696095163527997:=0
def tw10661893463939678023:=0
def tw15584917890681068582:=0
def tw1158983171931016611:=0
def tw841265718419869220:=0
def tw10668535708294516589:=0
def tw6214864193561431413:=0
def tw7327997412927631518:=0
def tw16753110354357435021:=0
def tw1522351212140861326:=0
def tw447488423604362215:=0
def tw10119415425069525311:=0
def tw2017097250280446574:=0
def tw16535005364728018228:=0
def tw7549921421779867280:=0
def tw13414881519492000289:=0
def tw17243905862019677899:=0
def tw7717183035618462509:=0
def tw12293625878275145473:=0
def tw10251947162125066270:=0
def tw13659949144794814497:=0
def tw7652078205562047945:=0
def tw1201724329147844861:=0
def tw13285711007054103556:=0
def tw7212508643914790762:=0
def tw14585848432420374934:=0
def tw3818802253720776089:=0
def tw9186962676486506249:=0
def tw12092542891399085950:=0
def tw3762811688099801231:=0
def tw17305123646668362644:=0
def tw17481351234867335814:=0
def tw6887734999563719694:=0
def tw13896073735347406324:=0
def tw7840576498389459180:=0
def tw4598156336274050170:=0
def tw1634470195003821798:=0
def tw13328405694318007811:=0
def tw12667227513875939129:=0
def tw10159015021737683223:=0
def tw2700464347994161043:=0
def tw8423212001861182872:=0
def tw3422690189071714053:=0
def tw7177745911898741680:=0
def tw965306420502760443:=0
def tw4358826188114084685:=0
def tw628111608798561185:=0
def tw1784908526985768918:=0
def tw13952474280858533352:=0
def tw9930857935137966329:=0
def tw11147418283770099220:=0
def tw2198971883985006716:=0
def tw6568037270494292612:=0
def tw10951441845750546819:=0
def tw5192053820686726156:=0
def tw13779619095985885678:=0
def tw349122979144521770:=0
def tw7350681426489561444:=0
def tw9197679209881348203:=0
def tw1798079932074631801:=0
def tw888919727736896664:=0
def tw3357507607384756443:=0
def tw5456769897395261067:=0
def tw4683741173209550232:=0
def tw7817381868509373135:=0
def tw5672645678301030194:=0
def tw16412856743723067454:=0
def tw15501164375628914280:=0
def tw8483643554476257209:=0
def tw13479861940603989549:=0
def tw7165965662532381505:=0
def tw17920600976211784509:=0
def tw18046843497325827615:=0
def tw5463046537495783564:=0
def tw15680265476245507038:=0
def tw14716724065362585275:=0
def tw16745796149938141541:=0
def tw12195183772337751705:=0
def tw11571871046542713326:=0
def tw15106032944477431849:=0
def tw17141680313116642401:=0
def tw3547813111806278399:=0
def tw7882953011355866178:=0
def tw1794264269638666302:=0
def tw12128210759001301987:=0
def tw10418315866761899556:=0
def tw7705668188300363503:=0
def tw14079129335587728855:=0
def tw4204724912616843316:=0
def tw9353422326011464937:=0
def tw5382406687496343024:=0
def tw1362762419119318951:=0
def tw16751518458857173610:=0
def tw11731232332242431049:=0
def tw9964587945795967635:=0
def tw16800743759692015834:=0
def tw9647191819830144770:=0
def tw16507450960412348569:=0
def tw2145380523598011879:=0
def tw7859231174998925006:=0
def tw3394695727244113125:=0
def tw11994711747850363752:=0
def tw9915383386073762998:=0
def tw15509246310812635150:=0
def tw568306223188620164:=0
def tw10302842431436687214:=0
def tw14162968871140617853:=0
def tw4203813261040362852:=0
def tw2225996296980945824:=0
def tw12767730035950917800:=0
def tw5232347808438032146:=0
def tw12238828759894871264:=0
def tw14672257129116750292:=0
def tw8591025188503020210:=0
def tw17023287242585879428:=0
def tw16379347419123273176:=0
def tw106167440387182109:=0
def tw440850395086451700:=0
def tw18214904732627030073:=0
def tw11659453800960255504:=0
def tw9568037993735653066:=0
def tw16038859644614466313:=0
def tw11768285242835371335:=0
def tw2983151100245764447:=0
def tw10822890269692518804:=0
def tw2606961235569515429:=0
def tw14105288285121643998:=0
def tw18373623262457877154:=0
def tw5868092444259462302:=0
def tw8079295395705894434:=0
def tw3458706430718336610:=0
def tw10972743656204086420:=0
def tw2242986381423529339:=0
def tw7746064495759043490:=0
def tw6241466641740026281:=0
def tw14748762249009823126:=0
def tw8308970633498556217:=0
def tw5013485394170720531:=0
def tw14962073744714290052:=0
def tw3630874563707985018:=0
def tw7878121498689946811:=0
def tw4827476631778973217:=0
def tw18375105846264188577:=0
def tw13265319803584740604:=0
def tw6419813990745577576:=0
def tw4820910005264791888:=0
def tw12068966789102700389:=0
def tw12208653280022395589:=0
def tw10745738804572778647:=0
def tw11891084363870113938:=0
def tw8974649936880624743:=0
def tw16656885396148435769:=0
def tw1958560549913430542:=0
def tw4601509037275480711:=0
def tw6943767573198531993:=0
def tw10143147299163351640:=0
def tw14122617428474726553:=0
def tw12603203173219062127:=0
def tw6796258929173639622:=0
def tw11618871914826875780:=0
def tw12500361861827053503:=0
def tw3127553807123287204:=0
def tw9905715159206868151:=0
def tw4031872173646969659:=0
def tw5646092456660146315:=0
def tw18361090946561093472:=0
def tw14333691226153132491:=0
def tw12383977809140402043:=0
def tw7875722788465997269:=0
def tw15722329583399232224:=0
def tw7890746714628728683:=0
def tw2009115853310325699:=0
def tw17333755650896715670:=0
def tw1697113282078663685:=0
def tw7719054083521116371:=0
def tw15452709881508859748:=0
def tw8585127424766678616:=0
def tw3253091990233573113:=0
def tw8585075962746908158:=0
def tw15086418924946301791:=0
def tw4247677998045235690:=0
def tw9966728857427438090:=0
def tw16249619104597271685:=0
def tw1696965025842828084:=0
def tw6614022676690221572:=0
def tw8213881955264496731:=0
def tw8694562367652926934:=0
def tw13544138511148748288:=0
def tw1388960516021242077:=0
def tw3210316186592580878:=0
def tw642807806732354143:=0
def tw1586732932334387960:=0
def tw1041818213509995026:=0
def tw2274572164737979904:=0
def tw6631568699485473115:=0
def tw2099432857740079734:=0
def tw14883805112546170952:=0
def tw13782526656818916946:=0
def tw18314629049777050587:=0
def tw16593298184645410800:=0
def tw2680384634828788239:=0
def tw17628195880243621093:=0
def tw15807962136190560708:=0
def tw847890443631790727:=0
def tw15401336759266110296:=0
def tw5714813008019935389:=0
def tw15258998798253399454:=0
def tw1367878076030514656:=0
def tw11791589544608318082:=0
def tw14750017214121609886:=0
def tw11895762682066792096:=0
def tw1263214429835760676:=0
def tw14135622659404843290:=0
def tw13482444602968404580:=0
def tw16169703753598300021:=0
def tw5119234446445179218:=0
def tw3785315392525118881:=0
def tw6461753747611278812:=0
def tw7131069322563792225:=0
def tw11594908324157032989:=0
def tw4849298122883976169:=0
def tw5975852601342734988:=0
end PySem.W.Fast
open PySem PySem.W PyProof.Rows L2
set_option maxRecDepth 100000 in
set_option maxHeartbeats 0 in
theorem PySem.Challenge.cw_mixbench_k65_whole_linear_holds : PySem.Challenge.rw_mixbench_k65_whole_linear.Holds := by
 w_on; o_law; k_head; (case hw=>w_witness2)
 k_fill
 refine L2.i1k (l:=PySem.Challenge.rw_mixbench_k65_whole_linear) (k:=17) (x:="_law_script") (CX:=fun _=>L2.CX0) rfl rfl ⟨rfl,by decide,by decide⟩ (fun w h Y=>PySem.W.kIn_of Y) ?F (fun _ _ _ _ _ z=>z)
 case F =>
  intro w mg fa h KX G hmg
  refine' My.all_mk (wd:=w) KX G hmg ⟨?g7o,?g7p,?g0t,?g7q,?g7r,?g0u,?g0v,?f3u,?g0w,?d7o,?d1h,?d7p,?f3v,?d7q,?d7r,?h7r,?g7s,?c2s,?c2t,?d1i,?d4l,?f3w,?f3y,?d4m,?c2u,?d4n,?d4o,?h7s,?c7p,?d4p,?c7q,?d4q,?c7r,?f3z,?d7s,?f4g,?f4h,?c7s,?d7t,?f4i,?d7u,?d7v,?f4j,?c7t,?c7u,?d7w,?d7y,?d4r,?d4s,?c5j,?i2p,?h7t,?d6q,?d6r,?a4n,?a1w,?h7u,?c0u,?c2v,?d1j,?c7v,?a3l,?a1v,?g7t,?c0l,?c7w,?b8z,?c5k,?a3q,?a1o,?a1p,?a1l,?a0y,?a0q,?h7v,?c0v,?c2w,?c7y,?d1k,?c7z,?a4o,?a1y,?a1z,?h7w,?c0w,?c2y,?d1l,?c8g,?a2n,?a0s,?a0u,?a0z,?g7u,?b9g,?c5l,?c0m,?c0n,?c0o,?c8h,?a4u,?a2g,?a1r,?g0x,?c0p,?c5m,?c5n,?a3r,?a1g,?a1i,?a2h,?a1n,?a1m,?g0y,?b8n,?a9w,?c5o,?b8o,?a1s,?a0m,?a0o,?a0n,?a0p,?g7v,?b0i,?c5p,?d1m,?c8i,?d1n,?c2z,?c5q,?c8j,?c5r,?c0q,?b8p,?b5p,?c6m,?c6n,?c6o,?b8q,?g4s,?d7z,?a2u,?b0r,?b0s,?a8m,?c3g,?c3h,?c4h,?c4i,?c8k,?c4j,?b9h,?c8l,?c4k,?b5u,?c4l,?b8r,?c8m,?c4m,?b9i,?c4n,?c8n,?c8o,?c4o,?b9j,?c8p,?a7p,?c3i,?c3j,?f8q,?b5v,?c4p,?c0y,?c0z,?b5w,?b5y,?b5z,?c4q,?b0t,?a6m,?b8s,?a4v,?d1o,?c6p,?d1p,?d1q,?b6g,?c6q,?d1r,?c6r,?c4r,?b6h,?c1g,?c1h,?c6s,?c1i,?b3g,?a6n,?c1j,?b3h,?d1s,?c4s,?b2n,?c1k,?c8q,?c4t,?c8r,?b9k,?c1l,?c4u,?c1m,?b6i,?a3u,?b6j,?c2i,?c6t,?c3k,?b3v,?b2t,?h7x,?i8u,?i8v,?y_bool,?h7y,?d4t,?i8w,?d1t,?i8x,?h7z,?i8y,?i8z,?g7w,?g0z,?i9a,?g7x,?i9b,?d8g,?d8h,?a9y,?a9z,?b0g,?b0h,?d1u,?c4v,?d1v,?c4w,?c8s,?c8t,?d8i,?d8j,?c3l,?c3m,?c8u,?c8v,?d8k,?d8l,?c3n,?c3o,?d1w,?d1y,?d8m,?b6k,?b3i,?b6l,?b6m,?b3j⟩ ?ld_READERS ?kd_READERS ?ne_READERS
  case g7o|g7p|g0t|g7q|g7r|g0u|g0v|f3u|g0w|d7o|d1h|d7p|f3v|d7q|d7r|h7r|g7s|c2s|c2t|d1i|d4l|f3w|f3y|d4m|c2u|d4n|d4o|h7s|c7p|d4p|c7q|d4q|c7r|f3z|d7s|f4g|f4h|c7s|d7t|f4i|d7u|d7v|f4j|c7t|c7u|d7w|d7y|d4r|d4s|c5j|i2p|d8g|a9y|b0g|d1u|d1v|c8s|d8i|c3l|c8u => dsimp only; k_is
  case d8k|c3n|d1w|d8m|b6k|b3i|b6l|b6m|b3j => dsimp only; k_is
  case h7t|a4n|a3l|a3q|a4o|a2n|a4u|a3r|a1s => refine' ⟨?_, ?_, ?_, ?_⟩ <;> ((try dsimp only); k_is)
  case d6q|d6r|c0u|c2v|d1j|c7v|c0l|c7w|b8z|c5k|c0v|c2w|c7y|d1k|c7z|c0w|c2y|d1l|c8g|b9g|c5l|c0m|c0n|c0o|c8h|c0p|c5m|c5n|b8n|a9w|c5o|b8o|b0i|c5p|d1m|c8i|d1n|c2z|c5q|c8j|c5r|c0q => (dsimp only; refine' ⟨?a, ?l, ?c⟩; (case a => k_is); (case l => k_is); (case c => k_is))
  case a1w|a1v|a1o|a1p|a1l|a0y|a0q|a1y|a1z|a0s|a0u|a0z|a2g|a1r|a1g|a1i|a2h|a1n|a1m|a0m|a0o|a0n|a0p => dsimp only; unfold a2i; k_is
  case h7u|g7t|h7v|h7w|g7u|g0x|g0y|g7v => (dsimp only; refine' ⟨?a, ?l, ?c, ?k⟩; (case a => k_is); (case l => k_is); (case c => k_is); (case k => k_is))
  case b8p|b5p|c6m|c6n|c6o|b8q|g4s|d7z|a2u|b0r|b0s|a8m|c3g|c3h|c4h|c4i|c8k|c4j|b9h|c8l|c4k|b5u|c4l|b8r|c8m|c4m|b9i|c4n|c8n|c8o|c4o|b9j|c8p|a7p|c3i|c3j|f8q|b5v|c4p|c0y|c0z|b5w|b5y|b5z|c4q|b0t|a6m|b8s|a4v|d1o|c6p|d1p|d1q|b6g|c6q|d1r|c6r|c4r|b6h|c1g => (dsimp only; refine' a1h ?l ?c ?k; (try dsimp only); (case l => k_is); (case c => k_is); (case k => k_is))
  case c1h|c6s|c1i|b3g|a6n|c1j|b3h|d1s|c4s|b2n|c1k|c8q|c4t|c8r|b9k|c1l|c4u|c1m|b6i|a3u|b6j|c2i|c6t|c3k|b3v|b2t|h7x => (dsimp only; refine' a1h ?l ?c ?k; (try dsimp only); (case l => k_is); (case c => k_is); (case k => k_is))
  case i8u|i8v|y_bool|h7y|d4t|i8w|d1t|i8x|h7z|i8y|i8z|g7w|g0z|i9a|g7x|i9b|ld_READERS => k_is
  case d8h|a9z|b0h|c4v|c4w|c8t|d8j|c3m|c8v|d8l|c3o|d1y => exact ⟨_, rfl⟩
  (case kd_READERS=>k_keys)
  (case ne_READERS=>decide)
