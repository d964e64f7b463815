import PyProof.Rows.All
import Wide.All
import KE.KIsAll
import KE.KNestM
import KE.KSortTup
import KE.KLam
import KE.KTryDeep
import KE.KFromBytes
import KE.KDictOf
import Wide.FinOn
import PySem.Challenge.RW_ringhues_k20_whole_room_by_length
set_option compiler.extract_closed false
theorem gV{p:Prop}(h:p:=by lia):p:=h
theorem Dc{p:Prop}(h:p:=by decide +kernel):p:=h
theorem Tc{p:Prop}(h:p:=by decide):p:=h
theorem Zaa{p:Prop}(h:p:=by simp):p:=h
abbrev aB:=@PySem.wpAny_bind
abbrev cj:=@PySem.Heap.get?_push_of_some
abbrev cZ:=@List.getElem?_eq_getElem
abbrev dW:=@List.getElem?_eq_some_iff
abbrev aP:=@PySem.wpAny_pure
abbrev cI:=@Option.some.inj
abbrev eG:=@List.mem_of_getElem?
abbrev bO:=@PySem.Heap.lt_size
abbrev eN:=@PySem.Heap.get?_push_size
abbrev cR:=@List.length_map
abbrev bQ:=@Nat.le_refl
abbrev jM:=@List.getD_eq_getElem?_getD
abbrev fV:=@Nat.lt_of_lt_of_le
abbrev iI:=@List.mem_cons_of_mem
abbrev fW:=@List.size_toArray
abbrev gM:=@List.getElem?_map
abbrev cU:=@Nat.ne_of_lt
abbrev gG:=@Bool.and_eq_true
abbrev h_:=@List.length_cons
abbrev lu:=@Option.map_eq_some_iff
abbrev lg:=@List.mem_append_right
abbrev gH:=@decide_eq_true
abbrev pB:=@List.getElem?_append_left
abbrev pK:=@List.getElem?_append_right
abbrev jo:=@List.all_eq_true
abbrev jU:=@of_decide_eq_true
abbrev lA:=@List.mem_cons_self
abbrev qJ:=@List.getElem?_eq_none_iff
abbrev mj:=@List.length_append
abbrev pC:=@Array.length_toList
abbrev nq:=@List.length_range
abbrev jA:=@List.mem_cons
abbrev fX:=@PySem.wpAny_mono
abbrev tR:=@Int.eq_ofNat_of_zero_le
abbrev qK:=@List.getElem?_set_ne
abbrev jV:=@List.map_cons
abbrev mz:=@decide_eq_false
abbrev mC:=@List.mem_append
abbrev pL:=@Int.toNat_natCast
abbrev zj:=@Int.mul_le_mul_of_nonneg_left
abbrev jW:=@Nat.le_trans
abbrev pN:=@List.lookup_cons
abbrev rR:=@Bool.false_eq_true
abbrev Aw:=@Int.mul_le_mul_of_nonneg_right
abbrev pO:=@List.mem_filter
abbrev pP:=@List.length_set
abbrev xr:=@PySem.Heap.get?_update_other
abbrev mD:=@Int.mul_comm
abbrev tU:=@PySem.wpAny_newObj_type
abbrev Ax:=@PyProof.Rows.callWith_type1
abbrev Em:=@PyProof.Rows.slot_tuple_getitem
abbrev tV:=@Nat.lt_succ_of_lt
abbrev pD:=@Nat.lt_irrefl
abbrev zm:=@Option.bind_eq_some_iff
abbrev nJ:=@List.mem_map
abbrev zp:=@List.getElem?_set_self
abbrev mF:=@PySem.wpAny_field
abbrev pQ:=@PySem.wpAny_holding
abbrev rT:=@PySem.wpAny_seqItems
abbrev v8:=@PySem.wpAny_truthy_bool
abbrev Ay:=@List.getElem?_replicate
abbrev Az:=@PySem.wpAny_callSpecial?_slot
abbrev qL:=@Int.mul_assoc
abbrev pR:=@Nat.ne_of_gt
abbrev v9:=@decide_eq_decide
abbrev zu:=@PySem.Heap.get?_update_ne
abbrev zx:=@List.getElem_of_mem
abbrev A_:=@PySem.Heap.get?_update_self
abbrev uf:=@List.mem_range
abbrev wg:=@List.map_append
abbrev zy:=@PySem.Obj.data_mapFields
abbrev En:=@List.getElem?_cons_succ
abbrev nM:=@beq_iff_eq
abbrev rW:=@Nat.le_of_lt
abbrev qM:=@Int.sub_mul
abbrev ug:=@PySem.wpAny_standAt
abbrev wj:=@PySem.Heap.size_push
abbrev G_:=@List.pairwise_iff_getElem
abbrev xu:=@List.nodup_cons
abbrev lB:=@congrArg
abbrev Ba:=@PySem.wpAny_Call_Name_kw
abbrev Bb:=@List.mem_singleton
abbrev Bc:=@Int.emod_lt_of_pos
abbrev rY:=@Nat.zero_le
abbrev zA:=@PySem.wpAny_call_entry
abbrev Ep:=@PySem.Heap.get?_none_of_le
abbrev Bf:=@Int.mul_left_comm
abbrev Er:=@beq_eq_false_iff_ne
abbrev zB:=@List.append_nil
abbrev Et:=@PySem.mem_of_lookup
abbrev Eu:=@List.getElem?_range
abbrev zE:=@Int.emod_nonneg
abbrev Mx:=@PySem.F.slot_tuple_iterator_next
abbrev Bg:=@List.length_take
abbrev Bh:=@PySem.F.plain_min_loop
abbrev Ew:=@List.mem_filterMap
abbrev Hg:=@List.length_replicate
abbrev Ey:=@PySem.wpAny_setField_rec
abbrev Ez:=@Nat.lt_of_le_of_lt
abbrev EY:=@List.pairwise_cons
abbrev Hj:=@List.length_filter_le
abbrev Mz:=@Int.le_of_mul_le_mul_left
abbrev Hl:=@List.mem_append_left
abbrev nO:=@if_false
abbrev Ho:=@PySem.Around.under_plainId
abbrev Bj:=@PySem.wpAny_passesOwn
abbrev Bk:=@List.length_nil
abbrev E_:=@PySem.Heap.get?_push_ne
abbrev MF:=@PySem.AutoSeq1.wpAny_loadPart'
abbrev Fb:=@decide_eq_true_eq
abbrev xG:=@List.map_map
abbrev Hq:=@List.filterMap_cons
abbrev wu:=@PySem.sizeLine_eq
abbrev wz:=@Int.add_mul
abbrev Fd:=@beq_self_eq_true
abbrev Fe:=@List.take_length
abbrev Fg:=@List.countP_cons
abbrev Bl:=@List.nodup_nil
abbrev Bm:=@Int.mul_nonneg
abbrev MJ:=@PySem.W.cellsFrom_some
abbrev Hr:=@Bool.false_ne_true
abbrev Hs:=@List.zip_cons_cons
abbrev Ht:=@Nat.lt_or_eq_of_le
abbrev zF:=@PySem.codeAny_mono
abbrev xH:=@Nat.le_succ
abbrev MK:=@PySem.Obj.isFreed_of_fields
abbrev Fj:=@List.forIn_cons
abbrev MN:=@Int.ediv_lt_of_lt_mul
abbrev Bp:=@PyProof.Rows.listUpdate_at
abbrev Hu:=@List.nodup_append
abbrev Bq:=@List.all_cons
abbrev MP:=@Nat.mul_le_mul_right
abbrev Hv:=@Nat.lt_succ_self
abbrev Hw:=@PySem.Heap.size_update
abbrev zG:=@PySem.wpAny_letGo
abbrev Qy:=@Option.isSome_iff_exists
abbrev Qz:=@PySem.F.args_tuple_add_2
abbrev QB:=@PySem.wpAny_comprehension_free
abbrev QC:=@List.length_filterMap_le
abbrev xJ:=@Int.not_lt
abbrev QD:=@PySem.F.entry_tuple_add
abbrev Fl:=@PySem.wpAny_attempt
abbrev M4:=@Array.forIn_toList
abbrev QF:=@decide_eq_false_iff_not
abbrev Hx:=@Nat.not_lt_zero
abbrev M5:=@decide_eq_true_iff
abbrev Hy:=@PySem.codeAny_builtin
abbrev QG:=@PySem.F.slot_tuple_add
abbrev QJ:=@List.range_succ_eq_map
abbrev zJ:=@PySem.wpAny_rule
abbrev Br:=@Int.mul_one
abbrev M6:=@PySem.wpAny_pyIter_list
abbrev M7:=@List.append_assoc
abbrev Hz:=@PySem.wpAny_setField
abbrev QK:=@Int.le_ediv_of_mul_le
abbrev M8:=@Nat.le_of_not_lt
abbrev M9:=@PySem.wpAny_isInstance
abbrev QL:=@Array.toArray_toList
abbrev QM:=@PySem.wpAny_updateSeq_pair
abbrev HB:=@PySem.wpAny_newList
abbrev HD:=@PySem.plainId_quiet
abbrev QS:=@PySem.W.plainGet_of
abbrev Fp:=@PySem.wpAny_of_eq
abbrev M_:=@PySem.F.slot_zip_next
abbrev Nb:=@Bool.or_eq_true
abbrev Fq:=@Int.one_mul
abbrev QT:=@PySem.W.callWith_K
abbrev HF:=@List.all_map
abbrev Nf:=@List.forIn_nil
abbrev Ng:=@List.take_succ
abbrev Ft:=@PySem.wpAny_call
abbrev Fw:=@Nat.not_lt
abbrev QV:=@bne_self_eq_false
abbrev QW:=@List.getElem?_inj
abbrev QX:=@List.map_inj_left
abbrev QZ:=@List.pairwise_map
abbrev Q0:=@Nat.le_of_lt_succ
abbrev HJ:=@Int.mul_sub
abbrev HN:=@Int.mul_add
set_option Elab.async false
set_option linter.all false
set_option maxRecDepth 100000
set_option maxHeartbeats 4000000
namespace L2
open PySem PySem.Spec PyProof.Rows PySem.W
noncomputable def subIn(K:W.Frag)(C D:Addr):Bool:=PySem.W.ktsIn K C "BaseException"&&PySem.W.ktsIn K D "BaseException"&&match K.lookup C with
 |some ⟨_,_,.cls cd,_⟩=>cd.mro.contains (.ref D)
 |_=>false
noncomputable def HS:List Value:=[.type "ValueError",.type "Exception",.type "BaseException",.type "object"]
noncomputable def uh:List Value->Bool
 |.ref _::r=>uh r
 |l=>l==HS
noncomputable def uo(K:Frag)(C fI:Addr):Bool:=match K.lookup C with
 |some ⟨.type "type",_,.cls cd,sl⟩=>(match cd.mro,sl.toList with
  |.ref C'::bm,[_,_,_,_,some (.builtin n),_]=>C'==C&&n=="ValueError.__new__" && !cd.hasDel&&tailIn K HS bm&&nsOkIn K cd.ns&&nsIn K cd.ns "__init__"==some (some (.ref fI))
  |_,_=>false)
 |_=>false
noncomputable def aY(s:Stmt):Arguments:=match s with
 |.FunctionDef _ a _ _ _ _ _ _ _ _=>a
 |_=>{posonlyargs:=[],args:=[],vararg:=none,kwonlyargs:=[],kw_defaults:=[],kwarg:=none,defaults:=[]}
noncomputable def aM(s:Stmt):List Stmt:=match s with
 |.FunctionDef _ _ b _ _ _ _ _ _ _=>b
 |_=>[]
noncomputable def au(s:Stmt):Scope:=match s with
 |.FunctionDef _ _ _ _ _ _ sc _ _ _=>sc
 |_=>{kind:=.function,names:=[],isGenerator:=false,isCoroutine:=false}
end L2
namespace Mi
open PySem PySem.Spec PyProof.Rows L2 PySem.W
noncomputable def Nh(n c:Nat):Nat:=if c<n then c else 0
noncomputable def HW(n c e:Nat):Bool:=Nh n e==0||Nh n c==Nh n e
noncomputable def iW(L:List Addr)(c:Nat):Addr:=L.getD (Nh L.length c) 0
noncomputable def xcB(K:W.Frag)(C:Addr):Bool:=
 PySem.W.findIn K (.ref C) "__getattribute__"==some (some (.builtin "BaseException.__getattribute__"))&&PySem.W.findIn K (.ref C) "__getattr__"==some none&&PySem.W.findIn K (.ref C) "__class__"==some (some (.builtin "object.__class__")) &&
 PySem.W.mroIn K C (.type "BaseException")==some true&&PySem.W.mroIn K C (.type "object")==some true&&(PySem.W.clsIn K C).isSome &&
 PySem.W.specialIn K (.builtin "object.__class__") "__get__"==some (some (.builtin "getset_descriptor.__get__"))&&PySem.W.takesIn K (.builtin "object.__class__")==some true
noncomputable def zK(K:W.Frag)(L:List Addr):Bool:=(List.range L.length).all λc=>xcB K (L.getD c 0)&&PySem.W.kitOne K (.ref (L.getD c 0)) (.type "ValueError")==some true &&
 (List.range L.length).all λe=>PySem.W.kitOne K (.ref (L.getD c 0)) (.ref (L.getD e 0))==some (HW L.length c e)
noncomputable def subB(K:W.Frag)(L:List Addr)(d:Nat):Bool:=(List.range L.length).all λc=>!(HW L.length c d)||L2.subIn K (L.getD c 0) (iW L d)
noncomputable def nQ(fd:FuncData):FuncData:={fd with kwdefaults:=.none,doc:=.none,pyModule:=.none,annotations:=none,code:=.none,closureTuple:=.none}
noncomputable def wA(x:Str)(st:Stmt):FuncData:=fnOf x x (aY st) (aM st) (au st) .none .none .none .none none .none .none
noncomputable def xK(K:Frag)(x:Str):Option (Addr×FuncData):=match nsIn K mainGlobals x with
 |some (some (.ref f))=>(match K.lookup f with
  |some ⟨_,_,.func fd,_⟩=>(match codeIn K fd.code x&&keepIn K (.ref f) with
   |true=>some (f,fd)
   |false=>none)
  |_=>none)
 |_=>none
noncomputable def dX(K:Frag)(x:Str):Addr:=match nsIn K mainGlobals x with
 |some (some (.ref C))=>C
 |_=>0
noncomputable def uq(K:Frag)(x:Str):Bool:=match nsIn K mainGlobals x with
 |some (some (.ref _))=>true
 |_=>false
noncomputable def mH(K:Frag)(p:Str×Int):Bool:=match nsIn K mainGlobals p.1 with
 |some (some (.int i _))=>decide (i=p.2)
 |_=>false
noncomputable def qN(K:Frag)(x:Str):Bool:=match nsIn K mainGlobals x with
 |some none=>true
 |_=>false
noncomputable def HX(K:Frag)(C:Addr):Bool:=excIn K C [.type "ValueError",.type "Exception",.type "BaseException",.type "object"] "ValueError.__new__"
structure Lk where
 HY:List Str
 xM:List (Str×Int)
 X7:List Str
 X8:List Nat
 X_:List Nat
noncomputable def Lk.L(l:Lk)(K:Frag):List Addr:=l.HY.map (dX K)
noncomputable def Lk.good(l:Lk)(K:Frag):Bool:=
 l.HY.all (uq K)&&(l.HY.isEmpty||zK K (l.L K))&&l.X8.all (λk=>HX K (iW (l.L K) k))&&l.X_.all (λk=>subB K (l.L K) k)&&l.xM.all (mH K)&&l.X7.all (qN K)
noncomputable def qO(h:Heap):List Addr->Frag
 |[]=>[]
 |a::r=>match h.get? a with
  |some o=>(a,o)::qO h r
  |none=>qO h r
noncomputable def eO(s:Stmt):List Stmt:=match s with
 |.ClassDef _ _ _ b _ _ _ _ _ _ _=>b
 |_=>[]
noncomputable def Bs(q:Str)(st:Stmt):FuncData:=fnOf "__init__" q (aY st) (aM st) (au st) .none .none .none .none none .none .none
noncomputable def H_(K:Frag)(C:Addr):Option FuncData:=match clsIn K C with
 |some cd=>(match nsIn K cd.ns "__init__" with
  |some (some (.ref f))=>(match K.lookup f with
   |some ⟨.type "function",_,.func fd,_⟩=>(match codeIn K fd.code fd.qualname&&uo K C f&&uh cd.mro&&cd.hasDict with
    |true=>some fd
    |false=>none)
   |_=>none)
  |_=>none)
 |none=>none
noncomputable def setB(K:Frag)(C:Addr)(fs:List Str):Bool:=findIn K (.ref C) "__setattr__"==some (some (.builtin "object.__setattr__"))&&fs.all (λf=>findIn K (.ref C) f==some none)
noncomputable def Ni(K:Frag)(C:Addr)(f:Str):Bool:=findIn K (.ref C) "__getattribute__"==some (some (.builtin "BaseException.__getattribute__"))&&findIn K (.ref C) "__getattr__"==some none&&mroIn K C (.type "BaseException")==some true&&findIn K (.ref C) f==some none&&hasDictIn K C
structure ur where
 c:Nat
 q:Str
 st:Stmt
 fs:List Str
noncomputable def qP(o:Obj):Bool:=match o with
 |⟨.none,none,.fields vs,sl⟩=>vs.isEmpty&&sl.isEmpty
 |_=>false
noncomputable def Ia:Nat->List Obj->Frag
 |_,[]=>[]
 |i,o::r=>match o.isFreed||qP o with
  |true=>Ia (i+1) r
  |false=>(i,o)::Ia (i+1) r
noncomputable def bR(h:Heap):Frag:=qO h [mainGlobals]++(Ia 0 h.objs.toList).reverse
noncomputable def jX(fs:List (Str×Stmt))(ms:List ur)(xs:List (Nat×Str))(l:Lk)(s:Shared):List (Option FuncData)×List (Option FuncData)×Bool:=
 (fs.map (λp=>(xK (bR s.heap) p.1).map (λq=>nQ q.2)),ms.map (λm=>(H_ (bR s.heap) (iW (l.L (bR s.heap)) m.c)).map nQ),
  l.good (bR s.heap)&&ms.all (λm=>setB (bR s.heap) (iW (l.L (bR s.heap)) m.c) m.fs)&&xs.all (λx=>Ni (bR s.heap) (iW (l.L (bR s.heap)) x.1) x.2))
noncomputable def lC(fs:List (Str×Stmt))(ms:List ur)(w:World):List (Option FuncData)×List (Option FuncData)×Bool:=(fs.map (λp=>some (wA p.1 p.2)),ms.map (λm=>some (Bs m.q m.st)),true)
noncomputable def Nj(fs:List (Str×Stmt))(s:Shared):List (Option FuncData):=fs.map (λp=>(xK (bR s.heap) p.1).map (λq=>nQ q.2))
noncomputable def Yb(ms:List ur)(xs:List (Nat×Str))(l:Lk)(s:Shared):List (Option FuncData)×Bool:=(ms.map (λm=>(H_ (bR s.heap) (iW (l.L (bR s.heap)) m.c)).map nQ),
  l.good (bR s.heap)&&ms.all (λm=>setB (bR s.heap) (iW (l.L (bR s.heap)) m.c) m.fs)&&xs.all (λx=>Ni (bR s.heap) (iW (l.L (bR s.heap)) x.1) x.2))
theorem zfe{p q:Program}{loose:List Str}{Xt:Shared->Bool}{N:Nat}{fs1 rZ:List (Str×Stmt)}{ms:List ur}{xs:List (Nat×Str)}{l:Lk}
  (a:∀w,(openEnds treeTable p w N).map (λs=>openSeen q loose (importedModules p.main.body) Xt true s)=some (openGood q loose))
  (b1:∀w,(openEnds treeTable p w N).map (Nj fs1)=some (fs1.map λp=>some (wA p.1 p.2)))
  (b2:∀w,(openEnds treeTable p w N).map (Nj rZ)=some (rZ.map λp=>some (wA p.1 p.2)))
  (c:∀w,(openEnds treeTable p w N).map (Yb ms xs l)=some (ms.map (λm=>some (Bs m.q m.st)),true)):LeftO p q loose Xt (jX (fs1++rZ) ms xs l) (lC (fs1++rZ) ms) N:=by
 intro w;have a:=a w;have b1:=b1 w;have b2:=b2 w;have c:=c w;cases e:openEnds treeTable p w N with
 |none=>rw[e] at a;cases a
 |some s=>
  rw[e] at a b1 b2 c;have a:openSeen q loose (importedModules p.main.body) Xt true s=openGood q loose:=cI a;have b1:=cI b1;have b2:=cI b2;have c:=cI c;have c1:=lB Prod.fst c;have c2:=lB Prod.snd c;show some (_,jX (fs1++rZ) ms xs l s)=_;rw[a];have:jX (fs1++rZ) ms xs l s=lC (fs1++rZ) ms w:=by
   unfold jX lC;rw[wg,wg];have b1:List.map _ fs1=List.map _ fs1:=b1;have b2:List.map _ rZ=List.map _ rZ:=b2;rw[b1,b2];exact Prod.ext rfl (Prod.ext c1 c2)
  rw[this]
structure Bd where
 n:Str
 fs:List Str
 ms:List (Str×Str×Stmt)
noncomputable def lK(K:Frag)(C:Addr)(m:Str):Option (Addr×FuncData):=match findIn K (.ref C) m with
 |some (some (.ref f))=>(match K.lookup f with
  |some ⟨_,_,.func fd,_⟩=>(match codeIn K fd.code fd.qualname&&keepIn K (.ref f)&&isFn K (.ref f) with
   |true=>some (f,fd)
   |false=>none)
  |_=>none)
 |_=>none
noncomputable def Fx(m q:Str)(st:Stmt):FuncData:=fnOf m q (aY st) (aM st) (au st) .none .none .none .none none .none .none
noncomputable def zL(K:Frag)(b:Bd):Bool:=uq K b.n&&plainGet K (dX K b.n) Str.empty&&hasDictIn K (dX K b.n)&&plainOver K (dX K b.n)&&findIn K (.ref (dX K b.n)) "__setattr__"==some (some (.builtin "object.__setattr__"))&&makesIn K (dX K b.n)&&keepIn K (.ref (dX K b.n))&&b.fs.all (λf=>findIn K (.ref (dX K b.n)) f==some none)
noncomputable def xO(b:Bd)(s:Shared):List (Option FuncData)×Bool:=(b.ms.map λp=>(lK (bR s.heap) (dX (bR s.heap) b.n) p.1).map λq=>nQ q.2,zL (bR s.heap) b)
noncomputable def xP(b:Bd):List (Option FuncData)×Bool:=(b.ms.map λp=>some (Fx p.1 p.2.1 p.2.2),true)
theorem ziZ{p q:Program}{loose:List Str}{Xt:Shared->Bool}{N:Nat}{fs:List (Str×Stmt)}{ms:List ur}{xs:List (Nat×Str)}{l:Lk}{b:Bd}(h:LeftO p q loose Xt (jX fs ms xs l) (lC fs ms) N)(e:∀w,(openEnds treeTable p w N).map (xO b)=some (xP b)) :
  LeftO p q loose Xt (λs=>(jX fs ms xs l s,xO b s)) (λw=>(lC fs ms w,xP b)) N:=by
 intro w;have h:=h w;have e:=e w;cases z:openEnds treeTable p w N with
 |none=>rw[z] at e;cases e
 |some s=>
  rw[z] at h e;have e:xO b s=xP b:=cI e;have h:=cI h;have h1:=lB Prod.fst h;have h2:=lB Prod.snd h;show some (_,_,_)=some (_,_,_);rw[e];exact lB some (Prod.ext h1 (Prod.ext h2 rfl))
noncomputable def lM(o:Obj):Option Value:=match o.data with
 |.fields vs=>(match (vs[1]? : Option Value) with
  |some (.str q _)=>(match q=="plain_rings" with
   |true=>vs[11]?
   |false=>none)
  |_=>none)
 |_=>none
noncomputable def bmB(K:Frag):Bool:=match nsIn K mainGlobals "__builtins__" with
 |some (some (.ref bm))=>(match K.lookup bm with
  |some ⟨.type "module",some d,.plain,_⟩=>d==builtinsNs&&bm != builtinsNs&&bm != mainGlobals
  |_=>false)
 |_=>false
noncomputable def Ib(h:Heap)(P:Addr):Bool:=match h.get? P with
 |some o=>qP o
 |none=>false
noncomputable def Bt(K:Frag)(h:Heap):Bool:=match xK K "plain_rings" with
 |some q=>(match q.2.code with
  |.ref c=>(match (K.lookup c).bind lM with
   |some (.ref P)=>codeHdIn K c P&&(K.lookup P).isNone&&Ib h P&&bmB K&&K.all (λr=>match lM r.2 with
    |some (.ref p)=>p==P
    |_=>true)
   |_=>false)
  |_=>false)
 |none=>false
noncomputable def nR(s:Shared):Bool:=Bt (bR s.heap) s.heap
theorem zgY{p q:Program}{loose:List Str}{Xt:Shared->Bool}{N:Nat}{α:Type}{Yf:Shared->α}{Ya:World->α}(h:LeftO p q loose Xt Yf Ya N)(e:∀w,(openEnds treeTable p w N).map nR=some true) :
  LeftO p q loose Xt (λs=>(Yf s,nR s)) (λw=>(Ya w,true)) N:=by
 intro w;have h:=h w;have e:=e w;cases z:openEnds treeTable p w N with
 |none=>rw[z] at h;cases h
 |some s=>
  rw[z] at h e;have h:=cI h;have e:nR s=true:=cI e;show some (_,(Yf s,nR s))=_;have h1:openSeen q loose (importedModules p.main.body) Xt true s=openGood q loose:=lB Prod.fst h;have h2:Yf s=Ya w:=lB Prod.snd h;rw[e,h1,h2]
end Mi
namespace eF
open PySem PySem.Spec PyProof.Rows PySem.W L2 Mi
noncomputable def top(i:Nat):Stmt:=PySem.Challenge.pw_ringhues_k20_whole_room_by_length.main.body.getD i (.Pass ⟨0,0,0,0⟩)
noncomputable def Fy:Stmt:=(eO (top 20)).getD 0 (.Pass ⟨0,0,0,0⟩)
noncomputable def Ie:Stmt:=(eO (top 20)).getD 1 (.Pass ⟨0,0,0,0⟩)
noncomputable def Fz:Stmt:=(eO (top 20)).getD 2 (.Pass ⟨0,0,0,0⟩)
noncomputable def FJ:Stmt:=(eO (top 20)).getD 3 (.Pass ⟨0,0,0,0⟩)
noncomputable def FN:Stmt:=(eO (top 20)).getD 4 (.Pass ⟨0,0,0,0⟩)
noncomputable def Ig:Stmt:=(eO (top 20)).getD 5 (.Pass ⟨0,0,0,0⟩)
noncomputable def FP:Stmt:=(eO (top 20)).getD 6 (.Pass ⟨0,0,0,0⟩)
noncomputable def bd:Bd:=⟨"Board",["ends","spots","apart","alike"],[("__init__","Board.__init__",Fy),("far_apart","Board.far_apart",Ie),("settled","Board.settled",Fz),("ties_left","Board.ties_left",FJ),("bound","Board.bound",FN),("narrowest","Board.narrowest",Ig),("all_free","Board.all_free",FP)]⟩
noncomputable def fs1:List (Str×Stmt):=(("is_whole" : Str),top 7)::(("is_within" : Str),top 8)::(("is_row" : Str),top 9)::(("is_web" : Str),top 12)::(("is_many" : Str),top 13)::(("is_place" : Str),top 14)::(("is_tie" : Str),top 15)::(("check_web" : Str),top 16)::(("tied_to" : Str),top 17)::(("all_ends" : Str),top 18)::(("ring_board" : Str),top 21)::(("is_ring" : Str),top 24)::(("is_spot" : Str),top 25)::(("check_ring" : Str),top 26)::(("gap_of" : Str),top 27)::(("is_shorter" : Str),top 28)::(("lowest_terms" : Str),top 29)::(("hues_hold" : Str),top 31)::(("are_spots" : Str),top 32)::(("are_hues" : Str),top 33)::(("check_hues" : Str),top 34)::[]
noncomputable def rZ:List (Str×Stmt):=(("clash_of" : Str),top 35)::(("first_hues" : Str),top 37)::(("first_among" : Str),top 38)::(("first_spot" : Str),top 39)::(("can_settle" : Str),top 40)::(("search" : Str),top 41)::(("plain_rings" : Str),top 44)::(("has_room" : Str),top 45)::(("shortest" : Str),top 46)::(("shortest_hues" : Str),top 47)::(("is_plain" : Str),top 48)::(("moved_hues" : Str),top 50)::(("_law_cell" : Str),top 52)::(("_law_pen" : Str),top 53)::(("_law_draw" : Str),top 54)::(("_law_web" : Str),top 55)::(("_law_ring" : Str),top 56)::(("_law_shorter" : Str),top 57)::(("_law_few" : Str),top 58)::(("_law_known" : Str),top 59)::(("_law_right" : Str),top 60)::(("law" : Str),top 61)::[]
noncomputable abbrev fs:List (Str×Stmt):=fs1++rZ
noncomputable def lk:Lk:=⟨[],[("MOST_PLACES",8),("MOST_SPOTS",24),("SO_OFTEN",27720)],["abs","all","bool","divmod","enumerate","int","isinstance","len","list","max","min","range","sorted","tuple","zip"],[],[]⟩
noncomputable def ms:List ur:=[]
noncomputable def xs:List (Nat×Str):=[]
noncomputable abbrev pv:Program:=PySem.Challenge.pw_ringhues_k20_whole_room_by_length
noncomputable def qv:Program:={pv with main:={pv.main with body:=[pv.main.body.getD 61 (.Pass ⟨0,0,0,0⟩)]}}
noncomputable def loose:List Str:=(["HueError","NoRing","NoHues","Apart","NoWeb","is_whole","is_within","is_row","MOST_PLACES","is_web","is_many","is_place","is_tie","check_web","tied_to","all_ends","Board","ring_board","MOST_SPOTS","is_ring","is_spot","check_ring","gap_of","is_shorter","lowest_terms","hues_hold","are_spots","are_hues","check_hues","clash_of","first_hues","first_among","first_spot","can_settle","search","SO_OFTEN","plain_rings","has_room","shortest","shortest_hues","is_plain","moved_hues","_law_cell","_law_pen","_law_draw","_law_web","_law_ring","_law_shorter","_law_few","_law_known","_law_right"]:List String).map Str.ofString
theorem zkX(w:World):(openEnds treeTable pv w 20000).map (λs=>openSeen qv loose (importedModules pv.main.body) (λs=>xlAt qv [] s&&recOk [] s) true s)=some (openGood qv loose):=by
 kernel_rfl
theorem zmK(w:World):(openEnds treeTable pv w 20000).map (Nj fs1)=some (fs1.map λp=>some (wA p.1 p.2)):=by
 kernel_rfl
theorem zkR(w:World):(openEnds treeTable pv w 20000).map (Nj rZ)=some (rZ.map λp=>some (wA p.1 p.2)):=by
 kernel_rfl
theorem zlL(w:World):(openEnds treeTable pv w 20000).map (Yb ms xs lk)=some (ms.map (λm=>some (Bs m.q m.st)),true):=by
 kernel_rfl
theorem ws:PySem.Challenge.rw_ringhues_k20_whole_room_by_length.wellSaid=true:=by
 kernel_rfl
theorem zmF(w:World):(openEnds treeTable pv w 20000).map (xO bd)=some (xP bd):=by
 kernel_rfl
theorem zkF:LeftO pv qv loose (λs=>xlAt qv [] s&&recOk [] s) (λs=>(jX fs ms xs lk s,xO bd s)) (λw=>(lC fs ms w,xP bd)) 20000:=ziZ (zfe zkX zmK zkR zlL) zmF
theorem zmL(w:World):(openEnds treeTable pv w 20000).map nR=some true:=by
 kernel_rfl
theorem left:LeftO pv qv loose (λs=>xlAt qv [] s&&recOk [] s) (λs=>((jX fs ms xs lk s,xO bd s),nR s)) (λw=>((lC fs ms w,xP bd),true)) 20000:=zgY zkF zmL
end eF
namespace L2
open PySem PySem.Spec PyProof.Rows
theorem fu{α:Sort u}{β:Sort v}{A B C:α->β->Prop}{P:Prop}(h:∃x y,A x y/\B x y/\C x y)(k:∀x y,A x y->B x y->C x y->P):P:=by
 obtain⟨x,y,a,b,c⟩:=h;exact k x y a b c
theorem Q5{α:Sort u}{β:Sort v}{γ:Sort w}{A B:α->β->Prop}{C D:α->β->γ->Prop}{P:Prop}(h:∃x y,A x y/\B x y/\∃z,C x y z/\D x y z)(k:∀x y,A x y->B x y->∀z,C x y z->D x y z->P):P:=by
 obtain⟨x,y,a,b,z,c,d⟩:=h;exact k x y a b z c d
theorem wB{α:Sort u}{A B:α->Prop}{P:Prop}(h:∃x,A x/\B x)(k:∀x,A x->B x->P):P:=by
 obtain⟨x,a,b⟩:=h;exact k x a b
noncomputable abbrev Key:=Sum Int Str
noncomputable def zM:Key->Value->Bool
 |.inl k,v=>Value.isInt k v
 |.inr x,v=>Value.isStrOf x v
noncomputable def Q6(w:World):Key->Int
 |.inl k=>hashInt k
 |.inr x=>hashStr w x
theorem xQ:∀{k:Key} {v:Value},zM k v=true->(∃i t,k=Sum.inl i/\v=Value.int i t)\/(∃x t,k=Sum.inr x/\v=Value.str x t)
 |.inl i,v,h=>by
  obtain⟨t,e⟩:=Value.isInt_shape (k:=i) (v:=v) h;exact .inl ⟨i,t,rfl,e⟩
 |.inr x,v,h=>by
  obtain⟨t,e⟩:=Value.isStrOf_shape (x:=x) (v:=v) h;exact .inr ⟨x,t,rfl,e⟩
theorem zkI(a b:Int):decide ((Sum.inl a:Key)=Sum.inl b)=(a==b):=by
 by_cases e:a=b
 ·subst e;simp
 ·have h:¬(Sum.inl a:Key)=Sum.inl b:=λq=>e (Sum.inl.inj q);rw[mz h];exact(Er.mpr e).symm
theorem zkN(a b:Str):decide ((Sum.inr a:Key)=Sum.inr b)=decide (a=b):=by
 by_cases e:a=b
 ·subst e;simp
 ·have h:¬(Sum.inr a:Key)=Sum.inr b:=λq=>e (Sum.inr.inj q);rw[mz h,mz e]
theorem zlG(a:Int)(b:Str):decide ((Sum.inl a:Key)=Sum.inr b)=false:=mz (λq=>nomatch q)
theorem zmE(a:Str)(b:Int):decide ((Sum.inr a:Key)=Sum.inl b)=false:=mz (λq=>nomatch q)
noncomputable def mJ(prog:Program)(w:World):PySem.KeyKind prog w Key where
 is:=zM
 hash:=Q6 w
 inj:=λv a b ha hb=>by
  rcases xQ ha with ⟨i,t,rfl,rfl⟩|⟨x,t,rfl,rfl⟩
  ·rcases xQ hb with ⟨j,u,rfl,e⟩|⟨y,u,rfl,e⟩
   ·injection e with e1 _;rw[e1]
   ·exact nomatch e
  ·rcases xQ hb with ⟨j,u,rfl,e⟩|⟨y,u,rfl,e⟩
   ·exact nomatch e
   ·injection e with e1 _;rw[e1]
 byValue:=λk v h=>by
  rcases xQ h with ⟨i,t,rfl,rfl⟩|⟨x,t,rfl,rfl⟩<;>rfl
 pyHash:=λhv h=>by
  rcases xQ hv with ⟨i,t,rfl,rfl⟩|⟨x,t,rfl,rfl⟩
  ·exact wpAny_pyHash_int h
  ·exact wpAny_pyHash_str h
 eqBool:=λhu hv h=>by
  rcases xQ hu with ⟨i,t,rfl,rfl⟩|⟨x,t,rfl,rfl⟩
  ·rcases xQ hv with ⟨j,u,rfl,rfl⟩|⟨y,u,rfl,rfl⟩
   ·rw[zkI] at h;exact wpAny_eqBool_int h
   ·rw[zlG] at h;exact SeqAt.EqAt.int_str i t y u _ _ _ _ h
  ·rcases xQ hv with ⟨j,u,rfl,rfl⟩|⟨y,u,rfl,rfl⟩
   ·rw[zmE] at h;exact SeqAt.EqAt.str_int x t j u _ _ _ _ h
   ·rw[zkN] at h;exact wpAny_eqBool_str h
 «strs»:=λk x t v h=>by
  rcases xQ h with ⟨i,u,rfl,e⟩|⟨y,u,rfl,e⟩
  ·exact nomatch e
  ·injection e with e1 _;subst e1;cases v<;>rfl
inductive V where
 |non|bl (b:Bool)|int (i:Int)|str (x:Str)|Bu (b:Array UInt8)|flt (b:UInt64)|ref (a:Addr)|ty (n:String)
 deriving DecidableEq
noncomputable def RelV:V->Value->Prop
 |.non,u=>u=Value.none
 |.bl b,u=>u=Value.bool b
 |.int i,u=>∃t,u=Value.int i t
 |.str x,u=>∃t,u=Value.str x t
 |.Bu b,u=>∃t,u=Value.bytes b t
 |.flt b,u=>∃t,u=Value.float b t
 |.ref a,u=>u=Value.ref a
 |.ty n,u=>u=Value.type n
noncomputable abbrev Vals:List V->List Value->Prop:=Paired RelV
theorem Vals.length{xs:List V}{us:List Value}(r:Vals xs us):xs.length=us.length:=Paired.length r
theorem Vals.get:∀{xs:List V} {us:List Value} {i:Nat} {x:V},Vals xs us->xs[i]?=some x->∃u,us[i]?=some u/\RelV x u
 |_,_,_,_,.nil,e=>by simp at e
 |_,_,0,_,.cons r _,e=>by simp at e;subst e;exact⟨_,rfl,r⟩
 |_,_,i+1,x,.cons _ t,e=>by
  obtain⟨u,h1,h2⟩:=Vals.get (i:=i) (x:=x) t (by simpa using e);exact⟨u,by simpa using h1,h2⟩
theorem Vals.set{x:V}{u:Value}(r:RelV x u):∀{xs:List V} {us:List Value} (i:Nat),Vals xs us->Vals (xs.set i x) (us.set i u)
 |_,_,_,.nil=>.nil
 |_,_,0,.cons _ t=>.cons r t
 |_,_,i+1,.cons q t=>.cons q (Vals.set r i t)
theorem Vals.append{xs ys:List V}{us ws:List Value}(h:Vals xs us)(s:Vals ys ws):Vals (xs++ys) (us++ws):=by
 induction h with
 |nil=>exact s
 |cons r _ ih=>exact .cons r ih
theorem Vals.take:∀{xs:List V} {us:List Value} (n:Nat),Vals xs us->Vals (xs.take n) (us.take n)
 |_,_,0,_=>.nil
 |_,_,_+1,.nil=>.nil
 |_,_,n+1,.cons r t=>.cons r (Vals.take n t)
theorem Vals.drop:∀{xs:List V} {us:List Value} (n:Nat),Vals xs us->Vals (xs.drop n) (us.drop n)
 |_,_,0,r=>r
 |_,_,_+1,.nil=>.nil
 |_,_,n+1,.cons _ t=>Vals.drop n t
noncomputable def su:Option V->Option Value->Prop
 |some v,some u=>RelV v u
 |none,none=>True
 |_,_=>False
noncomputable def KV{κ:Type}:List (κ×V)->List (κ×Value)->Prop:=Paired λ(p:κ×V) (q:κ×Value)=>p.1=q.1/\RelV p.2 q.2
noncomputable def kV:Key->V
 |.inl i=>.int i
 |.inr x=>.str x
inductive HO where
 |lst (xs:List V)
 |tup (xs:List V)
 |dK (kvs:List (Key×V))|dT (kvs:List (List Key×V))
 |set (S:Int->Bool) (n:Nat)
 |ins (C dx:Addr) (fs:List (Str×V))
 |own (x:Addr)
 |xd (fs:List (Str×V))
 |met (f x:Addr)
 |rng (lo hi:Int)
 |nU (o:Obj) (u:HO)
 |lN (ps:Array Value)
 |ext (U:Heap->Prop)
noncomputable abbrev Hp:=Addr->Option HO
noncomputable def upd(H:Hp)(a:Addr)(o:HO):Hp:=λb=>if b=a then some o else H b
theorem iJ{H:Hp}{a:Addr}{o:HO}:upd H a o a=some o:=by unfold upd;rw[if_pos rfl]
theorem bT{H:Hp}{a b:Addr}{o:HO}(h:b≠a):upd H a o b=H b:=by unfold upd;rw[if_neg h]
theorem Yc{H:Hp}{a:Addr}{o u:HO}:upd (upd H a o) a u=upd H a u:=by
 funext b;unfold upd;split<;>rfl
theorem xR{H:Hp}{a b:Addr}{o:HO}(h:H a=some o)(h':H b=none):a≠b:=by
 intro e;subst e;rw[h] at h';cases h'
section
variable (P:Program)(w:World)
noncomputable def bF(H:Hp)(h:Heap)(a:Addr):HO->Prop
 |.lst xs=>xs.length<=sizeLine/\∃(its:List Value) (n:Nat),Vals xs its/\h.get? a=some {cls:=.type "list",data:=.seq its.toArray n}
 |.tup xs=>xs.length<=sizeLine/\∃its:List Value,Vals xs its/\IsTup h a its.toArray
 |.dK kvs=>kvs.length<=sizeLine/\(a==sysModules)=false/\∃vs,KV kvs vs/\h.DictOf (mJ P w) a vs
 |.dT kvs=>kvs.length<=sizeLine/\(a==sysModules)=false/\∃xs:List (List Key×Addr×Value),
   Paired (λ(p:List Key×V) (q:List Key×Addr×Value)=>p.1=q.1/\H q.2.1=some (.tup (p.1.map kV))/\RelV p.2 q.2.2) kvs xs /\
   ∃o es ep,h.get? a=some o/\o.ExactDict/\o.data=.dict es ep/\es.toList=xs.map (entryOfKey (tupleKind (mJ P w)))/\(xs.map (·.1)).Nodup
 |.set S n=>h.SetOf (intKind P w) a S n
 |.ins C dx fs=>H dx=some (.own a)/\fs.length<=1000/\dx≠a/\h.get? a=some (PySem.W.instObj C dx) /\
   ∃mA,h.Ns1 dx mA/\(∀f,su (fs.lookup f) (mA f))/\PySem.Within mA (fs.map (·.1))
 |.own _=>∃o,h.get? a=some o
 |.xd fs=>∃mA,h.Ns1 a mA/\∀f,su (fs.lookup f) (mA f)
 |.rng lo hi=>∃t u v,h.get? a=some {cls:=.type "range",data:=.fields #[.int lo t,.int hi u,.int 1 v]}
 |.nU o u=>h.get? a=some o/\bF H h a u
 |.lN ps=>h.get? a=some {cls:=.none,data:=.fields ps}
 |.met f x=>h.get? a=some (PySem.W.methodObj (.ref f) (.ref x))
 |.ext U=>U h/\(∃o,h.get? a=some o)/\∀h1 h2:Heap,U h1->(∀o,h1.get? a=some o->h2.get? a=some o)->U h2
def iU(H:Hp)(h:Heap):Prop:=∀a o,H a=some o->bF P w H h a o
end
section
variable {P:Program}{w:World}{H H':Hp}{h h':Heap}{a:Addr}{o:HO}
theorem bF.lt(x:bF P w H h a o):a<h.objs.size:=by
 cases o with
 |lst xs=>obtain⟨_,_,_,_,e⟩:=x;exact bO e
 |tup xs=>obtain⟨_,_,_,p⟩:=x;exact p.lt
 |dK kvs=>obtain⟨_,_,_,_,o,_,_,e,_⟩:=x;exact bO e
 |dT kvs=>obtain⟨_,_,_,_,o,_,_,e,_⟩:=x;exact bO e
 |set S n=>obtain⟨o,_,_,_,e,_⟩:=x;exact bO e
 |ins C dx fs=>obtain⟨_,_,_,e,_⟩:=x;exact bO e
 |own y=>obtain⟨_,e⟩:=x;exact bO e
 |xd fs=>obtain⟨_,⟨_,_,_,e,_⟩,_⟩:=x;exact bO e
 |rng lo hi=>obtain⟨_,_,_,e⟩:=x;exact bO e
 |nU ob u=>obtain⟨e,_⟩:=x;exact bO e
 |lN ps=>exact bO (show h.get? a=some _ from x)
 |met f y=>exact bO (show h.get? a=some _ from x)
 |ext U=>obtain⟨_,⟨_,e⟩,_⟩:=x;exact bO e
theorem Yd{α β:Type}{F G:α->β->Prop}:∀{l₁:List α} {l₂:List β},Paired F l₁ l₂->(∀a b,F a b->G a b)->Paired G l₁ l₂
 |_,_,.nil,_=>.nil
 |_,_,.cons r t,f=>.cons (f _ _ r) (Yd t f)
theorem bF.stay(x:bF P w H h a o)(k:∀b u,(b=a\/H b=some (.own a))->h.get? b=some u->h'.get? b=some u)
  (ho:∀b,H b=some (.own a)->H' b=some (.own a)) (ht:∀b xs,H b=some (.tup xs)->H' b=some (.tup xs)):bF P w H' h' a o:=by
 induction o with
 |lst xs=>obtain⟨z,its,n,r,e⟩:=x;exact⟨z,its,n,r,k _ _ (.inl rfl) e⟩
 |tup xs=>obtain⟨z,its,r,ob,e,c⟩:=x;exact⟨z,its,r,ob,k _ _ (.inl rfl) e,c⟩
 |dK kvs=>obtain⟨z,y,vs,r,ob,es,ep,e,c⟩:=x;exact⟨z,y,vs,r,ob,es,ep,k _ _ (.inl rfl) e,c⟩
 |dT kvs=>
  obtain⟨z,y,xs,r,ob,es,ep,e,c⟩:=x;exact⟨z,y,xs,Yd r λp q z=>⟨z.1,ht _ _ z.2.1,z.2.2⟩,ob,es,ep,k _ _ (.inl rfl) e,c⟩
 |set S n=>obtain⟨ob,es,ep,t,e,c⟩:=x;exact⟨ob,es,ep,t,k _ _ (.inl rfl) e,c⟩
 |ins C dx fs=>
  obtain⟨d,z,ne,e,mA,⟨od,es,ep,e2,c⟩,r⟩:=x;exact⟨ho _ d,z,ne,k _ _ (.inl rfl) e,mA,⟨od,es,ep,k _ _ (.inr d) e2,c⟩,r⟩
 |own y=>obtain⟨ob,e⟩:=x;exact⟨ob,k _ _ (.inl rfl) e⟩
 |xd fs=>obtain⟨mA,⟨od,es,ep,e,c⟩,r⟩:=x;exact⟨mA,⟨od,es,ep,k _ _ (.inl rfl) e,c⟩,r⟩
 |rng lo hi=>obtain⟨t,u,v,e⟩:=x;exact⟨t,u,v,k _ _ (.inl rfl) e⟩
 |nU ob u ih=>obtain⟨e,q⟩:=x;exact⟨k _ _ (.inl rfl) e,ih q⟩
 |lN ps=>
  have e:h.get? a=some {cls:=.none,data:=.fields ps}:=x;show h'.get? a=some {cls:=.none,data:=.fields ps};exact k a _ (.inl rfl) e
 |met f y=>
  have e:h.get? a=some (PySem.W.methodObj (.ref f) (.ref y)):=x;show h'.get? a=some (PySem.W.methodObj (.ref f) (.ref y));exact k a _ (.inl rfl) e
 |ext U=>obtain⟨p,⟨o,e⟩,st⟩:=x;exact⟨st _ _ p λo q=>k _ _ (.inl rfl) q,⟨o,k _ _ (.inl rfl) e⟩,st⟩
theorem iU.lt(x:iU P w H h)(e:H a=some o):a<h.objs.size:=(x a o e).lt
theorem iU.fresh(x:iU P w H h)(e:h.objs.size<=a):H a=none:=by
 cases q:H a with
 |none=>rfl
 |some u=>exact absurd (fV (x.lt q) e) (pD _)
theorem iU.kept(x:iU P w H h)(k:∀b u,h.get? b=some u->h'.get? b=some u):iU P w H h':=λa o e=>
 (x a o e).stay (λb u _ q=>k b u q) (λ_ q=>q) λ_ _ q=>q
theorem iU.laid(x:iU P w H h)(k:∀b u,h.get? b=some u->h'.get? b=some u)(hp:h.objs.size<=a)(new:bF P w (upd H a o) h' a o):iU P w (upd H a o) h':=λb u e=>by
 have hn:=x.fresh hp;by_cases hb:b=a
 ·subst hb;rw[iJ] at e;cases e;exact new
 ·rw[bT hb] at e;exact(x b u e).stay (λc v _ q=>k c v q) (λc q=>by rw[bT (xR q hn)];exact q) λc xs q=>by rw[bT (xR q hn)];exact q
end
def Rd(H:Hp)(a:Addr)(u:HO):Prop:=H a=some u\/∃o,H a=some (.nU o u)
theorem Rd.ok{P:Program}{w:World}{H:Hp}{h:Heap}{a:Addr}{u:HO}(r:Rd H a u)(x:iU P w H h):bF P w H h a u:=by
 rcases r with r|⟨o,r⟩
 ·exact x a u r
 ·obtain⟨_,q⟩:=x a _ r;exact q
noncomputable def Ih:Option HO->Prop
 |some (.lst _)=>True
 |some (.dK _)=>True
 |some (.dT _)=>True
 |some (.set _ _)=>True
 |some (.ins _ _ _)=>True
 |some (.ext _)=>True
 |_=>False
section
variable {P:Program}{w:World}{H:Hp}{h h':Heap}{x e:Addr}{o':HO}
theorem iU.write(ok:iU P w H h)(mu:Ih (H x))(he:e=x\/H e=some (.own x))(k:∀b u,b≠e->h.get? b=some u->h'.get? b=some u)(FQ:∃u,h'.get? e=some u)
  (new:bF P w (upd H x o') h' x o'):iU P w (upd H x o') h':=λb u q=>by
 have Ii:∀c y,H c=some (.own y)->c≠x:=λc y r z=>by subst z;rw[r] at mu;exact mu
 have Q7:∀c xs,H c=some (.tup xs)->c≠x:=λc xs r z=>by subst z;rw[r] at mu;exact mu
 by_cases hb:b=x
 ·subst hb;rw[iJ] at q;cases q;exact new
 ·rw[bT hb] at q;by_cases Bv:b=e
  ·have q':H b=some (.own x):=by
    rcases he with z|z
    ·exact absurd (Bv.trans z) hb
    ·rw[Bv];exact z
   rw[q] at q';cases q';obtain⟨v,hv⟩:=FQ;exact⟨v,by rw[Bv];exact hv⟩
  ·refine(ok b u q).stay (λc v hc r=>k c v ?_ r) (λc r=>by rw[bT (Ii c b r)];exact r) λc xs r=>by rw[bT (Q7 c xs r)];exact r
   rcases hc with rfl|hc
   ·exact Bv
   ·rintro rfl;rcases he with z|z
    ·exact Ii c b hc z
    ·rw[hc] at z;cases z;exact hb rfl
end
noncomputable def iY:Str:="plain_rings.<locals>.<lambda>"
noncomputable def qQ:Bool:=true
def GoodC(H:Hp)(c:Addr):Prop:=∃oc u vs t,H c=some (.nU oc u)/\oc.data=.fields vs/\vs[1]?=some (.str iY t)
inductive fH (H:Hp):List Value->Prop
 |nil:fH H []
 |cons (l m:Int) (c:Addr) (r:List Value):GoodC H c->fH H r->fH H (rawInt l::rawInt m::.ref c::r)
theorem fH.app{H:Hp}{a b:List Value}(x:fH H a)(y:fH H b):fH H (a++b):=by
 induction x with
 |nil=>exact y
 |cons l m c r g _ ih=>exact .cons l m c _ g ih
theorem fH.mono{H H':Hp}(k:∀b o u,H b=some (.nU o u)->H' b=some (.nU o u)){a:List Value}(x:fH H a):fH H' a:=by
 induction x with
 |nil=>exact .nil
 |cons l m c r g _ ih=>
  obtain⟨oc,u,vs,t,e,q⟩:=g;exact .cons l m c _ ⟨oc,u,vs,t,k _ _ _ e,q⟩ ih
noncomputable def jY(K:W.Frag)(c P:Addr):Bool:=match K.lookup c with
 |some o=>(match o.data with
  |.fields vs=>(match (vs[1]? : Option Value) with|some (.str q _)=>q=="plain_rings"|_=>false)&&(match (vs[11]? : Option Value) with|some (.ref p)=>p==P|_=>false)
  |_=>false)
 |none=>false
def Bw(K:W.Frag)(H:Hp):Prop:=qQ=true->∀c P,jY K c P=true->∃ps,H P=some (.lN ps)/\fH H ps.toList
structure Un(fs ex:List Addr)(H H':Hp)(h h':Heap):Prop where
 keep:∀b o,h.get? b=some o->H b=none->b∉fs->b∉ex->h'.get? b=some o
 slot:∀b o,h.get? b=some o->H b=none->b∈fs->b∉ex->∃sl,h'.get? b=some {o with slots:=sl}
 free:∀b o,h.get? b=some o->H b=none->b∉ex->H' b=none
 there:∀b o,h.get? b=some o->b∉ex->∃o',h'.get? b=some o'
 tups:∀b xs,H b=some (.tup xs)->H' b=some (.tup xs)
 iZ:∀b o u,H b=some (.nU o u)->H' b=some (.nU o u)
 jB:∀b ps,H b=some (.lN ps)->∃more,H' b=some (.lN (ps++more))/\fH H' more.toList
section
variable {fs fs' ex ex':List Addr}{H H1 H2:Hp}{h h1 h2 h':Heap}{a x e:Addr}{o:HO}
theorem Un.any(u:Un fs ex H H1 h h1){b:Addr}{ob:Obj}(q:h.get? b=some ob)(n:H b=none)(hx:b∉ex):∃sl,h1.get? b=some {ob with slots:=sl}:=by
 by_cases hb:b∈fs
 ·exact u.slot b ob q n hb hx
 ·exact⟨ob.slots,u.keep b ob q n hb hx⟩
theorem Un.kept(k:∀b u,h.get? b=some u->h'.get? b=some u):Un fs ex H H h h':=
 ⟨λb ob q _ _ _=>k b ob q,λb ob q _ _ _=>⟨ob.slots,k b ob q⟩,λ_ _ _ n _=>n,λb ob q _=>⟨ob,k b ob q⟩,λ_ _ q=>q,λ_ _ _ q=>q,λ_ ps q=>⟨#[],by rw[q];simp,.nil⟩⟩
theorem Un.refl:Un fs ex H H h h:=Un.kept λ_ _ q=>q
theorem Un.laid(k:∀b u,h.get? b=some u->h'.get? b=some u)(hp:h.objs.size<=a)(hn:H a=none):Un fs ex H (upd H a o) h h' where
 keep:=λb u q _ _ _=>k b u q
 slot:=λb u q _ _ _=>⟨u.slots,k b u q⟩
 free:=λb u q n _=>by rw[bT (cU (fV (bO q) hp))];exact n
 there:=λb u q _=>⟨u,k b u q⟩
 tups:=λb xs q=>by rw[bT (xR q hn)];exact q
 iZ:=λb u xs q=>by rw[bT (xR q hn)];exact q
 jB:=λb ps q=>⟨#[],by rw[bT (xR q hn),q];simp,.nil⟩
theorem Un.write(mu:Ih (H x))(he:e=x\/H e=some (.own x))(k:∀b u,b≠e->h.get? b=some u->h'.get? b=some u)(FQ:∃u,h'.get? e=some u):Un fs ex H (upd H x o) h h':=by
 have hx:∀b,H b=none->b≠x:=λb n z=>by subst z;rw[n] at mu;exact mu
 have hb:∀b,H b=none->b≠e:=λb n z=>by
  subst z;rcases he with r|r
  ·exact hx b n r
  ·rw[n] at r;cases r
 have hm:∀b u,H b=some u->¬Ih (some u)->b≠x:=λb u q nm z=>by subst z;rw[q] at mu;exact nm mu
 refine⟨λb u q n _ _=>k b u (hb b n) q,λb u q n _ _=>⟨u.slots,k b u (hb b n) q⟩,λb u q n _=>by rw[bT (hx b n)];exact n,λb u q _=>?_,
  λb xs q=>by rw[bT (hm b _ q λz=>z)];exact q,λb u xs q=>by rw[bT (hm b _ q λz=>z)];exact q,λb ps q=>⟨#[],by rw[bT (hm b _ q λz=>z),q];simp,.nil⟩⟩
 by_cases Bv:b=e
 ·subst Bv;exact FQ
 ·exact⟨u,k b u Bv q⟩
end
noncomputable def Nk(h:Heap)(H:Hp):List Addr:=(List.range h.objs.size).filter λa=>(H a).isSome
noncomputable def mK(h:Heap)(H:Hp):Heap:=PySem.W.hideAll h (Nk h H)
theorem zfy(h:Heap)(H:Hp):(mK h H).objs.size=h.objs.size:=PySem.W.hideAll_size _ _
theorem zhd{h:Heap}{H:Hp}{b:Addr}{o:Obj}(e:h.get? b=some o)(n:H b=none):(mK h H).get? b=some o:=
 PySem.W.hideAll_get _ e λhm=>by
  have q:(H b).isSome=true:=(pO.mp hm).2;rw[n] at q;simp at q
theorem ziE{h:Heap}{H:Hp}{b:Addr}{o:Obj}(e:(mK h H).get? b=some o):h.get? b=some o/\H b=none:=by
 have e':h.get? b=some o:=PySem.W.of_hideAll (Nk h H) e;refine⟨e',?_⟩;cases q:H b with
 |none=>rfl
 |some x=>
  have hm:b∈Nk h H:=pO.mpr ⟨uf.mpr (bO e'),by simp[q]⟩;have z:(mK h H).get? b=none:=PySem.W.hideAll_none (Nk h H) hm;rw[z] at e;cases e
structure Mod(K:W.Frag)(mg:Str->Option Value)(base:Heap):Prop where
 xM:K.In base
 glob:base.Ns mainGlobals mg
 blt:∃mb,base.Ns builtinsNs mb/\∀x:Str,x≠"__name__"->mb x=bootBuiltins x
 nolimit:base.NoLimit
structure Cx where
 prog:Program
 w:World
 K:W.Frag
 mg:Str->Option Value
 base:Heap
 A:Around
 N:List Str
 s₀:Shared
 H₀:Hp
 env:Env
 outer:List Env
 stack:List Env
 ex:List Addr
 fn:Str->Bool
 aj:Bool
 pn:List (Addr×Obj)
 xe:Value->Shared->Prop
noncomputable def frs(l:List Env):List Addr:=l.filterMap (·.frame)
noncomputable abbrev Cx.fs(X:Cx):List Addr:=frs X.outer
def Nm(sc:Scope)(x:Str):Prop:=sc.names.lookup x=some .local\/sc.names.lookup x=some .cell\/sc.names.lookup x=some .free
def Loc(sc:Scope)(x:Str):Prop:=sc.names.lookup x=some .local\/sc.names.lookup x=some .cell
def Look(env:Env)(h:Heap)(m:Str->Option Value)(x:Str)(u:Value):Prop:=
 (env.kindOf x=some .local/\m x=some u)\/((env.kindOf x=some .cell\/env.kindOf x=some .free)/\∃c,env.cells.lookup x=some c/\h.IsCell c (some u))
structure Cx.Ok(X:Cx):Prop where
 mod:Mod X.K X.mg X.base
 kind:X.env.scope.kind=.function
 glob:X.env.globals=mainGlobals
 blt:X.env.builtins=builtinsNs
 above:X.s₀.heap.objs.size<=X.env.locals
 inj:∀x y c,X.env.cells.lookup x=some c->X.env.cells.lookup y=some c->x=y
 has:∀x,(X.env.kindOf x=some .cell\/X.env.kindOf x=some .free)->∃c,X.env.cells.lookup x=some c
 cab:∀x c,X.fn x=true->X.env.cells.lookup x=some c->X.s₀.heap.objs.size<=c
 hd:X.aj=true->X.A.handled=none
 frames:X.A.frames=some X.stack
 stk:X.stack=X.outer\/(X.stack=X.env::X.outer/\X.env.frame=some X.env.locals)
 Ye:∀b∈X.ex,b≠X.env.locals/\∀x c,X.env.cells.lookup x=some c->c≠b
 bs:∀b o,X.base.get? b=some o->X.s₀.heap.get? b=some o/\X.H₀ b=none
 xT:X.base.objs.size<=X.s₀.heap.objs.size
 uw:∀b o,X.base.get? b=some o->b∉X.ex
 xU:∀b∈X.ex,b∉X.fs
 jC:X.s₀.heap.FunFrames X.base X.outer
 zN:(∀b∈X.fs,X.H₀ b=none)/\Bw X.K X.H₀
structure Inv(X:Cx)(ao:List (Addr×Obj))(Z:List (Option V))(H:Hp)(s:Shared):Prop where
 ok:X.Ok
 os:s.os=X.s₀.os
 bare:AllBare s.gens
 base:Un X.fs X.ex X.H₀ H X.s₀.heap s.heap
 loc:∃m,s.heap.Ns X.env.locals m/\∀(i:Nat) (x:Str) (v:V),X.N[i]?=some x->Z[i]?=some (some v)->Nm X.env.scope x->∃u,RelV v u/\Look X.env s.heap m x u
 cell:∀x c,X.env.cells.lookup x=some c->∃v,s.heap.IsCell c v
 free:H X.env.locals=none
 fZ:∀x c,X.env.cells.lookup x=some c->H c=none
 pin:∀p∈X.pn++ao,s.heap.get? p.1=some p.2/\H p.1=none/\p.1≠X.env.locals/\p.1∉X.fs/\∀v,p.2.data≠.cell v
 hok:iU X.prog X.w H s.heap
 len:Z.length=X.N.length
section
variable {X:Cx}{ao:List (Addr×Obj)}{Z:List (Option V)}{H H':Hp}{s:Shared}{h':Heap}
theorem Cx.Ok.Q8(ok:X.Ok){b:Addr}{o:Obj}(e:X.base.get? b=some o):b∉X.fs:=λhb=>by
 have:=(ok.jC.mem hb).1;rw[e] at this;cases this
theorem Inv.bs(I:Inv X ao Z H s):∀b o,X.base.get? b=some o->s.heap.get? b=some o/\H b=none:=λb o e=>
 ⟨I.base.keep b o (I.ok.bs b o e).1 (I.ok.bs b o e).2 (I.ok.Q8 e) (I.ok.uw b o e),I.base.free b o (I.ok.bs b o e).1 (I.ok.bs b o e).2 (I.ok.uw b o e)⟩
theorem Inv.bk(I:Inv X ao Z H s):∀b o,X.base.get? b=some o->s.heap.get? b=some o:=λb o e=>(I.bs b o e).1
theorem Inv.mod(I:Inv X ao Z H s):Mod X.K X.mg X.base:=I.ok.mod
theorem Inv.lO(I:Inv X ao Z H s):X.K.In s.heap:=I.ok.mod.xM.keeps I.bk
theorem Inv.nolimit(I:Inv X ao Z H s):s.heap.NoLimit:=I.ok.mod.nolimit.keeps I.bk
theorem Inv.lt(I:Inv X ao Z H s):X.env.locals<s.heap.objs.size:=let ⟨_,hn,_⟩:=I.loc;hn.lt
theorem Inv.sz(I:Inv X ao Z H s):X.s₀.heap.objs.size<=s.heap.objs.size:=jW I.ok.above (rW I.lt)
theorem Inv.BJ(I:Inv X ao Z H s):Bw X.K H:=λon c P hc=>by
 obtain⟨ps,e,g⟩:=I.ok.zN.2 on c P hc;obtain⟨more,e2,g2⟩:=I.base.jB P ps e;exact⟨ps++more,e2,by rw[Array.toList_append];exact(g.mono I.base.iZ).app g2⟩
theorem Inv.xV(I:Inv X ao Z H s){a:Addr}(h:s.heap.objs.size<=a):a∉X.fs:=λhb=>by
 obtain⟨_,o,ho,_⟩:=I.ok.jC.mem hb;exact absurd (fV (bO ho) (jW I.sz h)) (pD _)
theorem Inv.BK(I:Inv X ao Z H s):∀x c,X.env.cells.lookup x=some c->c≠X.env.locals:=λx c e z=>by
 obtain⟨v,o,ho,hd⟩:=I.cell x c e;obtain⟨m,⟨o',es,ep,pU,xW,_⟩,_⟩:=I.loc;rw[z,pU] at ho;cases ho;rw[xW] at hd;cases hd
theorem Inv.jC(I:Inv X ao Z H s):s.heap.FunFrames X.base X.outer:=by
 have all:∀(l:List Env),(∀b∈frs l,b∈X.fs)->X.s₀.heap.FunFrames X.base l->s.heap.FunFrames X.base l:=by
  intro l
  induction l with
  |nil=>intro _ _;trivial
  |cons env r ih=>
   intro hs hl;obtain⟨hk,⟨L,o,hf,hn,ho,hd⟩,hr⟩:=hl;have hL:L∈X.fs:=hs L (by unfold frs;rw[Hq,hf];exact lA);obtain⟨sl,e⟩:=I.base.slot L o ho (I.ok.zN.1 L hL) hL λz=>I.ok.xU L z hL;exact⟨hk,⟨L,_,hf,hn,e,hd⟩,ih (λb hb=>hs b (by unfold frs;rw[Hq,hf];exact iI _ hb)) hr⟩
 exact all X.outer (λ_ hb=>hb) I.ok.jC
theorem Inv.stack(I:Inv X ao Z H s):s.heap.FunFrames X.base X.stack:=by
 rcases I.ok.stk with e|⟨e,hf⟩
 ·rw[e];exact I.jC
 ·rw[e];obtain⟨m,hn,_⟩:=I.loc;refine .cons (by rw[I.ok.kind];decide) hf hn ?_ I.jC;exact Ep (jW I.ok.xT I.ok.above)
theorem Inv.jZ(I:Inv X ao Z H s):∀b∈frs X.stack,b∈X.env.locals::X.fs:=λb hb=>by
 rcases I.ok.stk with e|⟨e,hf⟩
 ·rw[e] at hb;exact iI _ hb
 ·rw[e] at hb;unfold frs at hb;rw[Hq,hf] at hb;exact hb
theorem Inv.mL(I:Inv X ao Z H s):∀b∈frs X.stack,H b=none:=λb hb=>by
 rcases jA.mp (I.jZ b hb) with e|hb
 ·rw[e];exact I.free
 ·obtain⟨_,o,ho,_⟩:=I.ok.jC.mem hb;exact I.base.free b o ho (I.ok.zN.1 b hb) λz=>I.ok.xU b z hb
theorem Inv.step{g':Array GenState}{t':Nat}{d':Drawn}{ch:List Addr}(I:Inv X ao Z H s)
  (wC:∀b∈ch,(b∈X.ex\/X.s₀.heap.get? b=none)/\b≠X.env.locals/\(∀x c,X.env.cells.lookup x=some c->c≠b)/\∀p∈X.pn++ao,p.1≠b)
  (keep:∀b o,b≠X.env.locals->b∉X.fs->b∉ch->s.heap.get? b=some o->H b=none->h'.get? b=some o)
  (slot:∀b o,b≠X.env.locals->b∈X.fs->b∉ch->s.heap.get? b=some o->H b=none->∃sl,h'.get? b=some {o with slots:=sl}) (free:∀b o,b∉ch->s.heap.get? b=some o->H b=none->H' b=none)
  (there:∀b o,b∉ch->s.heap.get? b=some o->∃o',h'.get? b=some o')
  (tups:∀b xs,H b=some (.tup xs)->H' b=some (.tup xs)) (iZ:∀b o u,H b=some (.nU o u)->H' b=some (.nU o u)) (jB:∀b ps,H b=some (.lN ps)->∃more,H' b=some (.lN (ps++more))/\fH H' more.toList)
  (ns:∀m,s.heap.Ns X.env.locals m->h'.Ns X.env.locals m) (hok:iU X.prog X.w H' h') (hg:AllBare g') :
  Inv X ao Z H' {s with heap:=h',gens:=g',drawn:=d',toks:=t'}:=by
 have Yg:∀b o,X.s₀.heap.get? b=some o->b≠X.env.locals:=λb o e=>cU (fV (bO e) I.ok.above);have Np:∀b o,X.s₀.heap.get? b=some o->b∉X.ex->b∉ch:=λb o e hx hb=>by
  rcases(wC b hb).1 with z|z
  ·exact hx z
  ·rw[e] at z;cases z
 have cellK:∀x c,X.env.cells.lookup x=some c->∀v,s.heap.IsCell c v->h'.IsCell c v:=λx c e v hx=>wB hx λo ho hd=>by
  have Ij:c∉ch:=λz=>(wC c z).2.2.1 x c e rfl;by_cases hc:c∈X.fs
  ·obtain⟨sl,q⟩:=slot c o (I.BK x c e) hc Ij ho (I.fZ x c e);exact⟨_,q,hd⟩
  ·exact⟨o,keep c o (I.BK x c e) hc Ij ho (I.fZ x c e),hd⟩
 refine⟨I.ok,I.os,hg,⟨λb o e n hb hx=>?_,λb o e n hb hx=>?_,λb o e n hx=>?_,λb o e hx=>?_,λb xs e=>tups b xs (I.base.tups b xs e),λb o xs e=>iZ b o xs (I.base.iZ b o xs e),λb ps e=>?_⟩,?_,λx c e=>?_,?_,λx c e=>?_,λp hp=>?_,hok,I.len⟩
 ·exact keep b o (Yg b o e) hb (Np b o e hx) (I.base.keep b o e n hb hx) (I.base.free b o e n hx)
 ·obtain⟨sl,e1⟩:=I.base.slot b o e n hb hx;obtain⟨sl',e2⟩:=slot b _ (Yg b o e) hb (Np b o e hx) e1 (I.base.free b o e n hx);exact⟨sl',e2⟩
 ·obtain⟨o',e1⟩:=I.base.there b o e hx;exact free b o' (Np b o e hx) e1 (I.base.free b o e n hx)
 ·obtain⟨o',e1⟩:=I.base.there b o e hx;exact there b o' (Np b o e hx) e1
 ·obtain⟨m1,e1,g1⟩:=I.base.jB b ps e;obtain⟨m2,e2,g2⟩:=jB b _ e1;exact⟨m1++m2,by rw[e2,Array.append_assoc],by rw[Array.toList_append];exact(g1.mono iZ).app g2⟩
 ·obtain⟨m,hn,hl⟩:=I.loc;refine⟨m,ns m hn,λi x v e1 e2 e3=>?_⟩;obtain⟨u,r,l⟩:=hl i x v e1 e2 e3;refine⟨u,r,?_⟩;rcases l with l|⟨k,c,e,z⟩
  ·exact .inl l
  ·exact .inr ⟨k,c,e,cellK x c e _ z⟩
 ·obtain⟨v,z⟩:=I.cell x c e;exact⟨v,cellK x c e v z⟩
 ·obtain⟨m,⟨o,_,_,ho,_⟩,_⟩:=I.loc;exact free _ o (λz=>(wC _ z).2.1 rfl) ho I.free
 ·obtain⟨v,o,ho,hd⟩:=I.cell x c e;exact free c o (λz=>(wC c z).2.2.1 x c e rfl) ho (I.fZ x c e)
 ·obtain⟨e,n,ne,nf,d⟩:=I.pin p hp;have Ij:p.1∉ch:=λz=>(wC p.1 z).2.2.2 p hp rfl;exact⟨keep p.1 p.2 ne nf Ij e n,free p.1 p.2 Ij e n,ne,nf,d⟩
theorem Inv.un{t':Nat}(I:Inv X ao Z H s)(u:Un X.fs [] H H' s.heap h')(hok:iU X.prog X.w H' h'):Inv X ao Z H' {s with heap:=h',toks:=t'}:=by
 obtain⟨m,⟨o,es,ep,ho,r⟩,_⟩:=id I.loc;obtain⟨sl,hL⟩:=u.any ho I.free Zaa;exact I.step (g':=s.gens) (d':=s.drawn) (ch:=[]) (λ_ z=>nomatch z) (λb o _ hb _ e n=>u.keep b o e n hb Zaa) (λb o _ hb _ e n=>u.slot b o e n hb Zaa) (λb o _ e n=>u.free b o e n Zaa) (λb o _ e=>u.there b o e Zaa) u.tups u.iZ u.jB (λm' hm=>by
  obtain⟨o',es',ep',pU,r'⟩:=hm;rw[ho] at pU;cases pU;exact⟨_,es',ep',hL,r'⟩) hok I.bare
theorem Inv.call{g':Array GenState}{t':Nat}{d':Drawn}{ch:List Addr}(I:Inv X ao Z H s)(u:Un (frs X.stack) ch H H' s.heap h')(hok:iU X.prog X.w H' h')(hg:AllBare g')
  (wC:∀b∈ch,(b∈X.ex\/X.s₀.heap.get? b=none)/\b≠X.env.locals/\(∀x c,X.env.cells.lookup x=some c->c≠b)/\∀p∈X.pn++ao,p.1≠b) :
  Inv X ao Z H' {s with heap:=h',gens:=g',drawn:=d',toks:=t'}:=by
 obtain⟨m,⟨o,es,ep,ho,r⟩,_⟩:=id I.loc;obtain⟨sl,hL⟩:=u.any ho I.free λz=>(wC _ z).2.1 rfl;exact I.step (ch:=ch) wC (λb o hL hb hc e n=>u.keep b o e n (λz=>(jA.mp (I.jZ b z)).elim hL hb) hc) (λb o _ _ hc e n=>u.any e n hc) (λb o hc e n=>u.free b o e n hc) (λb o hc e=>u.there b o e hc) u.tups u.iZ u.jB (λm' hm=>by
  obtain⟨o',es',ep',pU,r'⟩:=hm;rw[ho] at pU;cases pU;exact⟨_,es',ep',hL,r'⟩) hok hg
theorem Inv.turned{t':Nat}{it:Addr}(I:Inv X ao Z H s)(k:∀b o,b≠it->s.heap.get? b=some o->h'.get? b=some o)(hn:H it=none)(hL:it≠X.env.locals)
  (h1:it∈X.ex\/X.s₀.heap.objs.size<=it) (h2:∀x c,X.env.cells.lookup x=some c->c≠it) (h3:∀p∈X.pn++ao,p.1≠it):Inv X ao Z H {s with heap:=h',toks:=t'}:=by
 have zO:∀b u,H b=some u->b≠it:=λb u e z=>by rw[z,hn] at e;cases e
 refine I.step (g':=s.gens) (d':=s.drawn) (ch:=[it]) (λb hb=>?_) (λb o _ _ hc e _=>k b o (λz=>hc (by simp[z])) e) (λb o _ _ hc e _=>⟨o.slots,k b o (λz=>hc (by simp[z])) e⟩) (λ_ _ _ _ n=>n)
  (λb o hc e=>⟨o,k b o (λz=>hc (by simp[z])) e⟩) (λ_ _ e=>e) (λ_ _ _ e=>e) (λb ps e=>⟨#[],by rw[e];simp,.nil⟩) (λm hm=>?_) (λb u e=>?_) I.bare
 ·have e:b=it:=by simpa using hb
  subst e;exact⟨h1.imp id λz=>Ep z,hL,h2,h3⟩
 ·obtain⟨o,es,ep,ho,r⟩:=hm;exact⟨o,es,ep,k _ o (Ne.symm hL) ho,r⟩
 ·refine(I.hok b u e).stay (λc v hc q=>k c v ?_ q) (λ_ q=>q) λ_ _ q=>q;rcases hc with z|z
  ·rw[z];exact zO b u e
  ·exact zO c _ z
theorem Inv.tok(I:Inv X ao Z H s)(t:Nat):Inv X ao Z H {s with toks:=t}:=I.un (h':=s.heap) (t':=t) Un.refl I.hok
theorem Inv.kept{t':Nat}(I:Inv X ao Z H s)(k:∀b u,s.heap.get? b=some u->h'.get? b=some u):Inv X ao Z H {s with heap:=h',toks:=t'}:=I.un (Un.kept k) (I.hok.kept k)
theorem Inv.laid{a:Addr}{o:HO}{t':Nat}(I:Inv X ao Z H s)(k:∀b u,s.heap.get? b=some u->h'.get? b=some u)(hp:s.heap.objs.size<=a)(new:bF X.prog X.w (upd H a o) h' a o) :
  Inv X ao Z (upd H a o) {s with heap:=h',toks:=t'}:=I.un (Un.laid k hp (I.hok.fresh hp)) (I.hok.laid k hp new)
theorem Inv.write{x e:Addr}{o:HO}{t':Nat}(I:Inv X ao Z H s)(mu:Ih (H x))(he:e=x\/H e=some (.own x))(k:∀b u,b≠e->s.heap.get? b=some u->h'.get? b=some u)(FQ:∃u,h'.get? e=some u)
  (new:bF X.prog X.w (upd H x o) h' x o):Inv X ao Z (upd H x o) {s with heap:=h',toks:=t'}:=I.un (Un.write mu he k FQ) (I.hok.write mu he k FQ new)
theorem Inv.jN{jq:List (Addr×Obj)}(I:Inv X ao Z H s)(h:∀p∈jq,s.heap.get? p.1=some p.2/\H p.1=none/\p.1≠X.env.locals/\p.1∉X.fs/\∀v,p.2.data≠.cell v):Inv X jq Z H s:=
 ⟨I.ok,I.os,I.bare,I.base,I.loc,I.cell,I.free,I.fZ,λp hp=>(mC.mp hp).elim (λz=>I.pin p (Hl _ z)) (h p),I.hok,I.len⟩
theorem Yh{N:List Str}(hN:N.Nodup){i j:Nat}{x:Str}(a:N[i]?=some x)(b:N[j]?=some x):i=j:=by
 obtain⟨h1,e1⟩:=dW.mp a;obtain⟨h2,e2⟩:=dW.mp b;exact(List.getElem_inj hN).mp (e1.trans e2.symm)
theorem Q9{M:Model}{A:Around}{E:Value->Shared->Prop}{i:Nat}{x:Str}{v:V}{u:Value}{Q:Unit->Shared->Prop}(I:Inv X ao Z H s)(hN:X.N.Nodup)(hi:X.N[i]?=some x)(hx:Loc X.env.scope x)(r:RelV v u)
  (h:∀s',Inv X ao (Z.set i (some v)) H s'->(∃a,Heap.SameBut a s.heap s'.heap/\(a=X.env.locals\/X.env.cells.lookup x=some a))->Q () s') (hf:X.fn x=true\/X.env.scope.names.lookup x=some .local:=by first|exact .inl rfl|exact .inr rfl|assumption):wpAny M A (storeName X.env x u) Q E s:=by
 obtain⟨m,hn,hl⟩:=id I.loc;have Q_:(X.env.scope.kind==.class||(X.env.scope.kind==.module&&X.env.locals != X.env.globals))=false:=by rw[I.ok.kind];rfl
 have Yi:i<Z.length:=by rw[I.len];exact(dW.mp hi).1
 have BK:=I.BK;have tracked:∀{a:Addr} {h':Heap},(∃o,s.heap.get? a=some o/\H a=none)->Heap.SameBut a s.heap h'->iU X.prog X.w H h':=λ{a h'} ha hs b ob e=>by
  obtain⟨_,_,qR⟩:=ha;refine(I.hok b ob e).stay (λc w' hc q=>(hs.2 c ?_).trans q) (λ_ q=>q) λ_ _ q=>q;rintro rfl;rcases hc with rfl|hc
  ·rw[qR] at e;cases e
  ·rw[qR] at hc;cases hc
 rcases hx with hk|hk
 ·refine wpAny_storeName_local hk hn (λh' Nq hs=>?_) Q_;obtain⟨oL,_,_,BL,_⟩:=id hn;refine h _ ⟨I.ok,I.os,I.bare,⟨λb o e n hb hx=>?_,λb o e n hb hx=>?_,I.base.free,λb o e hx=>?_,I.base.tups,I.base.iZ,I.base.jB⟩,⟨_,Nq,λj y v' e1 e2 e3=>?_⟩,λy c e=>?_,I.free,I.fZ,λp hp=>?_,tracked ⟨oL,BL,I.free⟩ hs,by simpa using I.len⟩ ⟨_,hs,.inl rfl⟩
  ·exact(hs.2 b (cU (fV (bO e) I.ok.above))).trans (I.base.keep b o e n hb hx)
  ·obtain⟨sl,e1⟩:=I.base.slot b o e n hb hx;exact⟨sl,(hs.2 b (cU (fV (bO e) I.ok.above))).trans e1⟩
  ·obtain⟨o',e1⟩:=I.base.there b o e hx;exact⟨o',(hs.2 b (cU (fV (bO e) I.ok.above))).trans e1⟩
  ·by_cases hj:j=i
   ·subst hj;rw[hi] at e1;cases e1;rw[zp Yi] at e2;cases e2;exact⟨u,r,.inl ⟨hk,by simp⟩⟩
   ·rw[qK (Ne.symm hj)] at e2;obtain⟨u',r',q⟩:=hl j y v' e1 e2 e3;refine⟨u',r',?_⟩;rcases q with ⟨k,e⟩|⟨k,c,e,z⟩
    ·refine .inl ⟨k,?_⟩;have:y≠x:=λe=>hj (Yh hN e1 (e▸hi));simp[this,e]
    ·exact .inr ⟨k,c,e,z.sameBut hs (BK y c e)⟩
  ·obtain⟨w',z⟩:=I.cell y c e;exact⟨w',z.sameBut hs (BK y c e)⟩
  ·obtain⟨e,n,ne,nf,d⟩:=I.pin p hp;exact⟨(hs.2 p.1 ne).trans e,n,ne,nf,d⟩
 ·have Ra:X.fn x=true:=by
   rcases hf with z|z
   ·exact z
   ·rw[z] at hk;cases hk
  obtain⟨c,hc⟩:=I.ok.has x (.inl hk);obtain⟨w',z⟩:=I.cell x c hc;refine wpAny_storeName_cell I.ok.kind hk hc z (λh' lD hs=>?_);obtain⟨oc,Ik,Rb⟩:=id z;refine h {s with heap:=h'} ⟨I.ok,I.os,I.bare,⟨λb o e n hb hx=>?_,λb o e n hb hx=>?_,I.base.free,λb o e hx=>?_,I.base.tups,I.base.iZ,I.base.jB⟩,⟨m,hn.sameBut hs (Ne.symm (BK x c hc)),λj y v' e1 e2 e3=>?_⟩,λy c' e=>?_,I.free,I.fZ,λp hp=>?_,tracked ⟨oc,Ik,I.fZ x c hc⟩ hs,by simpa using I.len⟩ ⟨c,hs,.inr hc⟩
  ·exact(hs.2 b (cU (fV (bO e) (I.ok.cab x c Ra hc)))).trans (I.base.keep b o e n hb hx)
  ·obtain⟨sl,e1⟩:=I.base.slot b o e n hb hx;exact⟨sl,(hs.2 b (cU (fV (bO e) (I.ok.cab x c Ra hc)))).trans e1⟩
  ·obtain⟨o',e1⟩:=I.base.there b o e hx;exact⟨o',(hs.2 b (cU (fV (bO e) (I.ok.cab x c Ra hc)))).trans e1⟩
  ·by_cases hj:j=i
   ·subst hj;rw[hi] at e1;cases e1;rw[zp Yi] at e2;cases e2;exact⟨u,r,.inr ⟨.inl hk,c,hc,lD⟩⟩
   ·rw[qK (Ne.symm hj)] at e2;obtain⟨u',r',q⟩:=hl j y v' e1 e2 e3;refine⟨u',r',?_⟩;rcases q with q|⟨k,c',e,z'⟩
    ·exact .inl q
    ·refine .inr ⟨k,c',e,z'.sameBut hs ?_⟩;rintro rfl;exact hj (Yh hN e1 (I.ok.inj _ _ _ e hc▸hi))
  ·by_cases Yj:c'=c
   ·subst Yj;exact⟨_,lD⟩
   ·obtain⟨w2,z2⟩:=I.cell y c' e;exact⟨w2,z2.sameBut hs Yj⟩
  ·obtain⟨e,n,ne,nf,d⟩:=I.pin p hp;refine⟨(hs.2 p.1 ?_).trans e,n,ne,nf,d⟩;intro q;rw[q,Ik] at e;have q':oc=p.2:=cI e;exact d w' (by rw[<-q'];exact Rb)
theorem Il{M:Model}{A:Around}{E:Value->Shared->Prop}{i:Nat}{x:Str}{v:V}{u:Value}{Q:Unit->Shared->Prop}(I:Inv X ao Z H s)(hN:X.N.Nodup)(hi:X.N[i]?=some x)(hx:Loc X.env.scope x)(r:RelV v u)
  (h:∀s',Inv X ao (Z.set i (some v)) H s'->Q () s') (hf:X.fn x=true\/X.env.scope.names.lookup x=some .local:=by first|exact .inl rfl|exact .inr rfl|assumption):wpAny M A (storeName X.env x u) Q E s:=
 Q9 I hN hi hx r (λs' I' _=>h s' I') hf
theorem Inv.call'{s':Shared}{ch:List Addr}(I:Inv X ao Z H s)(ho:s'.os=s.os)(u:Un (frs X.stack) ch H H' s.heap s'.heap)(hok:iU X.prog X.w H' s'.heap)(hg:AllBare s'.gens)
  (wC:∀b∈ch,(b∈X.ex\/X.s₀.heap.get? b=none)/\b≠X.env.locals/\(∀x c,X.env.cells.lookup x=some c->c≠b)/\∀p∈X.pn++ao,p.1≠b):Inv X ao Z H' s':=by
 obtain⟨h',g',d',t',o'⟩:=s';have e:o'=s.os:=ho;subst e;exact I.call (g':=g') (t':=t') (d':=d') u hok hg wC
end
noncomputable abbrev XK:=Value->Option Addr->Hp->Prop
noncomputable abbrev St:=List (Option V)
noncomputable abbrev VK:=V->Hp->Prop
noncomputable abbrev TE:=St->Hp->VK->Prop
noncomputable abbrev TT:=St->Hp->(Bool->Hp->Prop)->Prop
noncomputable abbrev TA:=St->Hp->(List V->Hp->Prop)->Prop
structure Ends where
 nx:St->Hp->Prop
 rt:VK
 bk:St->Hp->Prop:=λ_ _=>False
 ct:St->Hp->Prop:=λ_ _=>False
noncomputable abbrev TS:=Ends->St->Hp->Prop
def EP(X:Cx)(ao:List (Addr×Obj))(Z:St)(Q:VK)(u:Value)(s':Shared):Prop:=∃v H',Inv X ao Z H' s'/\RelV v u/\Q v H'
def TP(X:Cx)(ao:List (Addr×Obj))(Z:St)(Q:Bool->Hp->Prop)(b:Bool)(s':Shared):Prop:=∃H',Inv X ao Z H' s'/\Q b H'
def AP(X:Cx)(ao:List (Addr×Obj))(Z:St)(Q:List V->Hp->Prop)(us:List Value)(s':Shared):Prop:=∃vs H',Inv X ao Z H' s'/\Vals vs us/\Q vs H'
def SP(X:Cx)(ao:List (Addr×Obj))(D:Ends)(f:Flow)(s':Shared):Prop:=
 match f with
 |.next=>∃Z' H',Inv X ao Z' H' s'/\D.nx Z' H'
 |.brk=>∃Z' H',Inv X ao Z' H' s'/\D.bk Z' H'
 |.cont=>∃Z' H',Inv X ao Z' H' s'/\D.ct Z' H'
 |.ret u=>∃v Z' H',Inv X ao Z' H' s'/\RelV v u/\D.rt v H'
def PE(X:Cx)(e:Expr)(t:TE):Prop:=
 ∀(ao:List (Addr×Obj)) (s:Shared) (Z:St) (H:Hp) (Q:VK),Inv X ao Z H s->t Z H Q->wpAny (model X.prog X.w) X.A (eval e X.env) (EP X ao Z Q) X.xe s
def PT(X:Cx)(e:Expr)(t:TT):Prop:=
 ∀(ao:List (Addr×Obj)) (s:Shared) (Z:St) (H:Hp) (Q:Bool->Hp->Prop),Inv X ao Z H s->t Z H Q->wpAny (model X.prog X.w) X.A (isTrue e X.env (eval e X.env)) (TP X ao Z Q) X.xe s
def PW(X:Cx)(e:Expr)(t:TT):Prop:=
 ∀(whole:Sem Value) (ao:List (Addr×Obj)) (s:Shared) (Z:St) (H:Hp) (Q:Bool->Hp->Prop),Inv X ao Z H s->t Z H Q->wpAny (model X.prog X.w) X.A (isTrue e X.env whole) (TP X ao Z Q) X.xe s
theorem Kac{X:Cx}{e:Expr}{t:TT}(h:PW X e t):PT X e t:=h _
def PA(X:Cx)(es:List Expr)(t:TA):Prop:=
 ∀(pos:Pos) (ao:List (Addr×Obj)) (s:Shared) (Z:St) (H:Hp) (Q:List V->Hp->Prop),Inv X ao Z H s->t Z H Q->wpAny (model X.prog X.w) X.A (spliced (backTo pos (starEach es X.env))) (AP X ao Z Q) X.xe s
def PS(X:Cx)(st:Stmt)(t:TS):Prop:=
 ∀(ao:List (Addr×Obj)) (s:Shared) (Z:St) (H:Hp) (D:Ends),Inv X ao Z H s->t D Z H->wpAny (model X.prog X.w) X.A (exec st X.env) (SP X ao D) X.xe s
def pW(X:Cx)(st:List Stmt)(t:TS):Prop:=
 ∀(ao:List (Addr×Obj)) (s:Shared) (Z:St) (H:Hp) (D:Ends),Inv X ao Z H s->t D Z H->wpAny (model X.prog X.w) X.A (execs st X.env) (SP X ao D) X.xe s
theorem aW{α:Type}{t:Sem α}{Q Q':α->Shared->Prop}{M:Model}{A:Around}{E:Value->Shared->Prop}{s:Shared}(h:wpAny M A t Q E s)(hQ:∀a s,Q a s->Q' a s):wpAny M A t Q' E s:=fX h hQ λ_ _ x=>x
section
variable {X:Cx}
noncomputable def Rf(i:Nat):TE:=λZ H Q=>∃v,Z[i]?=some (some v)/\Q v H
noncomputable def tC(v:V):TE:=λ_ H Q=>Q v H
theorem Yk{i:Nat}{x:Str}{pos:Pos}(hN:X.N[i]?=some x)(hv:Nm X.env.scope x)(hd:(x==("__debug__" : Str))=false:=by decide)(iK:(x==("__classdict__" : Str))=false:=by decide):PE X (.Name x pos) (Rf i):=by
 intro ao s Z H Q I h;obtain⟨v,e,h⟩:=h;obtain⟨m,hn,hl⟩:=I.loc;obtain⟨u,r,l⟩:=hl i x v hN e hv;have fin:EP X ao Z Q u s:=⟨v,H,I,r,h⟩;rcases l with ⟨hk,hm⟩|⟨hk,c,hc,qT⟩
 ·exact wpAny_Name (wpAny_loadName_local I.ok.kind hk hn hm fin) hd
 ·rcases hk with hk|hk
  ·exact wpAny_Name (wpAny_loadName_cell I.ok.kind hk hc qT fin) hd
  ·exact wpAny_Name (wpAny_loadName_free I.ok.kind hk hc qT fin iK) hd
theorem zkJ{i j pos}:PE X (.Constant (.int i) j pos) (tC (.int i)):=λ_ _ _ H _ I h=>wpAny_Constant_int ⟨.int i,H,I.tok _,⟨_,rfl⟩,h⟩
theorem znU{b j pos}:PE X (.Constant (.bool b) j pos) (tC (.bl b)):=λ_ _ _ H _ I h=>Constant_bool ⟨.bl b,H,I,rfl,h⟩
theorem zlx{j pos}:PE X (.Constant .none j pos) (tC .non):=λ_ _ _ H _ I h=>Constant_none ⟨.non,H,I,rfl,h⟩
def Gl(X:Cx)(x:Str):Prop:=X.env.kindOf x=some .globalImplicit
theorem Rg{E:Value->Shared->Prop}{ao:List (Addr×Obj)}{s:Shared}{Z:St}{H:Hp}{x:Str}{u:Value}{pos:Pos}{Q:Value->Shared->Prop}(I:Inv X ao Z H s)(hg:Gl X x)(hm:X.mg x=some u)(h:Q u s)
  (hd:(x==("__debug__" : Str))=false:=by decide):wpAny (model X.prog X.w) X.A (eval (.Name x pos) X.env) Q E s:=
 Calls.Name_function_global I.ok.kind hg (Calls.loadGlobal_global (by rw[I.ok.glob];exact I.mod.glob.keeps I.bk) hm h) hd
theorem wD{E:Value->Shared->Prop}{ao:List (Addr×Obj)}{s:Shared}{Z:St}{H:Hp}{x:Str}{u:Value}{pos:Pos}{Q:Value->Shared->Prop}(I:Inv X ao Z H s)(hg:Gl X x)(hm:X.mg x=none)(hv:bootBuiltins x=some u)(h:Q u s)
  (hn:x≠"__name__":=by decide) (hd:(x==("__debug__" : Str))=false:=by decide):wpAny (model X.prog X.w) X.A (eval (.Name x pos) X.env) Q E s:=by
 obtain⟨mb,h1,h2⟩:=I.mod.blt;exact Calls.Name_function_global I.ok.kind hg (Calls.loadGlobal_builtin (by rw[I.ok.glob];exact I.mod.glob.keeps I.bk) hm (by rw[I.ok.blt];exact h1.keeps I.bk) ((h2 x hn).trans hv) h) hd
theorem zj9{x:Str}{v:V}{u:Value}{pos:Pos}(hg:Gl X x)(hm:X.mg x=some u)(r:RelV v u)(hd:(x==("__debug__" : Str))=false:=by decide):PE X (.Name x pos) (tC v):=
 λ_ _ _ H _ I h=>Rg I hg hm ⟨v,H,I,r,h⟩ hd
variable {a b:Expr}{ta tb:TE}{pos:Pos}
def PC(X:Cx)(op:CmpOp)(a b:Expr)(t:TE):Prop:=
 ∀(ao:List (Addr×Obj)) (s:Shared) (Z:St) (H:Hp) (Q:VK),Inv X ao Z H s->t Z H Q->
  wpAny (model X.prog X.w) X.A (eval a X.env) (λv s₁=>wpAny (model X.prog X.w) X.A (eval b X.env) (λu s₂=>wpAny (model X.prog X.w) X.A (compareOp op v u) (EP X ao Z Q) X.xe s₂) X.xe s₁) X.xe s
theorem nW(b:Expr){op:CmpOp}(h:op≠.In)(h2:op≠.NotIn):behindInMarks op b=false:=by
 have e1:(op==CmpOp.In)=false:=by cases op<;>first|rfl|exact absurd rfl h
 have e2:(op==CmpOp.NotIn)=false:=by cases op<;>first|rfl|exact absurd rfl h2
 cases b<;>simp[behindInMarks,e1,e2]
noncomputable def Rh(ta:TE):TE:=λZ H Q=>ta Z H λx H1=>Q (.bl (decide (x=.non))) H1
noncomputable def Im(ta:TE):TE:=λZ H Q=>ta Z H λx H1=>Q (.bl (!decide (x=.non))) H1
theorem RelV.nY{x:V}{v:Value}(r:RelV x v):(v==Value.none)=decide (x=.non):=by
 cases x with
 |non=>cases r;rfl
 |bl _=>cases r;rfl
 |int _=>obtain⟨t,rfl⟩:=r;rfl
 |str _=>obtain⟨t,rfl⟩:=r;rfl
 |Bu _=>obtain⟨t,rfl⟩:=r;rfl
 |flt _=>obtain⟨t,rfl⟩:=r;rfl
 |ref _=>cases r;rfl
 |ty _=>cases r;rfl
theorem Yl{j pos'}(ha:PE X a ta):PC X .Is a (.Constant .none j pos') (Rh ta):=by
 intro ao s Z H Q I h;refine aW (ha ao s Z H _ I h) λv s1 hx=>fu hx λx H1 I1 r1 q1=>?_;exact Constant_none (is_none_gen ⟨.bl _,H1,I1,by rw[r1.nY];rfl,q1⟩)
theorem Ym{j pos'}(ha:PE X a ta):PC X .IsNot a (.Constant .none j pos') (Im ta):=by
 intro ao s Z H Q I h;refine aW (ha ao s Z H _ I h) λv s1 hx=>fu hx λx H1 I1 r1 q1=>?_;exact Constant_none (isnot_none_gen ⟨.bl _,H1,I1,by rw[r1.nY];rfl,q1⟩)
noncomputable def tB(t:TE):TT:=λZ H Q=>t Z H λx H1=>∃c,x=.bl c/\Q c H1
theorem Yn{op:CmpOp}{t:TE}(h:PC X op a b t)(h1:behindInMarks op b=false:=by first|exact nW _ Tc Tc|rfl):PE X (.Compare a [op] [b] pos) t:=λao s Z H Q I hw=>wpAny_Compare1 (h ao s Z H Q I hw) h1
theorem Ri{op:CmpOp}{t:TE}(h:PC X op a b t)(h1:behindInMarks op b=false:=by first|exact nW _ Tc Tc|rfl):PT X (.Compare a [op] [b] pos) (tB t):=by
 intro ao s Z H Q I hw;refine wpAny_isTrue_Compare1 (aW (h ao s Z H _ I hw) λv s1 h1=>aW h1 λu s2 h2=>aW h2 λc s3 hx=>fu hx λx H1 I1 r1 q1=>?_) h1;obtain⟨d,rfl,q⟩:=q1;cases r1;exact v8 ⟨H1,I1,q⟩
theorem zkC{e:Expr}{t:TE}(h:PE X e t)(he:∀whole,isTrue e X.env whole=(do let v <-whole;standAt e.pos;holding [v] (truthy v)):=by intro _;rfl):PT X e (tB t):=by
 intro ao s Z H Q I hw;refine isTrue_plain (aW (h ao s Z H _ I hw) λv s1 hx=>fu hx λx H1 I1 r1 q1=>?_) (he _);obtain⟨d,rfl,q⟩:=q1;cases r1;exact v8 ⟨H1,I1,q⟩
variable {tA Nr:TT}{rest:List Expr}
noncomputable def Rj(t u:TT):TT:=λZ H Q=>t Z H λc H1=>if c=true then u Z H1 Q else Q false H1
noncomputable def tOr(t u:TT):TT:=λZ H Q=>t Z H λc H1=>if c=true then Q true H1 else u Z H1 Q
noncomputable def Rm(t:TT):TT:=λZ H Q=>t Z H λc H1=>Q (!c) H1
theorem zjC(ha:PT X a tA):PW X (.BoolOp .And [a] pos) tA:=by
 intro wh ao s Z H Q I h;refine isTrue_and (aW (ha ao s Z H Q I h) λc s1 e=>?_);cases c with
 |true=>exact isTrue_and_nil e
 |false=>exact e
theorem zlh(ha:PT X a tA):PW X (.BoolOp .Or [a] pos) tA:=by
 intro wh ao s Z H Q I h;refine isTrue_or (aW (ha ao s Z H Q I h) λc s1 e=>?_);cases c with
 |false=>exact isTrue_or_nil e
 |true=>exact e
theorem zmp(ha:PT X a tA)(hb:PW X (.BoolOp .And (b::rest) pos) Nr):PW X (.BoolOp .And (a::b::rest) pos) (Rj tA Nr):=by
 intro wh ao s Z H Q I h;refine isTrue_and (aW (ha ao s Z H _ I h) λc s1 hx=>wB hx λH1 I1 q1=>?_);cases c with
 |true=>exact hb wh ao s1 Z H1 Q I1 q1
 |false=>exact⟨H1,I1,q1⟩
theorem znW(ha:PT X a tA)(hb:PW X (.BoolOp .Or (b::rest) pos) Nr):PW X (.BoolOp .Or (a::b::rest) pos) (tOr tA Nr):=by
 intro wh ao s Z H Q I h;refine isTrue_or (aW (ha ao s Z H _ I h) λc s1 hx=>wB hx λH1 I1 q1=>?_);cases c with
 |true=>exact⟨H1,I1,q1⟩
 |false=>exact hb wh ao s1 Z H1 Q I1 q1
theorem zli(ha:PT X a tA):PT X (.UnaryOp .Not a pos) (Rm tA):=by
 intro ao s Z H Q I h;exact isTrue_not (ha ao s Z H (λc H1=>Q (!c) H1) I h)
noncomputable def Io(ta tb:TE):TE:=λZ H Q=>ta Z H λx H1=>∃c,x=.bl c/\if c=true then tb Z H1 Q else Q (.bl false) H1
noncomputable def Rn(ta tb:TE):TE:=λZ H Q=>ta Z H λx H1=>∃c,x=.bl c/\if c=true then Q (.bl true) H1 else tb Z H1 Q
noncomputable def Ip(ta:TE):TE:=λZ H Q=>ta Z H λx H1=>∃c,x=.bl c/\Q (.bl (!c)) H1
theorem zmf{op}{t:TE}(h:PE X a t):PE X (.BoolOp op [a] pos) t:=λao s Z H Q I hw=>BoolOp_one (h ao s Z H Q I hw)
theorem zk8(ha:PE X a ta)(hb:PE X (.BoolOp .And (b::rest) pos) tb):PE X (.BoolOp .And (a::b::rest) pos) (Io ta tb):=by
 intro ao s Z H Q I h;refine BoolOp_and (aW (ha ao s Z H _ I h) λv s1 hx=>fu hx λx H1 I1 r1 q1=>?_);obtain⟨c,rfl,q1⟩:=q1;cases r1;refine v8 ?_;cases c with
 |true=>exact hb ao s1 Z H1 Q I1 q1
 |false=>exact⟨.bl false,H1,I1,rfl,q1⟩
theorem znb(ha:PE X a ta)(hb:PE X (.BoolOp .Or (b::rest) pos) tb):PE X (.BoolOp .Or (a::b::rest) pos) (Rn ta tb):=by
 intro ao s Z H Q I h;refine BoolOp_or (aW (ha ao s Z H _ I h) λv s1 hx=>fu hx λx H1 I1 r1 q1=>?_);obtain⟨c,rfl,q1⟩:=q1;cases r1;refine v8 ?_;cases c with
 |false=>exact hb ao s1 Z H1 Q I1 q1
 |true=>exact⟨.bl true,H1,I1,rfl,q1⟩
theorem zlQ(ha:PE X a ta):PE X (.UnaryOp .Not a pos) (Ip ta):=by
 intro ao s Z H Q I h;refine UnaryOp_ (aW (ha ao s Z H _ I h) λv s1 hx=>fu hx λx H1 I1 r1 q1=>?_);obtain⟨c,rfl,q1⟩:=q1;cases r1;exact not_of (v8 ⟨.bl (!c),H1,I1,rfl,q1⟩)
noncomputable def tIf(t:TT)(ta tb:TE):TE:=λZ H Q=>t Z H λc H1=>if c=true then ta Z H1 Q else tb Z H1 Q
theorem zhJ{c:Expr}(hc:PT X c tA)(ha:PE X a ta)(hb:PE X b tb):PE X (.IfExp c a b pos) (tIf tA ta tb):=by
 intro ao s Z H Q I h;refine wpAny_IfExp (aW (hc ao s Z H _ I h) λd s1 hx=>wB hx λH1 I1 q1=>?_);cases d with
 |true=>exact ha ao s1 Z H1 Q I1 q1
 |false=>exact hb ao s1 Z H1 Q I1 q1
end
def cV(K:W.Frag)(H:Hp)(a:Addr)(xs:List V):Prop:=
 Rd H a (.lst xs) \/
  ∃(o:Obj) (its:Array Value) (n:Nat),K.lookup a=some o/\o.cls=.type "list"/\o.dict=none/\o.data=.seq its n/\its.size<=sizeLine/\Vals xs its.toList
def gR(K:W.Frag)(H:Hp)(a:Addr)(xs:List V):Prop:=
 Rd H a (.tup xs) \/
  ∃(o:Obj) (its:Array Value) (n:Nat),K.lookup a=some o/\o.cls=.type "tuple"/\o.data=.seq its n/\its.size<=sizeLine/\Vals xs its.toList
noncomputable def Ro:Value->Option V
 |.none=>some .non
 |.bool b=>some (.bl b)
 |.int i _=>some (.int i)
 |.str x _=>some (.str x)
 |.bytes b _=>some (.Bu b)
 |.float b _=>some (.flt b)
 |.ref a=>some (.ref a)
 |.type n=>some (.ty n)
 |_=>none
theorem RelV.abs{x:V}{u:Value}(r:RelV x u):Ro u=some x:=by
 cases x with
 |non=>cases r;rfl
 |bl _=>cases r;rfl
 |int _=>obtain⟨t,rfl⟩:=r;rfl
 |str _=>obtain⟨t,rfl⟩:=r;rfl
 |Bu _=>obtain⟨t,rfl⟩:=r;rfl
 |flt _=>obtain⟨t,rfl⟩:=r;rfl
 |ref _=>cases r;rfl
 |ty _=>cases r;rfl
theorem RelV.inj{x y:V}{u:Value}(r:RelV x u)(q:RelV y u):x=y:=cI (r.abs.symm.trans q.abs)
theorem Vals.inj{xs ys:List V}{us:List Value}(h:Vals xs us)(h':Vals ys us):xs=ys:=by
 induction h generalizing ys with
 |nil=>cases h';rfl
 |cons r _ ih=>
  cases h' with
  |cons r' t'=>rw[r.inj r',ih t']
section
variable {X:Cx}{ao:List (Addr×Obj)}{Z:St}{H:Hp}{s:Shared}{a:Addr}{xs ys:List V}
theorem cV.of{K:W.Frag}(h:H a=some (.lst xs)):cV K H a xs:=.inl (.inl h)
theorem Inv.list(I:Inv X ao Z H s)(h:cV X.K H a xs):∃its:List Value,Vals xs its/\PlainL s.heap a its.toArray/\xs.length<=sizeLine:=by
 rcases h with h|⟨o,its,n,hk,hc,hd,hs,hz,r⟩
 ·obtain⟨z,its,n,r,e⟩:=h.ok I.hok;exact⟨its,r,⟨_,n,e,rfl,rfl,rfl⟩,z⟩
 ·refine⟨its.toList,r,⟨o,n,I.lO a o hk,hc,hd,by simpa using hs⟩,?_⟩;have e:=r.length;simp only[pC] at e
  lia
theorem Inv.tuple(I:Inv X ao Z H s)(h:gR X.K H a xs):∃its:List Value,Vals xs its/\IsTup s.heap a its.toArray/\xs.length<=sizeLine:=by
 rcases h with h|⟨o,its,n,hk,hc,hs,hz,r⟩
 ·obtain⟨z,its,r,p⟩:=h.ok I.hok;exact⟨its,r,p,z⟩
 ·refine⟨its.toList,r,⟨o,I.lO a o hk,hc,n,by simpa using hs⟩,?_⟩;have e:=r.length;simp only[pC] at e
  lia
theorem Inv.nZ(I:Inv X ao Z H s)(h:cV X.K H a xs)(h':cV X.K H a ys):xs=ys:=by
 obtain⟨its,r,⟨o,n,e,_,_,d⟩,_⟩:=I.list h;obtain⟨its',r',⟨o',n',e',_,_,d'⟩,_⟩:=I.list h';rw[e] at e';cases e';rw[d] at d';injection d' with d1 _;have:its=its':=by simpa using lB Array.toList d1
 subst this;exact r.inj r'
theorem Inv.lQ(I:Inv X ao Z H s)(h:gR X.K H a xs)(h':gR X.K H a ys):xs=ys:=by
 obtain⟨its,r,⟨o,e,_,n,d⟩,_⟩:=I.tuple h;obtain⟨its',r',⟨o',e',_,n',d'⟩,_⟩:=I.tuple h';rw[e] at e';cases e';rw[d] at d';injection d' with d1 _;have:its=its':=by simpa using lB Array.toList d1
 subst this;exact r.inj r'
end
section
variable {X:Cx}{st:Stmt}{rest:List Stmt}{t u:TS}{e:Expr}{te:TE}{pos:Pos}
noncomputable def Ir:TS:=λD Z H=>D.nx Z H
noncomputable def Rp(t u:TS):TS:=λD Z H=>t {D with nx:=u D} Z H
theorem Yo:pW X [] Ir:=λ_ _ Z H _ I h=>wpAny_execs_nil ⟨Z,H,I,h⟩
theorem Yp(h1:PS X st t)(h2:pW X rest u):pW X (st::rest) (Rp t u):=by
 intro ao s Z H D I h;refine wpAny_execs_cons (aW (h1 ao s Z H {D with nx:=u D} I h) λf s1 q=>?_);cases f with
 |next=>
  obtain⟨Z',H',I',q⟩:=q;exact h2 ao s1 Z' H' D I' q
 |ret v=>exact q
 |brk=>exact q
 |cont=>exact q
theorem Inv.quiet{ao:List (Addr×Obj)}{Z:St}{H:Hp}{s:Shared}(I:Inv X ao Z H s):interactive X.env=false:=by simp[interactive,I.ok.kind]
noncomputable def Iu(te:TE):TS:=λD Z H=>te Z H λ_ H1=>D.nx Z H1
theorem zi3(he:PE X e te)(hs:swapsWith e none pos.line X.env=pure false:=by rfl):PS X (.Expr e pos) (Iu te):=by
 intro ao s Z H D I h;exact wpAny_Expr_any (aW (he ao s Z H _ I h) λv s1 hx=>fu hx λx H1 I1 r1 q1=>⟨Z,H1,I1,q1⟩) I.quiet hs
noncomputable def Rq(te:TE):TS:=λD Z H=>te Z H D.rt
theorem zkY(he:PE X e te):PS X (.Return (some e) pos) (Rq te):=by
 intro ao s Z H D I h;exact wpAny_Return_some (aW (he ao s Z H _ I h) λv s1 hx=>fu hx λx H1 I1 r1 q1=>⟨x,Z,H1,I1,r1,q1⟩)
noncomputable def Rr(c:TT)(t u:TS):TS:=λD Z H=>c Z H λb H1=>if b=true then t D Z H1 else u D Z H1
theorem znM{c:Expr}{a b:List Stmt}{tc:TT}(hc:PT X c tc)(ha:pW X a t)(hb:pW X b u):PS X (.If c a b pos) (Rr tc t u):=by
 intro ao s Z H D I h;refine wpAny_If (aW (hc ao s Z H _ I h) λd s1 hx=>wB hx λH1 I1 q1=>?_);cases d with
 |true=>exact ha ao s1 Z H1 D I1 q1
 |false=>exact hb ao s1 Z H1 D I1 q1
end
noncomputable abbrev TG:=V->St->Hp->(St->Hp->Prop)->Prop
noncomputable abbrev BP:=List V->St->Hp->(St->Hp->Prop)->Prop
def PG(X:Cx)(target:Expr)(t:TG):Prop:=
 ∀(ao:List (Addr×Obj)) (s:Shared) (Z:St) (H:Hp) (v:V) (u:Value) (Q:St->Hp->Prop),Inv X ao Z H s->RelV v u->t v Z H Q->
  wpAny (model X.prog X.w) X.A (assign target X.env u) (λ_ s'=>∃Z' H',Inv X ao Z' H' s'/\Q Z' H') X.xe s
def Nt(X:Cx)(ts:List Expr)(t:BP):Prop:=
 ∀(ao:List (Addr×Obj)) (s:Shared) (Z:St) (H:Hp) (vs:List V) (us:List Value) (Q:St->Hp->Prop),Inv X ao Z H s->Vals vs us->t vs Z H Q->
  wpAny (model X.prog X.w) X.A (assignInOrder ((assignEach ts X.env).map (·.2)) us) (λ_ s'=>∃Z' H',Inv X ao Z' H' s'/\Q Z' H') X.xe s
noncomputable abbrev BR:=V->V->V->Hp->(Hp->Prop)->Prop
def Iv(X:Cx)(t:BR):Prop:=
 ∀(ao:List (Addr×Obj)) (s:Shared) (Z:St) (H:Hp) (o i v:V) (ov iv u:Value) (Q:Hp->Prop),Inv X ao Z H s->RelV o ov->RelV i iv->RelV v u->t o i v H Q->
  wpAny (model X.prog X.w) X.A (setItem ov iv u) (λ_ s'=>∃H',Inv X ao Z H' s'/\Q H') X.xe s
noncomputable abbrev Nu:=V->V->Hp->VK->Prop
def Yq(X:Cx)(op:Operator)(t:Nu):Prop:=
 ∀(ao:List (Addr×Obj)) (s:Shared) (Z:St) (H:Hp) (x y:V) (v u:Value) (Q:VK),Inv X ao Z H s->RelV x v->RelV y u->t x y H Q->
  wpAny (model X.prog X.w) X.A (inplaceOp op v u) (EP X ao Z Q) X.xe s
section
variable {X:Cx}{pos:Pos}
noncomputable def dM(i:Nat):TG:=λv Z H Q=>Q (Z.set i (some v)) H
theorem Nv{i:Nat}{x:Str}(hN:X.N.Nodup)(hi:X.N[i]?=some x)(hx:Loc X.env.scope x)(hf:X.fn x=true\/X.env.scope.names.lookup x=some .local:=by first|exact .inl rfl|exact .inr rfl|assumption):PG X (.Name x pos) (dM i):=by
 intro ao s Z H v u Q I r h;exact wpAny_assign_Name (Il I hN hi hx r (λs' I'=>⟨_,H,I',h⟩) hf)
noncomputable def ux:BP:=λvs Z H Q=>vs=[]/\Q Z H
noncomputable def iM(t:TG)(u:BP):BP:=λvs Z H Q=>∃v r,vs=v::r/\t v Z H λZ' H'=>u r Z' H' Q
theorem zjx:Nt X [] ux:=by
 intro ao s Z H vs us Q I r h;obtain⟨e,h⟩:=h;subst e;cases r;exact assignInOrder_nil ⟨Z,H,I,h⟩
theorem Yr{e:Expr}{es:List Expr}{t:TG}{u:BP}(h1:PG X e t)(h2:Nt X es u)
  (hs:(assignEach (e::es) X.env).map (·.2)=assign e X.env::(assignEach es X.env).map (·.2):=by rfl):Nt X (e::es) (iM t u):=by
 intro ao s Z H vs us Q I r h;obtain⟨v,vr,e1,h⟩:=h;subst e1;cases r with
 |cons r rr=>
  rw[hs];refine assignInOrder_cons (aW (h1 ao s Z H _ _ _ I r h) λ_ s1 ⟨Z1,H1,I1,q1⟩=>?_);exact h2 ao s1 Z1 H1 _ _ Q I1 rr q1
noncomputable def uy(K:W.Frag)(n:Nat)(t:BP):TG:=λv Z H Q=>∃a xs,v=.ref a/\gR K H a xs/\xs.length=n/\t xs Z H Q
theorem zl2{es:List Expr}{k:Nat}{t:BP}{n:Nat}(hc:X.aj=true)(h:Nt X es t)
  (hn:(assignEach es X.env).length=n:=by rfl) (BW:(assignEach es X.env).findIdx? (·.1)=none:=by rfl):PG X (.Tuple es k pos) (uy X.K n t):=by
 intro ao s Z H v u Q I r hw;obtain⟨a,xs,e1,hq,hl,hw⟩:=hw;subst e1;cases r;obtain⟨its,rv,ht,hz⟩:=I.tuple hq;refine assign_Tuple_tuple (I.ok.hd hc) ht (by simp[hn,<-hl,rv.length]) BW λh' hx=>?_;have I1:Inv X ao Z H {s with heap:=h'}:=I.kept (t':=s.toks) λb o e=>hx b o (cU (bO e)) e;exact h ao _ Z H xs _ Q I1 (by simpa using rv) hw
noncomputable def Rt(to ti:TE)(t:BR):TG:=λv Z H Q=>to Z H λo H1=>ti Z H1 λi H2=>t o i v H2 λH3=>Q Z H3
theorem zkH{o i:Expr}{to ti:TE}{t:BR}(ho:PE X o to)(hi:PE X i ti)(hs:Iv X t)
  (ha:∀v,assign (.Subscript o i pos) X.env v=(do
   let ov <-holding [v] (eval o X.env)
   let iv <-holding [v,ov] (eval i X.env)
   standAt pos
   holding [v,ov,iv] (setItem ov iv v)
   release [v,ov,iv] []):=by intro _;rfl):PG X (.Subscript o i pos) (Rt to ti t):=by
 intro ao s Z H v u Q I r h;rw[ha];refine aB (pQ (aW (ho ao s Z H _ I h) λov s1 hx=>fu hx λx H1 I1 r1 q1=>?_));refine aB (pQ (aW (hi ao s1 Z H1 _ I1 q1) λiv s2 hx=>fu hx λy H2 I2 r2 q2=>?_));refine aB (ug (aB (pQ (aW (hs ao s2 Z H2 x y v ov iv u _ I2 r1 r2 r q2) λ_ s3 hx=>wB hx λH3 I3 q3=>?_))));exact wpAny_release ⟨Z,H3,I3,q3⟩
noncomputable def xX(te:TE)(g:TG):TS:=λD Z H=>te Z H λx H1=>g x Z H1 D.nx
theorem Ys{tg e:Expr}{te:TE}{g:TG}(he:PE X e te)(hg:PG X tg g)(hs:swapsWithSole [tg] e pos.line X.env=pure false:=by rfl)(hw:swappedStores [tg] e X.env=pure none:=by rfl)
  (h1:(assignEach [tg] X.env).map (·.2)=[assign tg X.env]:=by rfl):PS X (.Assign [tg] e pos) (xX te g):=by
 intro ao s Z H D I h;refine wpAny_Assign_stores (aW (he ao s Z H _ I h) λv s1 hx=>fu hx λx H1 I1 r1 q1=>?_) hs hw;rw[h1];exact aW (hg ao s1 Z H1 x v _ I1 r1 q1) λ_ s2 q=>q
theorem zlZ{i:Nat}{x:Str}{e:Expr}{te:TE}{pos':Pos}(hN:X.N.Nodup)(hi:X.N[i]?=some x)(hx:Loc X.env.scope x)(he:PE X e te)(hs:swapsWith e (some (.Name x pos')) pos.line X.env=pure false:=by rfl)(hf:X.fn x=true\/X.env.scope.names.lookup x=some .local:=by first|exact .inl rfl|exact .inr rfl|assumption) :
  PS X (.Assign [.Name x pos'] e pos) (xX te (dM i)):=by
 intro ao s Z H D I h;refine wpAny_Assign_Name (aW (he ao s Z H _ I h) λv s1 ⟨y,H1,I1,r1,q1⟩=>?_) hs;exact Il I1 hN hi hx r1 (λs2 I2=>⟨_,H1,I2,q1⟩) hf
noncomputable def Ru(i j:Nat)(ta:TA):TS:=λD Z H=>ta Z H λvs H1=>∃v w,vs=[v,w]/\D.nx ((Z.set i (some v)).set j (some w)) H1
theorem zmH{i j:Nat}{x y:Str}{a b:Expr}{ta:TA}{px py pt:Pos}{kt k2 uz}(hc:X.aj=true)(hN:X.N.Nodup)(hi:X.N[i]?=some x)(hj:X.N[j]?=some y)(qU:i≠j)
  (hx:X.env.scope.names.lookup x=some .local) (hy:X.env.scope.names.lookup y=some .local) (ha:PA X [a,b] ta)
  (hw:swappedStores [.Tuple [.Name x px,.Name y py] kt pt] (.Tuple [a,b] k2 uz) X.env=pure (some [x,y]))
  (hs:swapsWithSole [.Tuple [.Name x px,.Name y py] kt pt] (.Tuple [a,b] k2 uz) pos.line X.env=pure false:=by rfl) :
  PS X (.Assign [.Tuple [.Name x px,.Name y py] kt pt] (.Tuple [a,b] k2 uz) pos) (Ru i j ta):=by
 intro ao s Z H D I h;rw[exec_Assign_arm];refine aB (ug ?_);rw[hs];refine aB (aP ?_);rw[if_neg Tc];refine aB (Tuple_ (aW (ha _ ao s Z H _ I h) λus s1 ⟨vs,H1,I1,r1,q1⟩=>?_));obtain⟨v,w,e1,q1⟩:=q1;subst e1;obtain⟨u1,u2,rfl,rv,lE⟩ : ∃u1 u2,us=[u1,u2]/\RelV v u1/\RelV w u2:=by
  cases r1 with
  |cons p q=>
   cases q with
   |cons p' q'=>
    cases q';exact⟨_,_,rfl,p,p'⟩
 refine tU ?_ (by show 2<=sizeLine;decide);have I2:Inv X ao Z H1 {s1 with heap:=s1.heap.push {cls:=.type "tuple",data:=.seq [u1,u2].toArray}}:=I1.kept (t':=s1.toks) λb o e=>cj _ e;rw[hw];refine aB (aP ?_);show wpAny (model X.prog X.w) X.A (do rule "assign.swapped-stores";let items <-unpackItems (.ref s1.heap.objs.size) 2 none;assignInOrder [λv=>bindName X.env y v,λv=>bindName X.env x v] items.reverse;pure Flow.next) _ _ _;refine aB (zJ (aB (unpackItems_tuple (items:=#[u1,u2]) (I.ok.hd hc) (IsTup.new s1.heap _) λh' hx'=>?_)));have I3:=I2.kept (h':=h') (t':=s1.toks) λb o e=>hx' b o (cU (bO e)) e;show wpAny _ _ (assignInOrder [λv=>bindName X.env y v,λv=>bindName X.env x v] [u2,u1] >>= λ_=>pure Flow.next) _ _ _;refine aB (assignInOrder_cons (wpAny_bindName (Il I3 hN hj (.inl hy) lE (λs2 I4=>?_) (.inr hy))));refine assignInOrder_cons (wpAny_bindName (Il I4 hN hi (.inl hx) rv (λs3 I5=>assignInOrder_nil (aP ?_)) (.inr hx)));rw[List.set_comm _ _ (Ne.symm qU)] at I5;exact⟨_,H1,I5,q1⟩
noncomputable def Iw(i:Nat)(te:TE)(ti:Nu):TS:=λD Z H=>∃x,Z[i]?=some (some x)/\te Z H λy H1=>ti x y H1 λz H2=>D.nx (Z.set i (some z)) H2
theorem zlp{i:Nat}{x:Str}{e:Expr}{te:TE}{op:Operator}{ti:Nu}{pos':Pos}(hN:X.N.Nodup)(hi:X.N[i]?=some x)(hx:Loc X.env.scope x)(he:PE X e te)(ho:Yq X op ti)(hf:X.fn x=true\/X.env.scope.names.lookup x=some .local:=by first|exact .inl rfl|exact .inr rfl|assumption) :
  PS X (.AugAssign (.Name x pos') op e pos) (Iw i te ti):=by
 intro ao s Z H D I h;obtain⟨v,e1,h⟩:=h;obtain⟨m,hn,hl⟩:=I.loc;have vis:Nm X.env.scope x:=by rcases hx with k|k;exact .inl k;exact .inr (.inl k)
 obtain⟨u,r,l⟩:=hl i x v hi e1 vis;refine wpAny_AugAssign_Name ?_;have go:wpAny (model X.prog X.w) X.A (eval e X.env) (λw s₂=>wpAny (model X.prog X.w) X.A (inplaceOp op u w) (λr s₃=>wpAny (model X.prog X.w) X.A (storeName X.env x r) (λ_=>SP X ao D .next) X.xe s₃) X.xe s₂) X.xe s:=by
  refine aW (he ao s Z H _ I h) λw s1 ⟨y,H1,I1,r1,q1⟩=>?_;refine aW (ho ao s1 Z H1 v y u w _ I1 r r1 q1) λz s2 ⟨zv,H2,I2,r2,q2⟩=>?_;exact Il I2 hN hi hx r2 (λs3 I3=>⟨_,H2,I3,q2⟩) hf
 rcases l with ⟨hk,hm⟩|⟨hk,c,hc,qT⟩
 ·exact wpAny_loadName_local I.ok.kind hk hn hm go
 ·rcases hk with hk|hk
  ·exact wpAny_loadName_cell I.ok.kind hk hc qT go
  ·rcases hx with k|k
   ·have:X.env.scope.names.lookup x=some .free:=hk;rw[k] at this;cases this
   ·have:X.env.scope.names.lookup x=some .free:=hk;rw[k] at this;cases this
noncomputable def Yt(f:Int->Int->Int):Nu:=λx y H Q=>∃i j,x=.int i/\y=.int j/\Q (.int (f i j)) H
theorem zl6:Yq X .Add (Yt λi j=>i+j):=by
 intro ao s Z H x y v u Q I r1 r2 h;obtain⟨i,j,e1,e2,q⟩:=h;subst e1;subst e2;obtain⟨t,rfl⟩:=r1;obtain⟨t',rfl⟩:=r2;exact iadd_int ⟨.int _,H,I.tok _,⟨_,rfl⟩,q⟩
end
section
variable {X:Cx}{pos:Pos}
noncomputable def BX(c:TT)(tb:TS):TS:=λD Z H=>∃W:Nat->St->Hp->Prop,(∃m,W m Z H)/\∀m Z H,W m Z H->
 c Z H λb H1=>if b=true then ∃N:St->Hp->Prop,(∀Z' H',N Z' H'->∃m',m'<m/\W m' Z' H')/\tb {D with nx:=N,ct:=N,bk:=D.nx} Z H1 else D.nx Z H1
theorem zh7{c:Expr}{body:List Stmt}{tc:TT}{tb:TS}(hp:PassesOwn (model X.prog X.w) X.A X.env X.xe)(hc:PT X c tc)(hb:pW X body tb):PS X (.While c body [] pos) (BX tc tb):=by
 intro ao s Z H D I h;obtain⟨W,⟨m0,w0⟩,turn⟩:=h;refine wpAny_While (codeAny_whileLoop (λn s'=>∃Z' H',Inv X ao Z' H' s'/\W n Z' H') ?_ m0 ⟨Z,H,I,w0⟩);rintro n s1 ⟨Z1,H1,I1,w1⟩;refine Bj hp (aW (hc ao s1 Z1 H1 _ I1 (turn n Z1 H1 w1)) λb s2 hx=>wB hx λH2 I2 q2=>?_);cases b with
 |true=>
  obtain⟨N,hN,q2⟩:=q2;rw[if_pos rfl];refine Bj hp (aW (hb ao s2 Z1 H2 _ I2 q2) λf s3 q3=>?_);cases f with
  |next=>
   obtain⟨Z3,H3,I3,n3⟩:=q3;obtain⟨m',hm,w3⟩:=hN Z3 H3 n3;exact⟨m',hm,Z3,H3,I3,w3⟩
  |cont=>
   obtain⟨Z3,H3,I3,n3⟩:=q3;obtain⟨m',hm,w3⟩:=hN Z3 H3 n3;exact⟨m',hm,Z3,H3,I3,w3⟩
  |brk=>exact q3
  |ret v=>exact q3
 |false=>
  rw[if_neg Hr];exact wpAny_execs_nil ⟨Z1,H2,I2,q2⟩
end
structure It where
 go:Nat->Hp->Prop
 uD:Nat->Hp->V->Hp->Prop
 stop:Nat->Hp->Prop
def fK(X:Cx)(ao:List (Addr×Obj))(H:Hp)(b:Addr):Prop:=
 H b=none/\b≠X.env.locals/\b∉X.fs/\(b∈X.ex\/X.s₀.heap.objs.size<=b)/\(∀x c,X.env.cells.lookup x=some c->c≠b)/\∀p∈X.pn++ao,p.1≠b
theorem Inv.uE{X:Cx}{ao:List (Addr×Obj)}{Z:St}{H H':Hp}{s:Shared}{b:Addr}(I:Inv X ao Z H s)(hb:s.heap.objs.size<=b)(hn:H' b=none):fK X ao H' b:=by
 refine⟨hn,pR (fV I.lt hb),I.xV hb,.inr (jW I.sz hb),λx c e z=>?_,λp hp z=>?_⟩
 ·obtain⟨v,q⟩:=I.cell x c e;exact absurd (fV q.lt (by rw[z];exact hb)) (pD _)
 ·exact absurd (fV (bO (I.pin p hp).1) (by rw[z];exact hb)) (pD _)
structure Turn(P:Program)(w:World)(K:W.Frag)(tg:Expr)(aZ:It)(fp:List Addr)(it:Addr)(tn:Nat->Heap->Prop):Prop where
 mem:it∈fp
 obj:∀i h,tn i h->∀b∈fp,∃o,h.get? b=some o/\∀v,o.data≠.cell v
 keep:∀i h h',tn i h->(∀b∈fp,∀o,h.get? b=some o->h'.get? b=some o)->tn i h'
 item:∀(X:Cx),X.prog=P->X.w=w->X.K=K->X.aj=true->∀(i:Nat) (ao:List (Addr×Obj)) (s:Shared) (Z:St) (H:Hp) (E:Value->Shared->Prop),Inv X ao Z H s->(∀b∈fp,fK X ao H b)->tn i s.heap->aZ.go i H->
  wpAny (model P w) X.A (pyNext (.ref it)) (λr s1=>∃u,r=some u /\
   wpAny (model P w) X.A (letOwnedTupleGo tg (.ref it) u) (λ_ s2=>∃x H',Inv X ao Z H' s2/\RelV x u/\aZ.uD i H x H'/\tn (i+1) s2.heap/\∀b∈fp,H' b=none) E s1) E s
 done:∀(X:Cx),X.prog=P->X.w=w->X.K=K->X.aj=true->∀(i:Nat) (ao:List (Addr×Obj)) (s:Shared) (Z:St) (H:Hp) (E:Value->Shared->Prop),Inv X ao Z H s->(∀b∈fp,fK X ao H b)->tn i s.heap->aZ.stop i H->
  wpAny (model P w) X.A (pyNext (.ref it)) (λr s1=>r=none/\Inv X ao Z H s1) E s
 self:∀(A:Around) (i:Nat) (s:Shared) (Q:Value->Shared->Prop) (E:Value->Shared->Prop),tn i s.heap->Q (.ref it) s->wpAny (model P w) A (pyIter (.ref it)) Q E s
noncomputable abbrev TI:=St->Hp->(It->Hp->Prop)->Prop
def PIE(X:Cx)(ao:List (Addr×Obj))(Z:St)(tg:Expr)(R:It->Hp->Prop)(itv:Value)(s2:Shared):Prop:=
 ∃(it:Addr) (fp:List Addr) (tn:Nat->Heap->Prop) (aZ:It) (H':Hp),itv=.ref it/\Inv X ao Z H' s2/\Turn X.prog X.w X.K tg aZ fp it tn/\tn 0 s2.heap/\(∀b∈fp,fK X ao H' b)/\R aZ H'
def PI(X:Cx)(tg iter:Expr)(wi:TI):Prop:=
 ∀(ao:List (Addr×Obj)) (s:Shared) (Z:St) (H:Hp) (R:It->Hp->Prop),Inv X ao Z H s->wi Z H R->
  wpAny (model X.prog X.w) X.A (eval iter X.env) (λv s1=>wpAny (model X.prog X.w) X.A (pyIter v) (PIE X ao Z tg R) X.xe s1) X.xe s
theorem Rw{M:Model}{A:Around}{E:Value->Shared->Prop}{s:Shared}{tg:Expr}{it:Addr}{u:Value}{o:Obj}{n:String}{vs:Array Value}{Q:Unit->Shared->Prop}(ho:s.heap.get? it=some o)(hc:o.cls=.type n)(hd:o.data=.fields vs)
  (hn:["enumerate","zip","dict_itemiterator","dict_reverseitemiterator","odict_iterator","itertools.zip_longest","itertools.pairwise"].contains n=false) (hQ:Q () s):wpAny M A (letOwnedTupleGo tg (.ref it) u) Q E s:=by
 unfold letOwnedTupleGo;cases tg<;>first
  |exact aP hQ
  | (cases u<;>first
    |exact aP hQ
    | (refine aB (wpAny_load ho ?_)
       rw[hc,hd];show wpAny M A (if (["enumerate","zip","dict_itemiterator","dict_reverseitemiterator","odict_iterator","itertools.zip_longest","itertools.pairwise"].contains n&&vs[0]?==some (rawInt _))=true then _ else _) Q E s;rw[if_neg (by intro h;rw[hn,Bool.false_and] at h;cases h)];exact aP hQ))
noncomputable def Ny(K:W.Frag)(a:Addr):It:=
 ⟨λi H=>∃xs x,cV K H a xs/\xs[i]?=some x,λi H x H'=>H'=H/\∀xs,cV K H a xs->xs[i]?=some x,λi H=>∃xs,cV K H a xs/\xs.length<=i⟩
noncomputable def Rx(K:W.Frag)(a:Addr):It:=
 ⟨λi H=>∃xs x,gR K H a xs/\xs[i]?=some x,λi H x H'=>H'=H/\∀xs,gR K H a xs->xs[i]?=some x,λi H=>∃xs,gR K H a xs/\xs.length<=i⟩
noncomputable def Iz(lo:Int)(n:Nat):It:=⟨λi _=>i<n,λi H x H'=>H'=H/\x=.int (lo+i),λi _=>n<=i⟩
theorem zfV{P:Program}{w:World}{K:W.Frag}{tg:Expr}(a it:Addr):Turn P w K tg (Ny K a) [it] it (λi h=>h.IsListIter it a i) where
 mem:=by simp
 obj:=λi h st b hb=>by
  have e:b=it:=by simpa using hb
  subst e;obtain⟨o,e,c,d⟩:=st;exact⟨o,e,λv z=>by rw[d] at z;cases z⟩
 keep:=λi h h' st k=>st.at λo e=>k it Zaa o e
 item:=by
  intro X hP hw hK hc i ao s Z H E I hf st hg;subst hP hw hK;obtain⟨xs,x,hq,hx⟩:=hg;obtain⟨its,rv,p,hz⟩:=I.list hq;obtain⟨u,hu,ru⟩:=rv.get hx;obtain⟨f0,f1,f2,f3,f4,f5⟩:=hf it Zaa;refine wpAny_pyNext_list_item st p.isList (x:=u) (by simpa using hu) λh' st' sb=>?_;have I1:Inv X ao Z H {s with heap:=h'}:=I.turned (t':=s.toks) (λb o hb e=>(sb.2 b hb).trans e) f0 f1 f3 f4 f5;obtain⟨o,e,c,d⟩:=id st';exact⟨u,rfl,Rw (s:={s with heap:=h'}) e c d Tc ⟨x,H,I1,ru,⟨rfl,λys hy=>by rw[I.nZ hy hq];exact hx⟩,st',λb hb=>(hf b hb).1⟩⟩
 done:=by
  intro X hP hw hK hc i ao s Z H E I hf st hg;subst hP hw hK;obtain⟨xs,hq,hx⟩:=hg;obtain⟨its,rv,p,hz⟩:=I.list hq;obtain⟨f0,f1,f2,f3,f4,f5⟩:=hf it Zaa;have hl:=rv.length;exact wpAny_pyNext_list_end (I.ok.hd hc) st p.isList (by simp;lia) λh' eb=>⟨rfl,I.turned (t':=s.toks) (λb o hb e=>eb b o hb e) f0 f1 f3 f4 f5⟩
 self:=λ_ _ _ _ _ st h=>wpAny_pyIter_listiter st h
theorem zfh{P:Program}{w:World}{K:W.Frag}{tg:Expr}(a it:Addr):Turn P w K tg (Rx K a) [it] it (λi h=>h.IsTupleIter it a i) where
 mem:=by simp
 obj:=λi h st b hb=>by
  have e:b=it:=by simpa using hb
  subst e;obtain⟨o,e,c,d⟩:=st;exact⟨o,e,λv z=>by rw[d] at z;cases z⟩
 keep:=λi h h' st k=>st.at λo e=>k it Zaa o e
 item:=by
  intro X hP hw hK hc i ao s Z H E I hf st hg;subst hP hw hK;obtain⟨xs,x,hq,hx⟩:=hg;obtain⟨its,rv,p,hz⟩:=I.tuple hq;obtain⟨u,hu,ru⟩:=rv.get hx;obtain⟨f0,f1,f2,f3,f4,f5⟩:=hf it Zaa;refine wpAny_pyNext_tuple_item st (show s.heap.IsTuple a its.toArray from p) (x:=u) (by simpa using hu) λh' st' sb=>?_;have I1:Inv X ao Z H {s with heap:=h'}:=I.turned (t':=s.toks) (λb o hb e=>(sb.2 b hb).trans e) f0 f1 f3 f4 f5;obtain⟨o,e,c,d⟩:=id st';exact⟨u,rfl,Rw (s:={s with heap:=h'}) e c d Tc ⟨x,H,I1,ru,⟨rfl,λys hy=>by rw[I.lQ hy hq];exact hx⟩,st',λb hb=>(hf b hb).1⟩⟩
 done:=by
  intro X hP hw hK hc i ao s Z H E I hf st hg;subst hP hw hK;obtain⟨xs,hq,hx⟩:=hg;obtain⟨its,rv,p,hz⟩:=I.tuple hq;obtain⟨f0,f1,f2,f3,f4,f5⟩:=hf it Zaa;have hl:=rv.length;exact wpAny_pyNext_tuple_end (I.ok.hd hc) st (show s.heap.IsTuple a its.toArray from p) (by simp;lia) λh' eb=>⟨rfl,I.turned (t':=s.toks) (λb o hb e=>eb b o hb e) f0 f1 f3 f4 f5⟩
 self:=λ_ _ _ _ _ st h=>wpAny_pyIter_tupleiter st h
theorem ze7{P:Program}{w:World}{K:W.Frag}{tg:Expr}(it:Addr)(lo:Int)(n:Nat):Turn P w K tg (Iz lo n) [it] it (λi h=>IsRangeIter h it (lo+(i:Nat)*1) ((n:Int)-(i:Nat)) 1) where
 mem:=by simp
 obj:=λi h st b hb=>by
  have e:b=it:=by simpa using hb
  subst e;exact⟨_,st,λv z=>by
   have z':Data.fields _=Data.cell v:=z;cases z'⟩
 keep:=λi h h' st k=>k it Zaa _ st
 item:=by
  intro X hP hw hK hc i ao s Z H E I hf st hg;subst hP hw hK;obtain⟨f0,f1,f2,f3,f4,f5⟩:=hf it Zaa;have W:=Walks.range (prog:=X.prog) (w:=X.w) (I.ok.hd hc) it lo 1 n;refine W.item i s _ _ hg st λv h' tk hv st' kk=>?_;obtain⟨t,rfl⟩:=hv;have I1:Inv X ao Z H {s with heap:=h',toks:=tk}:=I.turned (λb o hb e=>kk b o (by simpa using hb) e) f0 f1 f3 f4 f5;refine⟨_,rfl,Rw (s:={s with heap:=h',toks:=tk}) (n:="range_iterator") st' rfl rfl Tc ⟨.int (lo+i),H,I1,⟨t,?_⟩,⟨rfl,rfl⟩,st',λb hb=>(hf b hb).1⟩⟩;rw[Br]
 done:=by
  intro X hP hw hK hc i ao s Z H E I hf st hg;subst hP hw hK;obtain⟨f0,f1,f2,f3,f4,f5⟩:=hf it Zaa;exact wpAny_pyNext_range_end (I.ok.hd hc) st (by have:n<=i:=hg;lia) λh' eb=>⟨rfl,I.turned (t':=s.toks) (λb o hb e=>eb b o hb e) f0 f1 f3 f4 f5⟩
 self:=λ_ _ _ _ _ st h=>wpAny_pyIter_rangeiter st h
section
variable {X:Cx}{tg:Expr}
theorem Yu{ao:List (Addr×Obj)}{Z:St}{H:Hp}{s:Shared}{R:It->Hp->Prop}{E:Value->Shared->Prop}{lo hi:Int}{t u v:Tok}{tk:Nat}(I:Inv X ao Z H s)(h1 : -(2^62)<=lo)(h2:lo<2^62)(h3 : -(2^62)<=hi)(h4:hi<2^62)
  (q:R (Iz lo (hi-lo).toNat) H):wpAny (model X.prog X.w) X.A (pyIter (.ref s.heap.objs.size)) (PIE X ao Z tg R) E {s with heap:=s.heap.push {cls:=.type "range",data:=.fields #[.int lo t,.int hi u,.int 1 v]},toks:=tk}:=by
 refine wpAny_pyIter_range (IsRange.new ..) (small_one h1 h2 h3 h4) ?_;have I1:Inv X ao Z H {s with heap:=s.heap.push {cls:=.type "range",data:=.fields #[.int lo t,.int hi u,.int 1 v]},toks:=tk}:=I.kept λb o e=>cj _ e;refine⟨(s.heap.push {cls:=.type "range",data:=.fields #[.int lo t,.int hi u,.int 1 v]}).objs.size,[(s.heap.push {cls:=.type "range",data:=.fields #[.int lo t,.int hi u,.int 1 v]}).objs.size],_,_,H,rfl,
  I1.kept (t':=tk) λb o e=>cj _ e,ze7 _ lo (hi-lo).toNat,?_,λb hb=>?_,q⟩
 ·have e1:lo+((0:Nat):Int)*1=lo:=by simp
  have e2:(((hi-lo).toNat:Nat):Int)-((0:Nat):Int)=Builtin.Range.rangeSize lo hi 1:=by rw[rangeSize_one];split<;>lia
  show IsRangeIter _ _ (lo+((0:Nat):Int)*1) ((((hi-lo).toNat:Nat):Int)-((0:Nat):Int)) 1;rw[e1,e2];exact eN _ rfl
 ·have e:b=(s.heap.push {cls:=.type "range",data:=.fields #[.int lo t,.int hi u,.int 1 v]}).objs.size:=by simpa using hb
  subst e;exact I1.uE (bQ _) (I1.hok.fresh (bQ _))
noncomputable def IK(ta:TA):TI:=λZ H R=>ta Z H λvs H1=>∃j:Int,vs=[.int j]/\-(2^62)<=j/\j<2^62/\R (Iz 0 j.toNat) H1
noncomputable def IV(ta:TA):TI:=λZ H R=>ta Z H λvs H1=>∃i j:Int,vs=[.int i,.int j]/\(-(2^62)<=i/\i<2^62/\-(2^62)<=j/\j<2^62)/\R (Iz i (j-i).toNat) H1
theorem zfQ{a:Expr}{ta:TA}{p pos:Pos}(hg:Gl X "range")(hm:X.mg "range"=none)(ha:PA X [a] ta)(hs:starEach [a] X.env=[(false,eval a X.env)]:=by rfl):PI X tg (.Call (.Name "range" p) [a] [] pos) (IK ta):=by
 intro ao s Z H R I h;refine Call_ (wD I hg hm boot_range (Ax (aW (ha pos ao s Z H _ I h) λus s1 hx=>fu hx λvs H1 I1 r1 q1=>?_) hs rfl));obtain⟨j,e,q1,q2,q⟩:=q1;subst e;cases r1 with
 |cons r rr=>
  cases rr;obtain⟨t,rfl⟩:=r;exact call_range_1 (Yu I1 gV gV q1 q2 (by simpa using q))
theorem zgl{a b:Expr}{ta:TA}{p pos:Pos}(hg:Gl X "range")(hm:X.mg "range"=none)(ha:PA X [a,b] ta)(hs:starEach [a,b] X.env=[(false,eval a X.env),(false,eval b X.env)]:=by rfl)(zP:starEach [b] X.env=[(false,eval b X.env)]:=by rfl) :
  PI X tg (.Call (.Name "range" p) [a,b] [] pos) (IV ta):=by
 intro ao s Z H R I h;refine Call_ (wD I hg hm boot_range (Ax (aW (ha pos ao s Z H _ I h) λus s1 hx=>fu hx λvs H1 I1 r1 q1=>?_) (by rw[hs,zP]) (by rw[zP];rfl)));obtain⟨i,j,e,⟨q1,q2,q3,q4⟩,q⟩:=q1;subst e;cases r1 with
 |cons r rr=>
  cases rr with
  |cons r' rr=>
   cases rr;obtain⟨t,rfl⟩:=r;obtain⟨t',rfl⟩:=r';exact call_range_2 (Yu I1 q1 q2 q3 q4 q)
noncomputable def Ry(wi:TI)(g:TG)(tb:TS):TS:=λD Z H=>wi Z H λaZ H1=>∃W:Nat->Nat->St->Hp->Prop,(∃m,W 0 m Z H1)/\∀i m Z H,W i m Z H->
 (aZ.stop i H/\D.nx Z H)\/(aZ.go i H/\∃N:St->Hp->Prop,(∀Z' H',N Z' H'->∃m',m'<m/\W (i+1) m' Z' H')/\∀x H',aZ.uD i H x H'->g x Z H' λZ2 H2=>tb {D with nx:=N,ct:=N,bk:=D.nx} Z2 H2)
noncomputable def i_(fp:List Addr)(h:Heap):List (Addr×Obj):=fp.filterMap λb=>(h.get? b).map λo=>(b,o)
theorem zQ{fp:List Addr}{h:Heap}{b:Addr}{o:Obj}(hb:b∈fp)(e:h.get? b=some o):(b,o)∈i_ fp h:=Ew.mpr ⟨b,hb,by rw[e];rfl⟩
theorem zgd{fp:List Addr}{h:Heap}{p:Addr×Obj}(hp:p∈i_ fp h):p.1∈fp/\h.get? p.1=some p.2:=by
 obtain⟨b,hb,e⟩:=Ew.mp hp;cases q:h.get? b with
 |none=>rw[q] at e;cases e
 |some o=>
  rw[q] at e;have e':(b,o)=p:=cI e;subst e';exact⟨hb,q⟩
theorem Inv.pinned{ao:List (Addr×Obj)}{Z:St}{H:Hp}{s:Shared}{fp:List Addr}(I:Inv X ao Z H s)(hf:∀b∈fp,fK X ao H b)(ho:∀b∈fp,∃o,s.heap.get? b=some o/\∀v,o.data≠.cell v):Inv X (ao++i_ fp s.heap) Z H s:=
 I.jN λp hp=>(mC.mp hp).elim (λz=>I.pin p (lg _ z)) λz=>by
  obtain⟨hb,e⟩:=zgd z;obtain⟨f0,f1,f2,_⟩:=hf p.1 hb;obtain⟨o,e',d⟩:=ho p.1 hb;rw[e] at e';cases e';exact⟨e,f0,f1,f2,d⟩
theorem Inv.b_{ao pl:List (Addr×Obj)}{Z:St}{H:Hp}{s:Shared}(I:Inv X (ao++pl) Z H s):Inv X ao Z H s:=I.jN λp hp=>I.pin p (lg _ (Hl _ hp))
theorem zlb{iter:Expr}{body:List Stmt}{wi:TI}{g:TG}{tb:TS}{pos:Pos}(hp:PassesOwn (model X.prog X.w) X.A X.env X.xe)(hc:X.aj=true)(hi:PI X tg iter wi)(hg:PG X tg g)(hb:pW X body tb)
  (hs:∀x,foldedSetIterable iter X.env x=pure x:=by intro _;rfl):PS X (.For tg iter body [] pos) (Ry wi g tb):=by
 intro ao s Z H D I h;refine wpAny_For (aW (hi ao s Z H _ I h) λv s1 h1=>aW h1 λitv s2 h2=>?_) hs;obtain⟨it,fp,tn,aZ,H2,e,I2,T,st2,f2,W,⟨m0,w0⟩,turn⟩:=h2;subst e;have stat:∀{H':Hp},(∀b∈fp,H' b=none)->∀b∈fp,fK X ao H' b:=λhn b hb=>⟨hn b hb,(f2 b hb).2⟩;refine codeAny_forLoop_any (λn s'=>∃i Z' H',Inv X ao Z' H' s'/\tn i s'.heap/\(∀b∈fp,H' b=none)/\W i n Z' H') ?_ m0 ⟨0,Z,H2,I2,st2,λb hb=>(f2 b hb).1,w0⟩;rintro n s3 ⟨i,Z3,H3,I3,st3,Yv,w3⟩;rcases turn i n Z3 H3 w3 with ⟨stop,qn⟩|⟨go,N,hN,step⟩
 ·refine Bj hp (aW (T.done X rfl rfl rfl hc i ao s3 Z3 H3 X.xe I3 (stat Yv) st3 stop) λr s4 ⟨hr,I4⟩=>?_);subst hr;exact wpAny_execs_nil ⟨Z3,H3,I4,qn⟩
 ·refine Bj hp (aW (T.item X rfl rfl rfl hc i ao s3 Z3 H3 X.xe I3 (stat Yv) st3 go) λr s4 hx=>wB hx λu hr h4=>?_);subst hr;refine Bj hp (aW h4 λ_ s5 ⟨x,H5,I5,r5,y5,tW,wF⟩=>?_);have I5':=I5.pinned (stat wF) (T.obj _ _ tW);refine Bj hp (aW (hg _ s5 Z3 H5 x u _ I5' r5 (step x H5 y5)) λ_ s6 ⟨Z6,H6,I6,q6⟩=>?_);refine Bj hp (aW (hb _ s6 Z6 H6 _ I6 q6) λf s7 q7=>?_);have again:∀{Z7:St} {H7:Hp},Inv X (ao++i_ fp s5.heap) Z7 H7 s7->N Z7 H7->∃m,m<n/\∃i Z' H',Inv X ao Z' H' s7/\tn i s7.heap/\(∀b∈fp,H' b=none)/\W i m Z' H':=λ{Z7 H7} I7 n7=>by
   obtain⟨m',hm,w7⟩:=hN Z7 H7 n7;refine⟨m',hm,i+1,Z7,H7,I7.b_,T.keep _ _ _ tW λb hb o e=>(I7.pin (b,o) (lg _ (lg _ (zQ hb e)))).1,λb hb=>?_,w7⟩;obtain⟨o,e,d⟩:=T.obj _ _ tW b hb;exact(I7.pin (b,o) (lg _ (lg _ (zQ hb e)))).2.1
  cases f with
  |next=>obtain⟨Z7,H7,I7,n7⟩:=q7;exact again I7 n7
  |cont=>obtain⟨Z7,H7,I7,n7⟩:=q7;exact again I7 n7
  |brk=>obtain⟨Z7,H7,I7,q7⟩:=q7;exact⟨Z7,H7,I7.b_,q7⟩
  |ret v=>obtain⟨x7,Z7,H7,I7,r7,q7⟩:=q7;exact⟨x7,Z7,H7,I7.b_,r7,q7⟩
end
noncomputable abbrev R2:=V->V->Hp->VK->Prop
def fL(X:Cx)(f:Value->Value->Sem Value)(r:R2):Prop:=
 ∀(ao:List (Addr×Obj)) (s:Shared) (Z:St) (H:Hp) (x y:V) (v u:Value) (Q:VK),Inv X ao Z H s->RelV x v->RelV y u->r x y H Q->
  wpAny (model X.prog X.w) X.A (f v u) (EP X ao Z Q) X.xe s
def Nz(X:Cx)(f:Value->Sem Value)(r:V->Hp->VK->Prop):Prop:=
 ∀(ao:List (Addr×Obj)) (s:Shared) (Z:St) (H:Hp) (x:V) (v:Value) (Q:VK),Inv X ao Z H s->RelV x v->r x H Q->
  wpAny (model X.prog X.w) X.A (f v) (EP X ao Z Q) X.xe s
def cW(X:Cx)(f:Value)(r:List V->Hp->VK->Prop):Prop:=
 ∀(ao:List (Addr×Obj)) (s:Shared) (Z:St) (H:Hp) (xs:List V) (us:List Value) (Q:VK),Inv X ao Z H s->Vals xs us->r xs H Q->
  wpAny (model X.prog X.w) X.A (call f us) (EP X ao Z Q) X.xe s
def RB(X:Cx)(r:V->Hp->(Bool->Hp->Prop)->Prop):Prop:=
 ∀(ao:List (Addr×Obj)) (s:Shared) (Z:St) (H:Hp) (x:V) (v:Value) (Q:Bool->Hp->Prop),Inv X ao Z H s->RelV x v->r x H Q->
  wpAny (model X.prog X.w) X.A (truthy v) (TP X ao Z Q) X.xe s
noncomputable def NK(r:R2)(ta tb:TE):TE:=λZ H Q=>ta Z H λx H1=>tb Z H1 λy H2=>r x y H2 Q
noncomputable def tUn(r:V->Hp->VK->Prop)(ta:TE):TE:=λZ H Q=>ta Z H λx H1=>r x H1 Q
noncomputable def rI(C:Int->Int->Prop)(g:Int->Int->V):R2:=λx y H Q=>∃i j,x=.int i/\y=.int j/\C i j/\Q (g i j) H
noncomputable def pX(g:Int->Int->V):R2:=λx y H Q=>∃i j,x=.int i/\y=.int j/\Q (g i j) H
noncomputable def rU(g:Int->V):V->Hp->VK->Prop:=λx H Q=>∃i,x=.int i/\Q (g i) H
section
variable {X:Cx}{a b c:Expr}{ta tb tc:TE}{pos:Pos}
theorem BZ(ha:PE X a ta)(hb:PE X b tb){ao:List (Addr×Obj)}{s:Shared}{Z:St}{H:Hp}{R:V->V->Hp->Prop}(I:Inv X ao Z H s)
  (h:ta Z H λx H1=>tb Z H1 λy H2=>R x y H2) {Q:Value->Shared->Prop} {f:Value->Value->Sem Value}
  (hf:∀v u s2 x y H2,Inv X ao Z H2 s2->RelV x v->RelV y u->R x y H2->wpAny (model X.prog X.w) X.A (f v u) Q X.xe s2) :
  wpAny (model X.prog X.w) X.A (eval a X.env) (λv s₁=>wpAny (model X.prog X.w) X.A (eval b X.env) (λu s₂=>wpAny (model X.prog X.w) X.A (f v u) Q X.xe s₂) X.xe s₁) X.xe s:=by
 refine aW (ha ao s Z H _ I h) λv s1 hx=>fu hx λx H1 I1 r1 q1=>?_;refine aW (hb ao s1 Z H1 _ I1 q1) λu s2 hx=>fu hx λy H2 I2 r2 q2=>?_;exact hf v u s2 x y H2 I2 r1 r2 q2
theorem zm6{op:Operator}{r:R2}(ho:fL X (binaryOp op) r)(ha:PE X a ta)(hb:PE X b tb):PE X (.BinOp a op b pos) (NK r ta tb):=by
 intro ao s Z H Q I h;exact wpAny_BinOp (BZ ha hb I h λv u s2 x y H2 I2 rx ry q=>ho ao s2 Z H2 x y v u Q I2 rx ry q)
theorem znD{op:UnaryOp}{r:V->Hp->VK->Prop}(ho:Nz X (unaryOp op) r)(ha:PE X a ta):PE X (.UnaryOp op a pos) (tUn r ta):=by
 intro ao s Z H Q I h;exact UnaryOp_ (aW (ha ao s Z H _ I h) λv s1 hx=>fu hx λx H1 I1 r1 q1=>ho ao s1 Z H1 x v Q I1 r1 q1)
theorem NP{f:Value->Value->Sem Value}{C:Int->Int->Prop}{g:Int->Int->Int}
  (rule:∀(i j:Int) (t u:Tok) (s:Shared) (Q:Value->Shared->Prop) (E:Value->Shared->Prop),C i j->Q (.int (g i j) s.toks) {s with toks:=s.toks+1}->wpAny (model X.prog X.w) X.A (f (.int i t) (.int j u)) Q E s) :
  fL X f (rI C λi j=>.int (g i j)):=by
 intro ao s Z H x y v u Q I rx ry h;obtain⟨i,j,rfl,rfl,hc,q⟩:=h;obtain⟨t,rfl⟩:=rx;obtain⟨t',rfl⟩:=ry;exact rule i j t t' s _ _ hc ⟨.int (g i j),H,I.tok _,⟨_,rfl⟩,q⟩
theorem IW{f:Value->Value->Sem Value}{g:Int->Int->Int}
  (rule:∀(i j:Int) (t u:Tok) (s:Shared) (Q:Value->Shared->Prop) (E:Value->Shared->Prop),Q (.int (g i j) s.toks) {s with toks:=s.toks+1}->wpAny (model X.prog X.w) X.A (f (.int i t) (.int j u)) Q E s) :
  fL X f (pX λi j=>.int (g i j)):=by
 intro ao s Z H x y v u Q I rx ry h;obtain⟨i,j,rfl,rfl,q⟩:=h;obtain⟨t,rfl⟩:=rx;obtain⟨t',rfl⟩:=ry;exact rule i j t t' s _ _ ⟨.int (g i j),H,I.tok _,⟨_,rfl⟩,q⟩
theorem xY{f:Value->Value->Sem Value}{g:Int->Int->Bool}
  (rule:∀(i j:Int) (t u:Tok) (s:Shared) (Q:Value->Shared->Prop) (E:Value->Shared->Prop),Q (.bool (g i j)) s->wpAny (model X.prog X.w) X.A (f (.int i t) (.int j u)) Q E s) :
  fL X f (pX λi j=>.bl (g i j)):=by
 intro ao s Z H x y v u Q I rx ry h;obtain⟨i,j,rfl,rfl,q⟩:=h;obtain⟨t,rfl⟩:=rx;obtain⟨t',rfl⟩:=ry;exact rule i j t t' s _ _ ⟨.bl (g i j),H,I,rfl,q⟩
def xZ(i j:Int):Prop:=0<j/\j<1073741824
def I8(i j:Int):Prop:=0<=j/\j<=1000000/\i.natAbs<2^64
def yc(i j:Int):Prop:=(-(2^64)<i/\i<2^64)\/(-(2^64)<j/\j<2^64)
theorem yc.ok{i j:Int}(h:yc i j):IntMulOk i j:=by
 rcases h with ⟨h1,h2⟩|⟨h1,h2⟩
 ·exact .of_left (intBits_le_64 h1 h2)
 ·exact .of_right (intBits_le_64 h1 h2)
theorem B_:fL X (binaryOp .Add) (pX λi j=>.int (i+j)):=IW λ_ _ _ _ _ _ _ q=>add_int q
theorem zmv:fL X (binaryOp .Sub) (pX λi j=>.int (i-j)):=IW λ_ _ _ _ _ _ _ q=>sub_int q
theorem zmx:fL X (binaryOp .Mult) (rI yc λi j=>.int (i*j)):=NP λ_ _ _ _ _ _ _ hc q=>mul_int q hc.ok
theorem zkg:fL X (binaryOp .FloorDiv) (rI xZ λi j=>.int (i/j)):=NP λi j _ _ _ _ _ hc q=>by
 have h1:(0:Int)<j:=hc.1;have h2:j<1073741824:=hc.2;exact floordiv_int gV (by rw[Int.fdiv_eq_ediv_of_nonneg i gV];exact q) (.inl (PyProof.noPylong_small gV))
theorem zkP:fL X (binaryOp .Mod) (rI (λ_ j=>0<j) λi j=>.int (i%j)):=NP λi j _ _ _ _ _ hc q=>by
 have h1:(0:Int)<j:=hc;exact mod_int' gV (by rw[Int.fmod_eq_emod_of_nonneg i gV];exact q)
theorem zml:fL X (binaryOp .Pow) (rI I8 λi j=>.int (i^j.toNat)):=NP λ_ _ _ _ _ _ _ hc q=>pow_int_small hc.1 hc.2.1 hc.2.2 q
theorem unI{f:Value->Sem Value}{g:Int->Int}
  (rule:∀(i:Int) (t:Tok) (s:Shared) (Q:Value->Shared->Prop) (E:Value->Shared->Prop),Q (.int (g i) s.toks) {s with toks:=s.toks+1}->wpAny (model X.prog X.w) X.A (f (.int i t)) Q E s) :
  Nz X f (rU λi=>.int (g i)):=by
 intro ao s Z H x v Q I rx h;obtain⟨i,rfl,q⟩:=h;obtain⟨t,rfl⟩:=rx;exact rule i t s _ _ ⟨.int (g i),H,I.tok _,⟨_,rfl⟩,q⟩
theorem zlY:Nz X (unaryOp .USub) (rU λi=>.int (-i)):=unI λ_ _ _ _ _ q=>neg_int q
end
section
variable {X:Cx}{a b c:Expr}{ta tb tc:TE}{pos:Pos}
theorem I9:fL X (compareOp .Lt) (pX λi j=>.bl (decide (i<j))):=xY λ_ _ _ _ _ _ _ q=>lt_int q
theorem znw:fL X (compareOp .LtE) (pX λi j=>.bl (decide (i<=j))):=xY λ_ _ _ _ _ _ _ q=>le_int q
theorem znO:fL X (compareOp .Gt) (pX λi j=>.bl (decide (j<i))):=xY λ_ _ _ _ _ _ _ q=>gt_int q
theorem znF:fL X (compareOp .GtE) (pX λi j=>.bl (decide (j<=i))):=xY λ_ _ _ _ _ _ _ q=>ge_int q
theorem fL.or{f:Value->Value->Sem Value}{r r':R2}(h:fL X f r)(h':fL X f r'):fL X f (λx y H Q=>r x y H Q\/r' x y H Q):=by
 intro ao s Z H x y v u Q I rx ry q;rcases q with q|q
 ·exact h ao s Z H x y v u Q I rx ry q
 ·exact h' ao s Z H x y v u Q I rx ry q
theorem zju{op:CmpOp}{r:R2}(ho:fL X (compareOp op) r)(ha:PE X a ta)(hb:PE X b tb)(hm:behindInMarks op b=false):PE X (.Compare a [op] [b] pos) (NK r ta tb):=by
 intro ao s Z H Q I h;exact wpAny_Compare1 (BZ ha hb I h λv u s2 x y H2 I2 rx ry q=>ho ao s2 Z H2 x y v u Q I2 rx ry q) hm
noncomputable def I_(t:TE):TT:=λZ H Q=>t Z H λx H'=>∃k,x=.bl k/\Q k H'
theorem zjS{op:CmpOp}{r:R2}(ho:fL X (compareOp op) r)(ha:PE X a ta)(hb:PE X b tb)(hm:behindInMarks op b=false):PT X (.Compare a [op] [b] pos) (I_ (NK r ta tb)):=by
 intro ao s Z H Q I h;refine wpAny_isTrue_Compare1 (aW (ha ao s Z H _ I h) λv s1 hx=>fu hx λx H1 I1 r1 q1=>aW (hb ao s1 Z H1 _ I1 q1) λu s2 hx=>fu hx λy H2 I2 r2 q2=>
  aW (ho ao s2 Z H2 x y v u _ I2 r1 r2 q2) λc s3 hx=>Q5 hx λz H3 I3 r3 k e q3=>?_) hm
 subst e;cases r3;exact v8 ⟨H3,I3,q3⟩
noncomputable def Ca(r r':R2)(ta tb tc:TE):TE:=λZ H Q=>ta Z H λx H1=>tb Z H1 λy H2=>r x y H2 λz H3=>∃k,z=.bl k /\
 (if k=true then tc Z H3 λw' H4=>r' y w' H4 Q else Q (.bl false) H3)
theorem zhH{op op':CmpOp}{r r':R2}(ho:fL X (compareOp op) r)(pU:fL X (compareOp op') r')(ha:PE X a ta)(hb:PE X b tb)(hc:PE X c tc)
  (hm:lastMarks [op,op'] [b,c]=false:=by with_unfolding_all rfl):PE X (.Compare a [op,op'] [b,c] pos) (Ca r r' ta tb tc):=by
 intro ao s Z H Q I h;refine Compare_chain (aW (ha ao s Z H _ I h) λv s1 hx=>fu hx λx H1 I1 r1 q1=>chain_link (aW (hb ao s1 Z H1 _ I1 q1) λu s2 hx=>fu hx λy H2 I2 r2 q2=>
  aW (ho ao s2 Z H2 x y v u _ I2 r1 r2 q2) λd s3 hx=>Q5 hx λz H3 I3 r3 k e q3=>?_)) hm
 subst e;cases r3;refine v8 ?_;cases k with
 |false=>exact ite_ff ⟨.bl false,H3,I3,rfl,q3⟩
 |true=>exact ite_tt (chain_last (aW (hc ao s3 Z H3 _ I3 q3) λw' s4 hx=>fu hx λz' H4 I4 r4 q4=>pU ao s4 Z H4 y z' u w' Q I4 r2 r4 q4))
def Cd(K:W.Frag)(x:V)(H:Hp)(k:Bool):Prop:=
 match x with
 |.non=>k=false
 |.bl b=>k=b
 |.int i=>k=(i != 0)
 |.str y=>y.length<=sizeLine/\k=((y.length:Int) != 0)
 |.Bu y=>y.size<=sizeLine/\k=((y.size:Int) != 0)
 |.ref p=>(∃xs,cV K H p xs/\k = !xs.isEmpty)\/(∃xs,gR K H p xs/\k = !xs.isEmpty)\/∃kvs,H p=some (.dK kvs)/\k = !kvs.isEmpty
 |_=>False
theorem ze3{κ:Type}{kvs:List (κ×V)}{vs:List (κ×Value)}(r:KV kvs vs):(!vs.isEmpty) = !kvs.isEmpty:=by
 cases r<;>rfl
theorem Yw{xs:List V}{its:List Value}(r:Vals xs its):(!its.toArray.isEmpty) = !xs.isEmpty:=by
 cases r<;>simp
theorem jd:(sizeLine:Nat)<2^63:=by rw[wu];decide
theorem zlk:RB X (λx H Q=>∃k,Cd X.K x H k/\Q k H):=by
 intro ao s Z H x v Q I rx h;obtain⟨k,e,q⟩:=h;have hl:=jd;have hs:sizeLine=16777216:=wu;cases x with
 |non=>
  cases rx;have e':k=false:=e;subst e';exact truthy_none ⟨H,I,q⟩
 |bl b=>
  cases rx;have e':k=b:=e;subst e';exact v8 ⟨H,I,q⟩
 |int i=>
  obtain⟨t,rfl⟩:=rx;have e':k=(i != 0):=e;subst e';exact PySem.P.truthy_int ⟨H,I,q⟩
 |str y=>
  obtain⟨t,rfl⟩:=rx;obtain⟨hy,e'⟩ : y.length<=sizeLine/\k=((y.length:Int) != 0):=e;subst e';exact PySem.P.truthy_str gV ⟨H,I.tok _,q⟩
 |Bu y=>
  obtain⟨t,rfl⟩:=rx;obtain⟨hy,e'⟩ : y.size<=sizeLine/\k=((y.size:Int) != 0):=e;subst e';exact PySem.W.truthy_bytes gV ⟨H,I.tok _,q⟩
 |ref p=>
  cases rx;have e':(∃xs,cV X.K H p xs/\k = !xs.isEmpty)\/(∃xs,gR X.K H p xs/\k = !xs.isEmpty)\/∃kvs,H p=some (.dK kvs)/\k = !kvs.isEmpty:=e;rcases e' with ⟨xs,hx,e'⟩|⟨xs,hx,e'⟩|⟨kvs,hx,e'⟩
  ·subst e';obtain⟨its,r,pl,hz⟩:=I.list hx;have hlen:=r.length;exact wpAny_truthy_list pl.isList (by simp only[fW];lia) ⟨H,I.tok _,by rw[Yw r];exact q⟩
  ·subst e';obtain⟨its,r,pl,hz⟩:=I.tuple hx;have hlen:=r.length;exact truthy_tuple pl (by simp only[fW];lia) ⟨H,I.tok _,by rw[Yw r];exact q⟩
  ·subst e';obtain⟨hz,hS,vs,r,m⟩ : kvs.length<=sizeLine/\(p==sysModules)=false/\∃vs,KV kvs vs/\s.heap.DictOf (mJ X.prog X.w) p vs:=I.hok p _ hx;have hlen:kvs.length=vs.length:=Paired.length r;exact wpAny_truthy_dict hS m gV ⟨H,I.tok _,by rw[ze3 r];exact q⟩
 |_=>exact(show False from e).elim
theorem ze9:fL X (binaryOp .Add) (λx y H Q=>∃i j,x=.str i/\y=.str j/\i.length+j.length<=sizeLine/\Q (.str (i++j)) H):=by
 intro ao s Z H x y v u Q I rx ry h;obtain⟨i,j,rfl,rfl,hz,q⟩:=h;obtain⟨t,rfl⟩:=rx;obtain⟨t',rfl⟩:=ry;exact add_str (λt' tk=>⟨.str (i++j),H,I.tok _,⟨_,rfl⟩,q⟩) hz
theorem vals1{x:V}{us:List Value}(r:Vals [x] us):∃u,us=[u]/\RelV x u:=by
 cases r with
 |cons r1 r2=>cases r2;exact⟨_,rfl,r1⟩
theorem vals2{x y:V}{us:List Value}(r:Vals [x,y] us):∃u w',us=[u,w']/\RelV x u/\RelV y w':=by
 cases r with
 |cons r1 r2=>
  cases r2 with
  |cons r3 r4=>cases r4;exact⟨_,_,rfl,r1,r3⟩
theorem zho:cW X (.builtin "abs") (λxs H Q=>∃i,xs=[.int i]/\Q (.int (if i<0 then -i else i)) H):=by
 intro ao s Z H xs us Q I r h;obtain⟨i,rfl,q⟩:=h;obtain⟨u,rfl,t,rfl⟩:=vals1 r;exact call_abs_int λu tk=>⟨.int (if i<0 then -i else i),H,I.tok _,⟨_,rfl⟩,q⟩
theorem zfW(hc:X.aj=true):cW X (.builtin "max") (λxs H Q=>∃i j,xs=[.int i,.int j]/\Q (.int (if j>i then j else i)) H):=by
 intro ao s Z H xs us Q I r h;obtain⟨i,j,rfl,q⟩:=h;obtain⟨u,w',rfl,⟨t,rfl⟩,⟨t',rfl⟩⟩:=vals2 r;refine max_two_ints (I.ok.hd hc) λh' tk k=>⟨_,H,I.kept k,?_,q⟩;by_cases hj:j>i
 ·rw[if_pos hj,if_pos hj];exact⟨_,rfl⟩
 ·rw[if_neg hj,if_neg hj];exact⟨_,rfl⟩
theorem zfv(hc:X.aj=true):cW X (.builtin "min") (λxs H Q=>∃i j,xs=[.int i,.int j]/\Q (.int (if j<i then j else i)) H):=by
 intro ao s Z H xs us Q I r h;obtain⟨i,j,rfl,q⟩:=h;obtain⟨u,w',rfl,⟨t,rfl⟩,⟨t',rfl⟩⟩:=vals2 r;refine min_two_ints (I.ok.hd hc) λh' tk k=>⟨_,H,I.kept k,?_,q⟩;by_cases hj:j<i
 ·rw[if_pos hj,if_pos hj];exact⟨_,rfl⟩
 ·rw[if_neg hj,if_neg hj];exact⟨_,rfl⟩
theorem zfw:cW X (.type "int") (λxs H Q=>(∃i,xs=[.int i]/\Q (.int i) H)\/∃k,xs=[.bl k]/\Q (.int (if k then 1 else 0)) H):=by
 intro ao s Z H xs us Q I r h;rcases h with ⟨i,rfl,q⟩|⟨k,rfl,q⟩
 ·obtain⟨u,rfl,t,rfl⟩:=vals1 r;exact call_int_int ⟨.int i,H,I,⟨_,rfl⟩,q⟩
 ·obtain⟨u,rfl,r1⟩:=vals1 r;cases r1;exact call_int_bool ⟨.int (if k then 1 else 0),H,I.tok _,⟨_,rfl⟩,q⟩
theorem zdM:cW X (.builtin "divmod") (λxs H Q=>∃i j,xs=[.int i,.int j]/\xZ i j/\∀p,H p=none->Q (.ref p) (upd H p (.tup [.int (i/j),.int (i%j)]))):=by
 intro ao s Z H xs us Q I r h;obtain⟨i,j,rfl,⟨h1,h2⟩,q⟩:=h;obtain⟨u,w',rfl,⟨t,rfl⟩,⟨t',rfl⟩⟩:=vals2 r;refine divmod_int gV ?_ (.inl (PyProof.noPylong_small gV));rw[Int.fdiv_eq_ediv_of_nonneg i gV,Int.fmod_eq_emod_of_nonneg i gV];have hn:H s.heap.objs.size=none:=I.hok.fresh (bQ _);refine⟨.ref s.heap.objs.size,_,?_,rfl,q _ hn⟩;refine I.laid (λb o e=>cj _ e) (bQ _) ⟨by simp only[h_,Bk];rw[wu];decide,[.int (i/j) s.toks,.int (i%j) (s.toks+1)],.cons ⟨_,rfl⟩ (.cons ⟨_,rfl⟩ .nil),?_⟩;exact⟨_,eN s.heap rfl,rfl,0,rfl⟩
end
structure pY(h:Heap)(x dx C:Addr)(mA:Str->Option Value):Prop where
 obj:h.get? x=some (PySem.W.instObj C dx)
 ns:h.Ns1 dx mA
 ne:dx≠x
theorem zgr{h:Heap}{dx:Addr}{mA:Str->Option Value}(n:h.Ns1 dx mA):∃od,h.get? dx=some od/\∀name,PySem.W.lookIn name od=some (mA name):=by
 obtain⟨o,es,ep,ho,hd,hk,_,hm⟩:=n;refine⟨o,ho,λname=>?_⟩;have e:=hm name;unfold nsFind findBy at e;rw[<-Array.find?_toList] at e;unfold PySem.W.lookIn;rw[hd];dsimp only
 split
 ·rename_i y q;rw[q] at e;exact lB some e
 ·rename_i q;rw[q] at e;have a:es.toList.any (·.refKey)=false:=by
   rw[List.any_eq_false];intro y hy;obtain⟨z,t,RD⟩:=hk y (Array.mem_toList_iff.mp hy);simp[DictEntry.refKey,RD]
  have a':¬es.toList.any (·.refKey)=true:=by rw[a];exact Hr
  rw[if_neg a'];exact lB some e
theorem pY.look{h:Heap}{x dx C:Addr}{mA:Str->Option Value}(I:pY h x dx C mA):∃od,PySem.W.InstAt h x (PySem.W.instObj C dx) C (some od)/\∀name,PySem.W.lookIn name od=some (mA name):=
 let ⟨od,ho,hl⟩:=zgr I.ns
 ⟨od,⟨I.obj,rfl,rfl,ho⟩,hl⟩
section
variable {prog:Program}{w:World}{A:Around}{E:Value->Shared->Prop}{s:Shared}{K:W.Frag}{x dx C f:Addr}{mA:Str->Option Value}{name:Str}{v:Value}
theorem zi7{expr:Bool}{Q:Value->Shared->Prop}(X:K.In s.heap)(I:pY s.heap x dx C mA)(hg:PySem.W.plainGet K C name=true)(hh:PySem.W.hasDictIn K C=true)
  (ha:PySem.W.findIn K (.ref C) name=some none) (hv:mA name=some v) (RG:PySem.W.handedIn v=true) (h:Q v {s with toks:=s.toks+1}) :
  wpAny (model prog w) A (getAttr (.ref x) name expr) Q E s:=by
 obtain⟨od,aZ,hl⟩:=I.look;exact PySem.W.get_value X aZ (QS hg).1 (PySem.W.findObj_own hh ha rfl (by rw[hl,hv])) RG h
theorem zg2{pl:Sem Bool}{Q:Value×List Value->Shared->Prop}(X:K.In s.heap)(I:pY s.heap x dx C mA)(hg:PySem.W.plainGet K C name=true)
  (hf:PySem.W.findIn K (.ref C) name=some (some (.ref f))) (ht:PySem.W.isFn K (.ref f)=true) (hv:mA name=none) (h:Q (.ref f,[.ref x]) s) :
  wpAny (model prog w) A (getMethod (.ref x) name pl) Q E s:=by
 obtain⟨od,aZ,hl⟩:=I.look;exact PySem.W.method_fn X aZ (QS hg).1 (QS hg).2 hf (nM.mp ht) (by show (PySem.W.lookIn name od).map (·.isSome)=some false;rw[hl,hv];rfl) h
theorem zjg{ns:List Str}{Q:Unit->Shared->Prop}(X:K.In s.heap)(I:pY s.heap x dx C mA)
  (hs:PySem.W.findIn K (.ref C) "__setattr__"=some (some (.builtin "object.__setattr__"))) (hp:PySem.W.plainOver K C=true) (ht:PySem.W.takerIn K C name=some none) (hh:PySem.W.hasDictIn K C=true)
  (hw:PySem.Within mA ns) (hsz:ns.length<=sizeLine)
  (h:∀h',pY h' x dx C (λy=>if y=name then some v else mA y)->Heap.SameBut dx s.heap h'->Q () {s with heap:=h',toks:=s.toks+2}) :
  wpAny (model prog w) A (setAttr (.ref x) name v) Q E s:=by
 obtain⟨od,aZ,hl⟩:=I.look;refine PySem.W.set_plain X aZ hs (PySem.W.osa_open (s:={s with toks:=s.toks+1}) (r:=none) X aZ hp ht λb=>?_);obtain⟨cd,hc,xW⟩:=PySem.W.any_some hh;have hx:s.heap.get? x=some ⟨.ref C,some dx,.plain,#[]⟩:=I.obj;refine aB (aP (aB (aB (wpAny_loadPart hx (aB (PySem.W.Looks.here (s:={s with toks:=s.toks+1}) (PySem.W.looks_clsIn X hc) ?_))))));rw[xW];refine aP (a:=some dx) (aB (aP (aB ?_)));refine wpAny_nsSet1 (s:={s with toks:=s.toks+1}) I.ns λh' NQ zP=>?_;obtain⟨oD,esD,epD,hoD,hdD,hcD⟩:=NQ.count (PySem.Within.cons name v hw);refine aB (wpAny_lookBehind hoD (by rw[hdD];exact pastItsLine_dict (jW hcD (by rw[h_];lia))) ?_);exact aP (h _ ⟨(zP.2 _ (Ne.symm I.ne)).trans I.obj,NQ,I.ne⟩ zP)
theorem zh6{R:Result->Shared->Prop}{vs:List Value}{kw:List (Str×Value)}(X:K.In s.heap)(hm:PySem.W.makesIn K C=true)
  (hi:PySem.W.findIn K (.ref C) "__init__"=some (some (.ref f))) (hf:PySem.W.typeIn K (.ref f)=some (.type "function"))
  (h:codeAny (model prog w) (A.under (.builtin "type.__call__" ⟨.ref C::vs,kw⟩)) (.call (.ref f) ⟨.ref (s.heap.objs.size+1)::vs,kw⟩) (PySem.W.InitBack (s.heap.objs.size+1) R)
   {s with heap:=(s.heap.push PySem.W.emptyDict).push (PySem.W.instObj C s.heap.objs.size)}) :
  codeAny (model prog w) A (.call (.ref C) ⟨vs,kw⟩) R s:=by
 obtain⟨hh,g,d,t,os⟩:=s;exact PySem.W.make_core (PySem.W.makes_of X hm) (PySem.W.looks_findIn X hi) (λself=>PySem.W.bind_fn X self hf) (.inl rfl) h
end
noncomputable def fO(f:Str)(v:V):List (Str×V)->List (Str×V)
 |[]=>[(f,v)]
 |(g,x)::r=>if g=f then (g,v)::r else (g,x)::fO f v r
theorem Yx(f g:Str)(v:V):∀fs:List (Str×V),(fO f v fs).lookup g=if g=f then some v else fs.lookup g
 |[]=>by
  show List.lookup g [(f,v)]=_;by_cases h:g=f
  ·have hb:(g==f)=true:=nM.mpr h;simp only[List.lookup,hb,if_pos h]
  ·have hb:(g==f)=false:=Er.mpr h;simp only[List.lookup,hb,if_neg h]
 |(k,x)::r=>by
  have ih:=Yx f g v r;rw[show fO f v ((k,x)::r)=(if k=f then (k,v)::r else (k,x)::fO f v r) from rfl];by_cases hk:k=f
  ·rw[if_pos hk];by_cases h:g=k
   ·have hb:(g==k)=true:=nM.mpr h;simp only[List.lookup,hb,if_pos (h.trans hk)]
   ·have hb:(g==k)=false:=Er.mpr h;simp only[List.lookup,hb,if_neg (λe:g=f=>h (e.trans hk.symm))]
  ·rw[if_neg hk];by_cases h:g=k
   ·have hb:(g==k)=true:=nM.mpr h;simp only[List.lookup,hb,if_neg (λe:g=f=>hk (h.symm.trans e))]
   ·have hb:(g==k)=false:=Er.mpr h;simp only[List.lookup,hb];exact ih
theorem RJ(f:Str)(v:V):∀fs:List (Str×V),f∈(fO f v fs).map (·.1)/\∀g,g∈fs.map (·.1)->g∈(fO f v fs).map (·.1)
 |[]=>⟨by simp[fO],λg h=>by simp at h⟩
 |(k,x)::r=>by
  obtain⟨i1,i2⟩:=RJ f v r;rw[show fO f v ((k,x)::r)=(if k=f then (k,v)::r else (k,x)::fO f v r) from rfl];by_cases hk:k=f
  ·rw[if_pos hk];subst hk;exact⟨by simp,λg h=>by simpa using h⟩
  ·rw[if_neg hk];refine⟨?_,λg h=>?_⟩
   ·rw[jV];exact iI _ i1
   ·rw[jV] at h ⊢;rcases jA.mp h with e|e
    ·exact jA.mpr (.inl e)
    ·exact iI _ (i2 g e)
theorem Yy(f:Str)(v:V):∀fs:List (Str×V),(fO f v fs).length<=fs.length+1
 |[]=>by simp[fO]
 |(k,x)::r=>by
  have ih:=Yy f v r;rw[show fO f v ((k,x)::r)=(if k=f then (k,v)::r else (k,x)::fO f v r) from rfl];by_cases hk:k=f
  ·rw[if_pos hk,h_,h_];lia
  ·rw[if_neg hk,h_,h_];lia
theorem Kaf{v:V}{o:Option Value}(r:su (some v) o):∃u,o=some u/\RelV v u:=by
 cases o with
 |none=>exact(show False from r).elim
 |some u=>exact⟨u,rfl,r⟩
theorem Kae{o:Option Value}(r:su none o):o=none:=by
 cases o with
 |none=>rfl
 |some u=>exact(show False from r).elim
theorem zfG{v:V}{u:Value}(r:RelV v u):PySem.W.handedIn u=true:=by
 cases v with
 |non=>cases (show u=Value.none from r);rfl
 |bl b=>cases (show u=Value.bool b from r);rfl
 |int i=>obtain⟨t,e⟩:=(show ∃t,u=Value.int i t from r);cases e;rfl
 |str x=>obtain⟨t,e⟩:=(show ∃t,u=Value.str x t from r);cases e;rfl
 |Bu b=>obtain⟨t,e⟩:=(show ∃t,u=Value.bytes b t from r);cases e;rfl
 |flt b=>obtain⟨t,e⟩:=(show ∃t,u=Value.float b t from r);cases e;rfl
 |ref a=>cases (show u=Value.ref a from r);rfl
 |ty n=>cases (show u=Value.type n from r);rfl
section
variable {P:Program}{w:World}{H H':Hp}{h h':Heap}{a C dx:Addr}{fs fs':List (Str×V)}
theorem RK(hok:iU P w H h)(e:H a=some (.ins C dx fs)):∃mA,pY h a dx C mA/\(∀f,su (fs.lookup f) (mA f))/\PySem.Within mA (fs.map (·.1))/\fs.length<=1000/\H dx=some (.own a):=by
 obtain⟨d,z,ne,ob,mA,n,r,q⟩:=(show bF P w H h a (.ins C dx fs) from hok a _ e);exact⟨mA,⟨ob,n,ne⟩,r,q,z,d⟩
end
structure Cls(K:W.Frag)(C:Addr):Prop where
 pg:PySem.W.plainGet K C Str.empty=true
 hd:PySem.W.hasDictIn K C=true
 po:PySem.W.plainOver K C=true
 sa:PySem.W.findIn K (.ref C) "__setattr__"=some (some (.builtin "object.__setattr__"))
theorem Cls.get{K:W.Frag}{C:Addr}(c:Cls K C)(f:Str):PySem.W.plainGet K C f=true:=c.pg
def iu(K:W.Frag)(C:Addr)(f:Str):Prop:=PySem.W.findIn K (.ref C) f=some none
theorem iu.taker{K:W.Frag}{C:Addr}{f:Str}(n:iu K C f):PySem.W.takerIn K C f=some none:=by
 unfold PySem.W.takerIn;rw[show PySem.W.findIn K (.ref C) f=some none from n];rfl
structure Meth(K:W.Frag)(C:Addr)(m:Str)(f:Addr):Prop where
 at_:PySem.W.findIn K (.ref C) m=some (some (.ref f))
 fn:PySem.W.isFn K (.ref f)=true
 kp:PySem.W.keepIn K (.ref f)=true
section
variable {X:Cx}{ao:List (Addr×Obj)}{Z:St}{H:Hp}{s:Shared}{a C dx:Addr}{fs:List (Str×V)}{f:Str}{v:V}{A:Around}{E:Value->Shared->Prop}
theorem zeV{b:Bool}{Q:Value->Shared->Prop}(I:Inv X ao Z H s)(e:H a=some (.ins C dx fs))(c:Cls X.K C)(n:iu X.K C f)(l:fs.lookup f=some v)
  (h:∀u s',Inv X ao Z H s'->RelV v u->Q u s'):wpAny (model X.prog X.w) A (getAttr (.ref a) f b) Q E s:=by
 obtain⟨mA,O,r,_,_,_⟩:=RK I.hok e;obtain⟨u,hu,ru⟩:=Kaf (v:=v) (o:=mA f) (by rw[<-l];exact r f);exact zi7 I.lO O (c.get f) c.hd n hu (zfG ru) (h u _ (I.tok _) ru)
theorem zfm{m:Str}{g:Addr}{pl:Sem Bool}{Q:Value×List Value->Shared->Prop}(I:Inv X ao Z H s)(e:H a=some (.ins C dx fs))(c:Cls X.K C)(k:Meth X.K C m g)(l:fs.lookup m=none)
  (h:Q (.ref g,[.ref a]) s):wpAny (model X.prog X.w) A (getMethod (.ref a) m pl) Q E s:=by
 obtain⟨mA,O,r,_,_,_⟩:=RK I.hok e;have hn:mA m=none:=Kae (by rw[<-l];exact r m);exact zg2 I.lO O (c.get m) k.at_ k.fn hn h
theorem ze1{y:V}{u:Value}{Q:Unit->Shared->Prop}(I:Inv X ao Z H s)(e:H a=some (.ins C dx fs))(c:Cls X.K C)(n:iu X.K C f)(hl:fs.length<1000)(ry:RelV y u)
  (h:∀s',Inv X ao Z (upd H a (.ins C dx (fO f y fs))) s'->Q () s'):wpAny (model X.prog X.w) A (setAttr (.ref a) f u) Q E s:=by
 obtain⟨mA,O,r,wi,_,ho⟩:=RK I.hok e;have hz:(fs.map (·.1)).length<=sizeLine:=by rw[cR,wu];lia
 refine zjg I.lO O c.sa c.po n.taker c.hd wi hz λh' O' sb=>h _ ?_;have hd:∃o,h'.get? dx=some o:=let ⟨o,_,_,e',_⟩:=O'.ns;⟨o,e'⟩;refine I.write (x:=a) (e:=dx) (by rw[e];exact True.intro) (.inr ho) (λb q hb z=>(sb.2 b hb).trans z) hd ?_;refine⟨by rw[bT O.ne];exact ho,?_,O.ne,O'.obj,_,O'.ns,λg=>?_,λg hg=>?_⟩
 ·have:=Yy f y fs;lia
 ·show su ((fO f y fs).lookup g) (if g=f then some u else mA g);rw[Yx];by_cases q:g=f
  ·rw[if_pos q,if_pos q];exact ry
  ·rw[if_neg q,if_neg q];exact r g
 ·by_cases q:g=f
  ·rw[q];exact(RJ f y fs).1
  ·refine(RJ f y fs).2 g (wi g λz=>hg ?_);show (if g=f then some u else mA g)=none;rw[if_neg q];exact z
theorem Inv.made(I:Inv X ao Z H s):Inv X ao Z (upd (upd H s.heap.objs.size (.own (s.heap.objs.size+1))) (s.heap.objs.size+1) (.ins C s.heap.objs.size []))
  {s with heap:=(s.heap.push PySem.W.emptyDict).push (PySem.W.instObj C s.heap.objs.size)}:=by
 have e1:(s.heap.push PySem.W.emptyDict).get? s.heap.objs.size=some PySem.W.emptyDict:=eN s.heap rfl;have e2:((s.heap.push PySem.W.emptyDict).push (PySem.W.instObj C s.heap.objs.size)).get? (s.heap.objs.size+1)=some (PySem.W.instObj C s.heap.objs.size):=by
  have:=eN (s.heap.push PySem.W.emptyDict) (o:=PySem.W.instObj C s.heap.objs.size) rfl
  rwa [wj] at this
 have e3:(s.heap.push PySem.W.emptyDict).Ns s.heap.objs.size (λ_=>none):=⟨PySem.W.emptyDict,#[],_,e1,rfl,(λe he=>absurd he Zaa),λ_=>rfl⟩;have I1:=I.laid (a:=s.heap.objs.size) (o:=.own (s.heap.objs.size+1)) (h':=s.heap.push PySem.W.emptyDict) (t':=s.toks) (λb u q=>cj _ q) (bQ _) ⟨_,e1⟩;refine I1.laid (a:=s.heap.objs.size+1) (o:=.ins C s.heap.objs.size []) (t':=s.toks) (λb u q=>cj _ q) (Nat.le_of_eq (wj _ _)) ?_;have ne:s.heap.objs.size≠s.heap.objs.size+1:=cU (Hv _);refine⟨by rw[bT ne,iJ],rY _,ne,e2,λ_=>none,(Heap.Ns1.of_empty e3).at λo q=>cj _ q,λ_=>True.intro,λy hy=>absurd rfl hy⟩
theorem zjQ{prog:Program}{w:World}{env:Env}{e:Expr}{f:Str}{pos:Pos}{s:Shared}{Q:Value->Shared->Prop}(hb:attributeBase e f env (eval e env)=eval e env)
  (h:wpAny (model prog w) A (eval e env) (λo s₁=>wpAny (model prog w) A (getAttr o f true) Q E s₁) E s):wpAny (model prog w) A (eval (.Attribute e f pos) env) Q E s:=
 Attribute_any_ h (by rw[arm_eval_Attribute,hb])
end
noncomputable def RL(K:W.Frag)(ta:TE)(f:Str):TE:=λZ H Q=>ta Z H λx H1=>∃a C dx fs v,x=.ref a/\H1 a=some (.ins C dx fs)/\Cls K C/\iu K C f/\fs.lookup f=some v/\Q v H1
noncomputable def RM(K:W.Frag)(ta tv:TE)(f:Str):TS:=λD Z H=>tv Z H λy H1=>ta Z H1 λx H2=>∃a C dx fs,x=.ref a/\H2 a=some (.ins C dx fs)/\Cls K C/\iu K C f/\fs.length<1000 /\
 D.nx Z (upd H2 a (.ins C dx (fO f y fs)))
section
variable {X:Cx}{o e value:Expr}{f:Str}{pos pos' tpos:Pos}{ta tv:TE}
theorem zk9(he:PE X e ta)(hb:attributeBase e f X.env (eval e X.env)=eval e X.env):PE X (.Attribute e f pos) (RL X.K ta f):=by
 intro ao s Z H Q I h;refine zjQ hb (aW (he ao s Z H _ I h) λu s1 ⟨x,H1,I1,rx,a,C,dx,fs,v,ex,ea,c,n,l,q⟩=>?_);subst ex;obtain rfl:u=Value.ref a:=rx;exact zeV I1 ea c n l λu' s2 I2 ru=>⟨v,H1,I2,ru,q⟩
theorem zk4(ha:PE X o ta)(hv:PE X value tv)(hs:swapsWith value (some (.Attribute o f pos')) pos.line X.env=pure false):PS X (.Assign [.Attribute o f pos'] value pos) (RM X.K ta tv f):=by
 intro ao s Z H D I h;refine plainObj_wpAny_Assign_Attribute (aW (hv ao s Z H _ I h) λu s1 hx=>fu hx λy H1 I1 ry q=>aW (ha ao s1 Z H1 _ I1 q) λov s2 ⟨x,H2,I2,rx,a,C,dx,fs,ex,ea,c,n,l,q2⟩=>?_) hs;subst ex;obtain rfl:ov=Value.ref a:=rx;exact ze1 I2 ea c n l ry λs3 I3=>⟨Z,_,I3,q2⟩
end
structure bB(k:Nat)(A:Around):Prop where
 dp:A.depth+3*k+5<recursionLimit
 un:A.units+16*k+200<cLine
 gd:A.guards=some []
theorem bB.deeper{k:Nat}{A:Around}(r:bB (k+1) A)(env:Env):bB k (A.deeper env):=
 ⟨by have:=r.dp;show A.depth+1+3*k+5<_;lia,by have:=r.un;show A.units+3+16*k+200<_;lia,r.gd⟩
theorem zfl{A:Around}{C:Addr}{us:List Value}{kw:List (Str×Value)}:(A.under (.builtin "type.__call__" ⟨.ref C::us,kw⟩)).depth=A.depth+1:=by
 first|rfl|simp[Around.under,Code.weight,Code.isCreation,Code.isGuard,Code.isCaller,Code.frames,Code.isFrame,guardIds]
theorem zeZ{A:Around}{C:Addr}{us:List Value}{kw:List (Str×Value)}:(A.under (.builtin "type.__call__" ⟨.ref C::us,kw⟩)).units=A.units+1:=by
 first|rfl|simp[Around.under,Code.cUnits,Code.frames,Code.isFrame]
theorem bB.depth{k:Nat}{A:Around}(r:bB k A):A.depth<recursionLimit:=by have:=r.dp;lia
noncomputable def Ja:TA:=λ_ H Q=>Q [] H
noncomputable def zR(ta:TE)(tr:TA):TA:=λZ H Q=>ta Z H λx H1=>tr Z H1 λxs H2=>Q (x::xs) H2
section
variable {X:Cx}{e:Expr}{es:List Expr}{te:TE}{t:TA}{pos:Pos}
theorem yd:PA X [] Ja:=λ_ _ _ _ H Q I h=>Calls.spliced_nil ⟨[],H,I,.nil,h⟩
theorem sy(ha:PE X e te)(hr:PA X es t)(hs:starEach (e::es) X.env=(false,eval e X.env)::starEach es X.env:=by rfl):PA X (e::es) (zR te t):=by
 intro pos ao s Z H Q I h;rw[hs];show wpAny _ _ (spliced ((false,eval e X.env)::backTo pos (starEach es X.env))) _ _ s;refine Calls.spliced_cons (aW (ha ao s Z H _ I h) λu s1 hx=>fu hx λx H1 I1 r1 q1=>?_);exact aW (hr pos ao s1 Z H1 _ I1 q1) λus s2 hx=>fu hx λxs H2 I2 r2 q2=>⟨x::xs,H2,I2,.cons r1 r2,q2⟩
noncomputable def RN(t:TA):TE:=λZ H Q=>t Z H λxs H1=>xs.length<=sizeLine/\∀p,H1 p=none->Q (.ref p) (upd H1 p (.tup xs))
noncomputable def RP(t:TA):TE:=λZ H Q=>t Z H λxs H1=>xs.length<=sizeLine/\∀p,H1 p=none->Q (.ref p) (upd H1 p (.lst xs))
theorem zl5{x1}(h:PA X es t):PE X (.Tuple es x1 pos) (RN t):=by
 intro ao s Z H Q I hq;refine wpAny_Tuple_spliced (aW (h pos ao s Z H _ I hq) λus s1 ⟨xs,H1,I1,r,z,q⟩=>⟨by rw[<-r.length];exact z,?_⟩);have hf:H1 s1.heap.objs.size=none:=I1.hok.fresh (bQ _);refine⟨.ref s1.heap.objs.size,upd H1 s1.heap.objs.size (.tup xs),I1.laid (t':=s1.toks) (λb u e=>cj _ e) (bQ _) ?_,rfl,q _ hf⟩;exact⟨z,us,r,⟨_,eN _ rfl,rfl,_,rfl⟩⟩
theorem zmw(h:PA X es t):PE X (.List es pos) (RP t):=by
 intro ao s Z H Q I hq;refine wpAny_List_spliced (aW (h pos ao s Z H _ I hq) λus s1 ⟨xs,H1,I1,r,z,q⟩=>⟨by rw[<-r.length];exact z,?_⟩);have hf:H1 s1.heap.objs.size=none:=I1.hok.fresh (bQ _);refine⟨.ref s1.heap.objs.size,upd H1 s1.heap.objs.size (.lst xs),I1.laid (t':=s1.toks) (λb u e=>cj _ e) (bQ _) ?_,rfl,q _ hf⟩;exact⟨z,us,0,r,eN _ rfl⟩
end
noncomputable abbrev Sp:=List V->Hp->VK->XK->Prop
noncomputable abbrev sE:=List Env->Hp->Shared->XK->Value->Shared->Prop
structure pZ(P:Program)(w:World)(K:W.Frag)(mg:Str->Option Value)(base:Heap)(A:Around)(outer:List Env)(s:Shared)(H:Hp):Prop where
 frames:A.frames=some outer
 mod:Mod K mg base
 bs:∀b o,base.get? b=some o->s.heap.get? b=some o/\H b=none
 xT:base.objs.size<=s.heap.objs.size
 jC:s.heap.FunFrames base outer
 zN:(∀b∈frs outer,H b=none)/\Bw K H
 hok:iU P w H s.heap
 bare:AllBare s.gens
def CE(outer:List Env)(P:Program)(w:World)(H:Hp)(s:Shared)(Q:VK)(u:Value)(s':Shared):Prop:=
 ∃v H',s'.os=s.os/\AllBare s'.gens/\Un (frs outer) [] H H' s.heap s'.heap/\iU P w H' s'.heap/\RelV v u/\Q v H'
def CR(CX:sE)(outer:List Env)(P:Program)(w:World)(H:Hp)(s:Shared)(Q:VK)(E:XK)(r:Result)(s':Shared):Prop:=
 match r with
 |.ok (.ret u)=>CE outer P w H s Q u s'
 |.ok _=>False
 |.error e=>CX outer H s E e s'
structure cB(P:Program)(w:World)(K:W.Frag)(mg:Str->Option Value)(base:Heap)(CX:sE)(cm:Bool)(k:Nat)(f:Addr)(fd:FuncData)(ps:List Str)(sp:Sp):Prop where
 len:∀vs H Q E,sp vs H Q E->vs.length=ps.length
 run:∀(A:Around) (outer:List Env) (s:Shared) (H:Hp) (args:Args) (us:List Value) (vs:List V) (Q:VK) (E:XK),(cm=true->A.handled=none)->bB k A->pZ P w K mg base A outer s H->BindsTo s fd args (ps.zip us)->Vals vs us->sp vs H Q E->
  codeAny (model P w) A (.call (.ref f) args) (CR CX outer P w H s Q E) s
theorem cB.imp{P:Program}{w:World}{K:W.Frag}{mg:Str->Option Value}{base:Heap}{CX:sE}{cm:Bool}{k:Nat}{f:Addr}{fd:FuncData}{ps:List Str}{sp Yz:Sp}(F:cB P w K mg base CX cm k f fd ps sp)
  (h:∀vs H Q E,Yz vs H Q E->sp vs H Q E):cB P w K mg base CX cm k f fd ps Yz:=
 ⟨λvs H Q E q=>F.len vs H Q E (h _ _ _ _ q),λA outer s H args us vs Q E je hr he hb hv hs=>F.run A outer s H args us vs Q E je hr he hb hv (h _ _ _ _ hs)⟩
theorem pZ.make{P:Program}{w:World}{K:W.Frag}{mg:Str->Option Value}{base:Heap}{A:Around}{outer:List Env}{s:Shared}{H:Hp}(e:pZ P w K mg base A outer s H)(C:Addr)(us:List Value)(kw:List (Str×Value)) :
  pZ P w K mg base (A.under (.builtin "type.__call__" ⟨.ref C::us,kw⟩)) outer s H:=⟨by first|exact e.frames|(simpa [Around.under,Code.envs,Code.isFrame,pushEnvs] using e.frames),e.mod,e.bs,e.xT,e.jC,e.zN,e.hok,e.bare⟩
section
variable {X:Cx}{ao:List (Addr×Obj)}{Z:St}{H:Hp}{s s':Shared}
theorem Inv.env0(I:Inv X ao Z H s):pZ X.prog X.w X.K X.mg X.base X.A X.stack s H:=
 ⟨I.ok.frames,I.ok.mod,I.bs,jW I.ok.xT I.sz,I.stack,⟨I.mL,I.BJ⟩,I.hok,I.bare⟩
theorem Inv.after{Q:VK}{u:Value}(I:Inv X ao Z H s)(h:CE X.stack X.prog X.w H s Q u s'):EP X ao Z Q u s':=by
 obtain⟨v,H',os,bare,un,hok,r,q⟩:=h;obtain⟨hh,g,d,t,os'⟩:=s';obtain rfl:os'=s.os:=os;exact⟨v,H',I.call (h':=hh) (g':=g) (d':=d) (t':=t) (ch:=[]) un hok bare (λb z=>absurd z Zaa),r,q⟩
end
noncomputable def Jc(C:Addr)(m:Str)(sp:Sp)(n6:List V)(E:XK)(ta:TE)(t:TA):TE:=λZ H Q=>ta Z H λx H1=>∃a dx fs,x=.ref a/\H1 a=some (.ins C dx fs)/\fs.lookup m=none /\
 t Z H1 λvs H2=>sp (x::(vs++n6)) H2 Q E
noncomputable def Jd(C:Addr)(sp:Sp)(n6:List V)(E:XK)(t:TA):TE:=λZ H Q=>t Z H λvs H1=>∀x dx,H1 x=none->H1 dx=none->dx≠x->
 sp (.ref x::(vs++n6)) (upd (upd H1 dx (.own x)) x (.ins C dx [])) (λv H2=>v=.non/\Q (.ref x) H2) E
def Binds(K:W.Frag)(fd:FuncData)(ps:List Str)(ds:List Value):Prop:=
 ∀(s:Shared) (us:List Value),K.In s.heap->(us++ds).length=ps.length->BindsTo s fd ⟨us,[]⟩ (ps.zip (us++ds))
theorem Binds.all{K:W.Frag}{fd:FuncData}{ps:List Str}(h:∀us:List Value,us.length=ps.length->bindArgs fd ⟨us,[]⟩=pure (ps.zip us)):Binds K fd ps []:=λs us _ hl=>by
 rw[zB] at hl ⊢;exact .of_eq (h us hl)
def Passes(CX:sE)(X:Cx)(E:XK):Prop:=∀(ao:List (Addr×Obj)) (Z:St) (H:Hp) (s:Shared) (e:Value) (s':Shared),Inv X ao Z H s->CX X.stack H s E e s'->X.xe e s'
section
variable {X:Cx}{CX:sE}{cm:Bool}{k:Nat}{f C:Addr}{fd:FuncData}{ps:List Str}{sp:Sp}{n6:List V}{ds:List Value}{E:XK}{x m:Str}{p pos apos:Pos}{e o:Expr}{es:List Expr}{ta:TE}{t:TA}
theorem zlE{ao:List (Addr×Obj)}{Z:St}{H:Hp}{s:Shared}{Q:VK}{us:List Value}{vs:List V}(F:cB X.prog X.w X.K X.mg X.base CX cm k f fd ps sp)(je:cm=true->X.aj=true)(hr:bB k X.A)(hb:Binds X.K fd ps ds)(hd:Vals n6 ds)(hx:Passes CX X E)
  (I:Inv X ao Z H s) (r:Vals vs us) (h:sp (vs++n6) H Q E):wpAny (model X.prog X.w) X.A (call (.ref f) us) (EP X ao Z Q) X.xe s:=by
 have r2:Vals (vs++n6) (us++ds):=r.append hd;have hl:(us++ds).length=ps.length:=by rw[<-r2.length];exact F.len _ _ _ _ h
 refine Ft (zF (F.run X.A X.stack s H ⟨us,[]⟩ (us++ds) (vs++n6) Q E (λz=>I.ok.hd (je z)) hr I.env0 (hb s us I.lO hl) r2 h) λr s' hq=>?_);cases r with
 |error e=>exact hx ao Z H s e s' I hq
 |ok fl=>
  cases fl with
  |ret u=>exact I.after hq
  |next=>exact False.elim hq
  |brk=>exact False.elim hq
  |cont=>exact False.elim hq
theorem zjL{pl:Sem Bool}(he:PE X o ta)(c:Cls X.K C)(hm:Meth X.K C m f)(F:cB X.prog X.w X.K X.mg X.base CX cm k f fd ps sp)(je:cm=true->X.aj=true)(hr:bB k X.A)(hb:Binds X.K fd ps ds)(hd:Vals n6 ds)(hx:Passes CX X E)(ha:PA X (e::es) t)
  (BW:starEach (e::es) X.env=(false,eval e X.env)::starEach es X.env:=by rfl) (cT:(backTo pos (starEach es X.env)).any (·.1)=false:=by rfl)
  (ht:eval (.Call (.Attribute o m apos) (e::es) [] pos) X.env=(do
   let ov <-eval o X.env
   standAt apos.atName
   let (f,first) <-holding [ov] (getMethod ov m pl)
   callWith pos f first (backTo pos (starEach (e::es) X.env)) (backToKw pos (keywordEach [] X.env))):=by rfl) :
  PE X (.Call (.Attribute o m apos) (e::es) [] pos) (Jc C m sp n6 E ta t):=by
 intro ao s Z H Q I h;refine PySem.W.methodCall_KW (pl:=pl) (aW (he ao s Z H _ I h) λu s1 ⟨x,H1,I1,rx,a,dx,fs,ex,ea,l,q⟩=>?_) ht;subst ex;obtain rfl:u=Value.ref a:=rx;refine zfm I1 ea c hm l ?_;refine QT (first:=[.ref a]) (h₀:=X.base) I.ok.mod.xM hm.kp (aW (ha pos ao s1 Z H1 _ I1 q) λus s2 ⟨vs,H2,I2,r,q2⟩=>⟨I2.lO,?_⟩) BW cT;exact zlE (us:=.ref a::us) (vs:=.ref a::vs) F je hr hb hd hx I2 (.cons rfl r) q2
structure Mk(K:W.Frag)(C f:Addr):Prop where
 makes:PySem.W.makesIn K C=true
 init:PySem.W.findIn K (.ref C) "__init__"=some (some (.ref f))
 fn:PySem.W.isFn K (.ref f)=true
 kp:PySem.W.keepIn K (.ref C)=true
theorem zhm{ao:List (Addr×Obj)}{Z:St}{H:Hp}{s:Shared}{Q:VK}{us:List Value}{vs:List V}(M:Mk X.K C f)(F:cB X.prog X.w X.K X.mg X.base CX cm k f fd ps sp)(je:cm=true->X.aj=true)(hr:∀us,bB k (X.A.under (.builtin "type.__call__" ⟨.ref C::us,[]⟩)))(hb:Binds X.K fd ps ds)(hd:Vals n6 ds)
  (hx:Passes CX X E) (I:Inv X ao Z H s) (r:Vals vs us)
  (h:∀x dx,H x=none->H dx=none->dx≠x->sp (.ref x::(vs++n6)) (upd (upd H dx (.own x)) x (.ins C dx [])) (λv H2=>v=.non/\Q (.ref x) H2) E) :
  wpAny (model X.prog X.w) X.A (call (.ref C) us) (EP X ao Z Q) X.xe s:=by
 have hq:=h (s.heap.objs.size+1) s.heap.objs.size (I.hok.fresh (xH _)) (I.hok.fresh (bQ _)) (cU (Hv _));have I2:=Inv.made (C:=C) I;have r2:Vals (V.ref (s.heap.objs.size+1)::(vs++n6)) (Value.ref (s.heap.objs.size+1)::(us++ds)):=.cons rfl (r.append hd);have hl:(Value.ref (s.heap.objs.size+1)::us++ds).length=ps.length:=by
  have e:=r2.length;rw[F.len _ _ _ _ hq] at e;exact e.symm
 refine Ft (zh6 (f:=f) I.lO M.makes M.init (nM.mp M.fn) (zF (F.run _ X.stack _ _ ⟨Value.ref (s.heap.objs.size+1)::us,[]⟩ (Value.ref (s.heap.objs.size+1)::(us++ds)) _ _ E (λz=>I.ok.hd (je z)) (hr us)
  (I2.env0.make C us []) (hb _ (Value.ref (s.heap.objs.size+1)::us) I2.lO hl) r2 hq) λr s' Je=>?_))
 cases r with
 |error e=>exact hx ao Z _ _ e s' I2 Je
 |ok fl=>
  cases fl with
  |ret u=>
   obtain⟨v,H',I3,rv,ev,q3⟩:=I2.after Je;subst ev;exact⟨rv,⟨V.ref (s.heap.objs.size+1),H',I3,rfl,q3⟩⟩
  |next=>exact False.elim Je
  |brk=>exact False.elim Je
  |cont=>exact False.elim Je
theorem zjG(M:Mk X.K C f)(F:cB X.prog X.w X.K X.mg X.base CX cm k f fd ps sp)(je:cm=true->X.aj=true)(hr:∀us,bB k (X.A.under (.builtin "type.__call__" ⟨.ref C::us,[]⟩)))(hg:Gl X x)(hm:X.mg x=some (.ref C))(hb:Binds X.K fd ps ds)(hd:Vals n6 ds)(hx:Passes CX X E)
  (ha:PA X (e::es) t) (sG:(x==("__debug__" : Str))=false:=by decide) (he:starEach (e::es) X.env=(false,eval e X.env)::starEach es X.env:=by rfl) (cT:(backTo pos (starEach es X.env)).any (·.1)=false:=by rfl) :
  PE X (.Call (.Name x p) (e::es) [] pos) (Jd C sp n6 E t):=by
 intro ao s Z H Q I h;refine Ba (Rg I hg hm ?_ sG);refine QT (h₀:=X.base) I.ok.mod.xM M.kp (aW (ha pos ao s Z H _ I h) λus s1 ⟨vs,H1,I1,r,q⟩=>⟨I1.lO,?_⟩) he cT;exact zhm M F je hr hb hd hx I1 r q
end
structure bV(N P:List Str)(sc:Scope):Prop where
 kind:sc.kind=.function
 co:sc.isCoroutine=false
 gen:sc.isGenerator=false
 nd:N.Nodup
 pre:N.take P.length=P
 par:∀x∈P,sc.names.lookup x=some .local\/sc.names.lookup x=some .cell
 Ce:∀y∈sc.names,y.2≠.free
theorem YB{kindOf:Str->Option NameKind}{x:Str}:∀{binds:List (Str×Value)} {m:Str->Option Value},(∀v,(x,v)∉binds)->bindL kindOf binds m x=m x
 |[],_,_=>rfl
 |(n,v)::r,m,h=>by
  unfold bindL;rw[YB λw hw=>h w (iI _ hw)]
  split
  ·have:x≠n:=by rintro rfl;exact h v lA
   simp[this]
  ·rfl
theorem YC{kindOf:Str->Option NameKind}{x:Str}:∀{binds:List (Str×Value)} {m:Str->Option Value},(∀v,(x,v)∉binds)->bindC kindOf binds m x=m x
 |[],_,_=>rfl
 |(n,v)::r,m,h=>by
  unfold bindC;rw[YC λw hw=>h w (iI _ hw)]
  split
  ·rfl
  ·have:x≠n:=by rintro rfl;exact h v lA
   simp[this]
theorem YD{kindOf:Str->Option NameKind}{x:Str}{v:Value}:∀{P:List Str} {vs:List Value} {i:Nat} {m:Str->Option Value},P.Nodup->P[i]?=some x->vs[i]?=some v->kindOf x=some .local->
  bindL kindOf (P.zip vs) m x=some v
 |[],_,_,_,_,h,_,_=>by simp at h
 |_::_,[],_,_,_,_,h,_=>by simp at h
 |p::P,w::vs,0,m,nd,h1,h2,hk=>by
  simp at h1 h2;subst h1;subst h2;show bindL kindOf ((p,w)::P.zip vs) m p=_;unfold bindL;rw[YB λv hv=>(xu.mp nd).1 (List.of_mem_zip hv).1,if_pos hk];simp
 |p::P,w::vs,i+1,m,nd,h1,h2,hk=>by
  show bindL kindOf ((p,w)::P.zip vs) m x=_;unfold bindL;exact YD (i:=i) (xu.mp nd).2 (by simpa using h1) (by simpa using h2) hk
theorem YF{kindOf:Str->Option NameKind}{x:Str}{v:Value}:∀{P:List Str} {vs:List Value} {i:Nat} {m:Str->Option Value},P.Nodup->P[i]?=some x->vs[i]?=some v->kindOf x≠some .local->
  bindC kindOf (P.zip vs) m x=some v
 |[],_,_,_,_,h,_,_=>by simp at h
 |_::_,[],_,_,_,_,h,_=>by simp at h
 |p::P,w::vs,0,m,nd,h1,h2,hk=>by
  simp at h1 h2;subst h1;subst h2;show bindC kindOf ((p,w)::P.zip vs) m p=_;unfold bindC;rw[YC λv hv=>(xu.mp nd).1 (List.of_mem_zip hv).1,if_neg hk];simp
 |p::P,w::vs,i+1,m,nd,h1,h2,hk=>by
  show bindC kindOf ((p,w)::P.zip vs) m x=_;unfold bindC;exact YF (i:=i) (xu.mp nd).2 (by simpa using h1) (by simpa using h2) hk
noncomputable def start(N:List Str)(vs:List V):St:=vs.map some++List.replicate (N.length-vs.length) none
noncomputable def dH(CX:sE)(P:Program)(w:World)(K:W.Frag)(mg:Str->Option Value)(base:Heap)(N:List Str)(qual:Str)(scope:Scope)(f:Addr)(cd:Value)(A:Around)(outer:List Env)(s:Shared)(H:Hp)(E:XK)(cm:Bool):Cx where
 prog:=P
 w:=w
 K:=K
 mg:=mg
 base:=base
 A:=A.deeper (envOfC qual scope s.heap.objs.size f cd)
 N:=N
 s₀:=s
 H₀:=H
 env:=envOfC qual scope s.heap.objs.size f cd
 outer:=outer
 stack:=envOfC qual scope s.heap.objs.size f cd::outer
 ex:=[]
 aj:=cm
 fn:=λ_=>true
 pn:=[]
 xe:=λe s'=>wpAny (model P w) (A.deeper (envOfC qual scope s.heap.objs.size f cd)) (leaving (envOfC qual scope s.heap.objs.size f cd) e) (λ_ s''=>CX outer H s E e s'') (λe' s''=>CX outer H s E e' s'') s'
theorem YG{sc:Scope}{n:Nat}{x:Str}(h:sc.names.lookup x=some .cell):∃c,(cellsFrom n sc.names []).lookup x=some c:=by
 have q:=MJ sc.names n [] (.inl h);exact Qy.mp q
theorem YH{CX:sE}{P:Program}{w:World}{K:W.Frag}{mg:Str->Option Value}{base:Heap}{N ps:List Str}{qual:Str}{scope:Scope}{f:Addr}{cd:Value}{A:Around}{outer:List Env}{s s1:Shared}{H:Hp}{E:XK}{us:List Value}{vs:List V}
  {cm:Bool} (S:bV N ps scope) (hd:cm=true->A.handled=none) (e0:pZ P w K mg base A outer s H) (hl:vs.length=ps.length) (r:Vals vs us)
  (x:InCallC s s.heap.objs.size (bindL (envOfC qual scope s.heap.objs.size f cd).kindOf (ps.zip us) λ_=>none) (cellsFrom (s.heap.objs.size+1) scope.names []) (bindC (envOfC qual scope s.heap.objs.size f cd).kindOf (ps.zip us) λ_=>none) s1) :
  Inv (dH CX P w K mg base N qual scope f cd A outer s H E cm) [] (start N vs) H s1:=by
 have cT:ps.length<=N.length:=by have:=lB List.length S.pre;rw[Bg] at this;lia
 obtain⟨h1,tk,rfl,hk⟩:=x.done;have Jf:∀b:Addr,b∉(dH CX P w K mg base N qual scope f cd A outer s H E cm).ex:=λb z=>absurd (show b∈([]:List Addr) from z) Zaa;refine⟨⟨e0.mod,S.kind,rfl,rfl,bQ _,λy z c h1 h2=>?_,λy hy=>?_,λy c _ h=>?_,hd,Around.frames_deeper e0.frames,.inr ⟨rfl,rfl⟩,λb z=>absurd z (Jf b),e0.bs,e0.xT,λb _ _=>Jf b,λb z=>absurd z (Jf b),e0.jC,e0.zN⟩,
  rfl,e0.bare,Un.kept hk,⟨_,x.toInCall.ns,λi y v h1 h2 h3=>?_⟩,λy c h=>⟨_,x.cell y c h⟩,e0.hok.fresh (bQ _),λy c h=>?_,λp hp=>absurd (show p∈([]:List (Addr×Obj)) from hp) Zaa,e0.hok.kept hk,?_⟩
 ·exact name_of_addr x.apart (Et h1) (Et h2)
 ·have hy:scope.names.lookup y=some .cell\/scope.names.lookup y=some .free:=hy;rcases hy with hy|hy
  ·exact YG hy
  ·exact absurd rfl (S.Ce _ (Et hy))
 ·exact rW (x.above y c (Et h))
 ·have hi:i<vs.length:=by
   unfold start at h2;by_cases hi:i<vs.length
   ·exact hi
   ·rw[pK (by simpa using hi)] at h2;rw[Ay] at h2;split at h2<;>cases h2
  have ha:vs[i]?=some v:=by
   unfold start at h2;rw[pB (by simpa using hi),gM] at h2;cases e:vs[i]? with
   |none=>rw[e] at h2;cases h2
   |some a=>rw[e] at h2;cases h2;rfl
  obtain⟨u,hu,rv⟩:=r.get ha;have hp:ps[i]?=some y:=by
   rw[<-S.pre,List.getElem?_take_of_lt gV];exact h1
  have YJ:ps.Nodup:=by rw[<-S.pre];exact S.nd.sublist (List.take_sublist _ _)
  refine⟨u,rv,?_⟩;rcases S.par y (eG hp) with k|k
  ·exact .inl ⟨k,YD YJ hp hu k⟩
  ·obtain⟨c,e⟩:=YG (n:=s.heap.objs.size+1) k;refine .inr ⟨.inl k,c,e,?_⟩;have q:=x.cell y c e;rw[YF YJ hp hu (by show scope.names.lookup y≠_;rw[k];decide)] at q;exact q
 ·exact e0.hok.fresh (rW (x.above y c (Et h)))
 ·unfold start;show _=N.length;rw[mj,cR,Hg]
  lia
theorem RQ{CX:sE}{cm:Bool}{P:Program}{w:World}{K:W.Frag}{mg:Str->Option Value}{base:Heap}{k:Nat}{f:Addr}{name qual:Str}{params:Arguments}{body:List Stmt}{scope:Scope}{dV kV doc pm cdv ct oc:Value}{an od:Option Addr}
  {osl:Array (Option Value)} {N ps:List Str} {sp:Sp} (lk:K.lookup f=some ⟨oc,od,.func (PySem.W.fnOf name qual params body scope dV kV doc pm an cdv ct),osl⟩) (iK:PySem.W.codeIn K cdv qual=true) (S:bV N ps scope)
  (len:∀vs H Q E,sp vs H Q E->vs.length=ps.length)
  (Jg:∀(A:Around) (outer:List Env) (s:Shared) (H:Hp) (vs:List V) (Q:VK) (E:XK),bB (k+1) A->sp vs H Q E->
   ∃t,pW (dH CX P w K mg base N qual scope f cdv A outer s H E cm) body t/\t {nx:=λ_ H'=>Q .non H',rt:=Q} (start N vs) H) :
  cB P w K mg base CX cm (k+1) f (PySem.W.fnOf name qual params body scope dV kV doc pm an cdv ct) ps sp:=by
 refine⟨len,λA outer s H args us vs Q E je hr e0 hb r NZ=>?_⟩;have hl:=len _ _ _ _ NZ;have KX:K.In s.heap:=e0.mod.xM.keeps λb o e=>(e0.bs b o e).1;have lim:s.heap.NoLimit:=e0.mod.nolimit.keeps λb o e=>(e0.bs b o e).1;have uF:∀y∈ps.zip us,scope.names.lookup y.1=some .local\/(scope.names.lookup y.1=some .cell/\((cellsFrom (s.heap.objs.size+1) scope.names []).lookup y.1).isSome=true):=λ⟨n,v⟩ hy=>by
  rcases S.par n (List.of_mem_zip hy).1 with q|q
  ·exact .inl q
  ·exact .inr ⟨q,MJ _ _ _ (.inl q)⟩
 refine codeAny_call_function hr.depth (KX _ _ lk) rfl S.co S.gen rfl (PySem.W.codeRec_of KX iK) (hb _ _ _ _ ?_);refine wpAny_newFunctionEnv_cells S.kind uF λenv he s1 x=>?_;subst he;refine⟨lim.keeps x.toInCall.keep,codeAny_func ?_⟩;obtain⟨t,ht,hq⟩:=Jg A outer s H vs Q E hr NZ;have I:Inv (dH CX P w K mg base N qual scope f cdv A outer s H E cm) [] (start N vs) H s1:=YH S je e0 hl r x;refine fX (ht [] s1 (start N vs) H _ I hq) (λfl s' hs=>?_) λe s' hs=>hs;have fin:∀{Z':St} {H':Hp} {v:V} {u:Value},Inv (dH CX P w K mg base N qual scope f cdv A outer s H E cm) [] Z' H' s'->RelV v u->Q v H'->CE outer P w H s Q u s':=
  λ{Z' H' v u} aZ rv q=>⟨v,H',aZ.os,aZ.bare,aZ.base,aZ.hok,rv,q⟩
 cases fl with
 |ret u=>
  obtain⟨v,Z',H',aZ,rv,q⟩:=hs;exact fin aZ rv q
 |next=>
  obtain⟨Z',H',aZ,q⟩:=hs;exact fin (v:=V.non) (u:=Value.none) aZ rfl q
 |brk=>
  obtain⟨_,_,_,q⟩:=hs;exact False.elim q
 |cont=>
  obtain⟨_,_,_,q⟩:=hs;exact False.elim q
section
variable {X:Cx}{x:Str}{p pos:Pos}{e:Expr}{es:List Expr}{t:TA}{id T:String}{r:List V->Hp->VK->Prop}
noncomputable def RT(r:List V->Hp->VK->Prop)(t:TA):TE:=λZ H Q=>t Z H λvs H1=>r vs H1 Q
theorem YK(hc:cW X (.builtin id) r)(hg:Gl X x)(hm:X.mg x=none)(hv:bootBuiltins x=some (.builtin id))(ha:PA X (e::es) t)(hn:x≠"__name__":=by decide)(sG:(x==("__debug__" : Str))=false:=by decide)
  (he:starEach (e::es) X.env=(false,eval e X.env)::starEach es X.env:=by rfl) (cT:(backTo pos (starEach es X.env)).any (·.1)=false:=by rfl):PE X (.Call (.Name x p) (e::es) [] pos) (RT r t):=by
 intro ao s Z H Q I h;refine Ba (wD I hg hm hv ?_ hn sG);exact PyProof.Rows.callWith_builtin1 (aW (ha pos ao s Z H _ I h) λus s1 hx=>fu hx λvs H1 I1 r1 q1=>hc ao s1 Z H1 vs us Q I1 r1 q1) he cT
theorem zfx(hc:cW X (.type T) r)(hg:Gl X x)(hm:X.mg x=none)(hv:bootBuiltins x=some (.type T))(ha:PA X (e::es) t)(hn:x≠"__name__":=by decide)(sG:(x==("__debug__" : Str))=false:=by decide)
  (he:starEach (e::es) X.env=(false,eval e X.env)::starEach es X.env:=by rfl) (cT:(backTo pos (starEach es X.env)).any (·.1)=false:=by rfl):PE X (.Call (.Name x p) (e::es) [] pos) (RT r t):=by
 intro ao s Z H Q I h;refine Ba (wD I hg hm hv ?_ hn sG);exact Ax (aW (ha pos ao s Z H _ I h) λus s1 hx=>fu hx λvs H1 I1 r1 q1=>hc ao s1 Z H1 vs us Q I1 r1 q1) he cT
end
end L2
namespace HT
open PySem PyProof.Rows
noncomputable def lexLt:List Int->List Int->Bool
 |[],[]=>false
 |[],_::_=>true
 |_::_,[]=>false
 |x::xs,y::ys=>if x=y then lexLt xs ys else decide (x<y)
theorem j8(x y:Int)(xs ys:List Int):lexLt (x::xs) (y::ys)=if x=y then lexLt xs ys else decide (x<y):=rfl
theorem zcR:lexLt [] []=false:=rfl
theorem zci(y:Int)(ys:List Int):lexLt [] (y::ys)=true:=rfl
theorem zcg(x:Int)(xs:List Int):lexLt (x::xs) []=false:=rfl
theorem zhh(A:Around)(s:Shared)(a:Int)(t:Tok)(c:Int)(u:Tok):∃e,SeqAt.EqAt A s (.int a t) (.int c u) e/\(e=true↔a=c):=
 ⟨(a==c),SeqAt.EqAt.int_int a t c u,by simp⟩
theorem zg0(A:Around)(s:Shared)(a:Int)(t:Tok)(c:Int)(u:Tok)(prog:Program)(w:World)(E:Value->Shared->Prop)(Q:Value->Shared->Prop)(h:Q (.bool (decide (a<c))) s) :
  wpAny (model prog w) A (richCompare .Lt (.int a t) (.int c u)) Q E s:=
 (PyProof.Rows.lt_int h:wpAny (model prog w) A (compareOp .Lt (.int a t) (.int c u)) Q E s)
section
open PySem.SeqAt
open PySem.AutoSeq1 (wpAny_loadPart')
open PySem.MeetsSeq PySem.MeetsSeq2 PySem.MeetsSeq3
theorem zcJ(l b:Addr)(items items2:Array Value)(n n2:Nat)(dd dd2:Option Addr)(sl sl2:Array (Option Value))(ns ms:List Int)(hi:IntsAre items.toList ns)(hj:IntsAre items2.toList ms) :
  Meets (Builtin.«tuple.__lt__» ⟨[.ref l,.ref b],[]⟩)
   (λ_ R s=>s.heap.get? l=some {cls:=.type "tuple",dict:=dd,data:=.seq items n,slots:=sl}/\s.heap.get? b=some {cls:=.type "tuple",dict:=dd2,data:=.seq items2 n2,slots:=sl2} /\
    R (.ok (.ret (.bool (lexLt ns ms)))) s):=
 .of_wp λprog w A R s h=>by
  obtain⟨hp,g,d,tk,os⟩:=s;obtain⟨hl,hb,h⟩:=h;have f2:=AutoSeq1.sub_tuple_tuple;have z1:items.size=ns.length:=by rw[<-hi.length];simp
  have z2:items2.size=ms.length:=by rw[<-hj.length];simp
  wp_walk using wpAny_loadPart' hl,wpAny_loadPart' hb,wpAny_forIn_list _ (λrest b s'=>b.1=none/\s'=⟨hp,g,d,tk,os⟩/\∃(vs ws:List Value) (ns' FT:List Int),rest=vs.zip ws /\
   IntsAre vs ns'/\IntsAre ws FT/\ns'.length+items2.size=FT.length+items.size/\R (.ok (.ret (.bool (lexLt ns' FT)))) ⟨hp,g,d,tk,os⟩) _
  case turn=>
   rintro⟨y,x⟩ rest b s' ⟨hb',rfl,vs,ws,ns',FT,hz,RV,N5,hlen,hR⟩;cases RV with
   |nil=>rw[List.zip_nil_left] at hz;cases hz
   |cons a t RW=>
    cases N5 with
    |nil=>rw[List.zip_nil_right] at hz;cases hz
    |cons c u RX=>
     rw[Hs] at hz;injection hz with hyx Jh;injection hyx with hy hx;subst hy hx;rw[j8] at hR;simp only[h_] at hlen;obtain⟨e,he,Ji⟩:=zhh A.in1 ⟨hp,g,d,tk,os⟩ a t c u;refine aB (he prog w _ _ ?_);cases e with
     |true=>
      rw[if_pos (Ji.mp rfl)] at hR
      wp_walk
      exact⟨rfl,rfl,_,_,_,_,Jh,RW,RX,by lia,hR⟩
     |false=>
      rw[if_neg (λq=>absurd (Ji.mpr q) Hr)] at hR;have hri:=zg0 A.in1 ⟨hp,g,d,tk,os⟩ a t c u prog w
      wp_walk using hri
      exact⟨_,rfl,by simpa using hR⟩
  case fin=>
   rintro⟨b1,b2⟩ s' ⟨hb',rfl,vs,ws,ns',FT,hz,RV,N5,hlen,hR⟩;simp only at hb';subst hb';have hv:lexLt ns' FT=decide (items.size<items2.size):=by
    cases RV with
    |nil=>
     cases N5 with
     |nil=>
      simp only[Bk] at hlen;rw[zcR];exact(mz gV).symm
     |cons c u hw=>
      simp only[Bk,h_] at hlen;rw[zci];exact(gH gV).symm
    |cons a t hv=>
     cases N5 with
     |nil=>
      simp only[Bk,h_] at hlen;rw[zcg];exact(mz gV).symm
     |cons c u hw=>
      rw[Hs] at hz;cases hz
   rw[hv] at hR
   wp_walk
   exact⟨_,rfl,by simpa [Builtin.Tuple.tupleCompareSizes] using hR⟩
  case h=>
   exact⟨rfl,rfl,items.toList,items2.toList,ns,ms,rfl,hi,hj,by lia,h⟩
end
section
variable {prog:Program}{w:World}{A:Around}{E:Value->Shared->Prop}{s:Shared}
theorem j9{l b:Addr}{items items2:Array Value}{ns ms:List Int}{Q:Value->Shared->Prop}(hl:IsTup s.heap l items)(hb:IsTup s.heap b items2)(hi:IntsAre items.toList ns)(hj:IntsAre items2.toList ms)
  (hu:A.units<cLine) (h:Q (.bool (lexLt ns ms)) s):wpAny (model prog w) A (compareOp .Lt (.ref l) (.ref b)) Q E s:=by
 obtain⟨⟨cls,dd,data,sl⟩,ho,hc,n,hd⟩:=id hl;obtain⟨⟨cls2,dd2,data2,sl2⟩,p7,nu,n2,hd2⟩:=id hb;simp only at hc hd nu hd2;subst hc hd nu hd2;exact richCompare_meets_room (op:=.Lt) ⟨_,ho,rfl⟩ ⟨_,p7,rfl⟩ PySem.F.slot_tuple_lt PySem.F.entry_tuple_lt (PySem.F.args_tuple_lt_2 _ _) (zcJ l b items items2 n n2 dd dd2 sl sl2 ns ms hi hj)
  ⟨ho,p7,show Value.bool (lexLt ns ms)≠Value.notImplemented/\Q (.bool (lexLt ns ms)) s from ⟨(λx=>nomatch x),h⟩⟩ hu
theorem yg{t b:Addr}{vs ws:List Value}{Q:Value->Shared->Prop}(ht:IsTup s.heap t vs.toArray)(hb:IsTup s.heap b ws.toArray)(hv:vs≠[])
  (h1:ws=[]->Q (.ref t) s) (h2:ws≠[]->Q (.ref s.heap.objs.size) {s with heap:=s.heap.push {cls:=.type "tuple",data:=.seq (vs++ws).toArray}})
  (hsz:vs.length+ws.length<=sizeLine):wpAny (model prog w) A (binaryOp .Add (.ref t) (.ref b)) Q E s:=by
 obtain⟨⟨cls,dd,data,sl⟩,ho,hc,n,hd⟩:=id ht;obtain⟨⟨cls2,dd2,data2,sl2⟩,p7,nu,n2,hd2⟩:=id hb;simp only at hc hd nu hd2;subst hc hd nu hd2;have e:vs.toArray++ws.toArray=(vs++ws).toArray:=by simp
 by_cases hw:ws=[]
 ·exact concat_meets ⟨_,ho,rfl⟩ ⟨_,p7,rfl⟩ noFill_tuple_add seq_tuple_add QG QD (Qz _ _)
   (tuple_addW1 t b vs.toArray ws.toArray n n2 dd dd2 sl sl2 (by simpa using hv) (by simp[hw])) ⟨ho,p7,h1 hw⟩
 ·refine concat_meets ⟨_,ho,rfl⟩ ⟨_,p7,rfl⟩ noFill_tuple_add seq_tuple_add QG QD (Qz _ _)
   (tuple_addW2 t b vs.toArray ws.toArray n n2 dd dd2 sl sl2 (by simpa using hv) (by simpa using hw) (by rw[fW,fW];exact hsz)) ⟨ho,p7,?_⟩
  rw[e];exact h2 hw
noncomputable def bW(n d:Nat):Option Int->Nat
 |none=>d
 |some v=>if v<0 then (v+(n:Int)).toNat else min v.toNat n
theorem uG(n d:Nat):bW n d none=d:=rfl
theorem yh(n d k:Nat):bW n d (some (k:Int))=min k n:=by
 show (if (k:Int)<0 then ((k:Int)+(n:Int)).toNat else min (k:Int).toNat n)=min k n;rw[if_neg gV,pL]
theorem zlc(n d:Nat)(hd:d<=n)(o:Option Int):bW n d o<=n:=by
 cases o with
 |none=>exact hd
 |some v=>
  show (if v<0 then (v+(n:Int)).toNat else min v.toNat n)<=n;by_cases hv:v<0
  ·rw[if_pos hv];lia
  ·rw[if_neg hv];exact Nat.min_le_right _ _
theorem YL(v:Int)(n d:Nat):(if v<0 then max (v+(n:Int)) 0 else min v (n:Int))=((bW n d (some v):Nat):Int):=by
 show (if v<0 then max (v+(n:Int)) 0 else min v (n:Int))=(((if v<0 then (v+(n:Int)).toNat else min v.toNat n):Nat):Int);by_cases hv:v<0
 ·simp only[if_pos hv];lia
 ·simp only[if_neg hv];lia
theorem ze0(lo hi:Option Int)(n:Nat):Builtin.Slice.sliceAdjust lo hi 1 (n:Int)=(((bW n 0 lo:Nat):Int),((bW n n hi:Nat):Int)):=by
 have h1:¬((1:Int)<0):=by lia
 unfold Builtin.Slice.sliceAdjust;simp only[h1,nO];refine Prod.ext ?_ ?_
 ·cases lo with
  |none=>rfl
  |some v=>exact YL v n 0
 ·cases hi with
  |none=>rfl
  |some v=>exact YL v n n
theorem zfd(i j:Nat):Builtin.Slice.slicePlaces (i:Int) (j:Int) 1=j-i:=by
 unfold Builtin.Slice.slicePlaces;have h1:(1:Int)>0:=by lia
 simp only[h1,if_true,Int.ediv_one]
 split<;>lia
theorem YM{v:Value}{o:Option Int}{Q:Option Int->Shared->Prop}(p:IsPart v o)(h:Q o s):wpAny (model prog w) A (Builtin.Slice.slicePartIndex v) Q E s:=by
 cases p with
 |none=>exact slicePart_none h
 |int i t=>exact slicePart_int h
theorem YQ{sl:Addr}{vl vu:Value}{lo hi:Option Int}{n:Nat}{Q:Int×Int×Nat->Shared->Prop}(hs:s.heap.IsSliceOf sl vl vu .none)(pl:IsPart vl lo)(pu:IsPart vu hi)
  (h:Q (((bW n 0 lo:Nat):Int),1,bW n n hi-bW n 0 lo) s):wpAny (model prog w) A (Builtin.Slice.sliceApplied (.ref sl) (pure (n:Int))) Q E s:=by
 obtain⟨os,Cg,N6,Jj⟩:=id hs;unfold Builtin.Slice.sliceApplied Builtin.Slice.sliceFields;refine aB (aB (mF Cg Jj (x:=vl) rfl (aB (mF Cg Jj (x:=vu) rfl (aB (mF Cg Jj (x:=.none) rfl (aP ?_)))))));refine aB (slicePart_none ?_);show wpAny _ _ (if ((1:Int)==0)=true then _ else _) _ _ s;rw[if_neg Tc];refine aB (YM pl (aB (YM pu (aB (aP ?_)))));show wpAny _ _ (match Builtin.Slice.sliceAdjust lo hi 1 (n:Int) with|(lo,hi)=>pure (lo,(1:Int),Builtin.Slice.slicePlaces lo hi 1)) _ _ s;rw[ze0 lo hi n];show wpAny _ _ (pure (((bW n 0 lo:Nat):Int),(1:Int),Builtin.Slice.slicePlaces ((bW n 0 lo:Nat):Int) ((bW n n hi:Nat):Int) 1)) _ _ s;rw[zfd];exact aP h
theorem zhB(xs:Array Value)(i k:Nat):((List.range k).filterMap λ(m:Nat)=>xs[((i:Int)+(m:Int)*1).toNat]?).toArray=((xs.toList.drop i).take k).toArray:=by
 have e:(λ(m:Nat)=>xs[((i:Int)+(m:Int)*1).toNat]?)=λm=>xs[i+m]?:=by
  funext m
  have:((i:Int)+(m:Int)*1).toNat=i+m:=by lia
  rw[this]
 rw[e];have:=pick_run xs i k;rw[List.filterMap_map] at this;have e2:((λx=>xs[x]?)∘λx=>i+x)=λm=>xs[i+m]?:=rfl;rw[e2] at this;rw[this]
theorem iQ{t sl:Addr}{items:Array Value}{vl vu:Value}{lo hi:Option Int}{Q:Value->Shared->Prop}(ht:IsTup s.heap t items)(hs:s.heap.IsSliceOf sl vl vu .none)(pl:IsPart vl lo)(pu:IsPart vu hi)
  (hw:¬(bW items.size 0 lo=0/\bW items.size items.size hi=items.size))
  (h:Q (.ref s.heap.objs.size) {s with heap:=s.heap.push {cls:=.type "tuple",data:=.seq ((items.toList.drop (bW items.size 0 lo)).take (bW items.size items.size hi-bW items.size 0 lo)).toArray}})
  (hsz:items.size<=sizeLine):wpAny (model prog w) A (getItem (.ref t) (.ref sl)) Q E s:=by
 have qW:sizeOk (.seq ((items.toList.drop (bW items.size 0 lo)).take (bW items.size items.size hi-bW items.size 0 lo)).toArray):=by
  show ((items.toList.drop (bW items.size 0 lo)).take (bW items.size items.size hi-bW items.size 0 lo)).toArray.size<=sizeLine;rw[fW,Bg,List.length_drop,pC]
  lia
 have hj:bW items.size items.size hi<=items.size:=zlc _ _ (bQ _) hi;obtain⟨os,Cg,N6,Jj⟩:=id hs;have RZ:s.TypeIs (.ref sl) "slice":=⟨os,Cg,N6⟩;unfold getItem
 try with_reducible refine pQ ?_
 first|refine aB (aP ?_)|skip
 refine aB (wpAny_sequenceKey ht.typeIs Tc ?_);refine aB (Az (name:=Str.ofString "__getitem__") ht.typeIs Em
  (zA Em ht.typeIs entry_tuple_getitem ?_ (args_tuple_getitem _ _)))
 show wpAny _ _ (Builtin.Tuple.tupleItemsOf (.ref t) >>= _) _ _ s;refine aB (tupleItemsOf_ ht ?_);refine aB (wpAny_typeOf RZ ?_);rw[if_pos Tc];refine aB (YQ hs pl pu ?_);have gU:¬((((bW items.size 0 lo:Nat):Int)==0&&(1:Int)==1&&(bW items.size items.size hi-bW items.size 0 lo)==items.size)=true):=by
  intro q;rw[gG,gG] at q;have q1:((bW items.size 0 lo:Nat):Int)=0:=eq_of_beq q.1.1;have q2:bW items.size items.size hi-bW items.size 0 lo=items.size:=eq_of_beq q.2;exact hw ⟨by lia,by lia⟩
 show wpAny _ _ (if (((bW items.size 0 lo:Nat):Int)==0&&(1:Int)==1&&(bW items.size items.size hi-bW items.size 0 lo)==items.size)=true then _ else _) _ _ s;rw[if_neg gU,zhB]
 first
  |exact aB (m:=Builtin.Tuple.tupleExact _) (tU (aP ⟨_,rfl,aP h⟩) qW)
  |exact aB (m:=Builtin.Tuple.tupleExact _) (tU (aB (aP (aP ⟨_,rfl,aP h⟩))) qW)
  |exact aB (aB (m:=Builtin.Tuple.tupleExact _) (tU (aP (aP ⟨_,rfl,aP h⟩)) qW))
  |exact aB (aB (m:=Builtin.Tuple.tupleExact _) (tU (aP ⟨_,rfl,aP h⟩) qW))
end
end HT
namespace L2
open PySem PySem.Spec PyProof.Rows
noncomputable abbrev TO:=St->Hp->(Option Int->Hp->Prop)->Prop
def PO(X:Cx)(e:Option Expr)(t:TO):Prop:=
 ∀(ao:List (Addr×Obj)) (s:Shared) (Z:St) (H:Hp) (Q:Option Int->Hp->Prop),Inv X ao Z H s->t Z H Q->
  wpAny (model X.prog X.w) X.A (evalPart e X.env) (λu s'=>∃o H',Inv X ao Z H' s'/\IsPart u o/\Q o H') X.xe s
noncomputable def yj:TO:=λ_ H Q=>Q none H
noncomputable def Jk(t:TE):TO:=λZ H Q=>t Z H λx H1=>∃i,x=.int i/\Q (some i) H1
theorem YS{ns:List Int}:∀{us:List Value},Vals (ns.map V.int) us->IntsAre us ns:=by
 induction ns with
 |nil=>intro us r;rw[List.map_nil] at r;cases r;exact .nil
 |cons n ns ih=>
  intro us r;rw[jV] at r;cases r with
  |cons r1 r2=>
   obtain⟨t,e⟩:=r1;subst e;exact .cons n t (ih r2)
section
variable {X:Cx}{e:Expr}{te:TE}{lo hi:Option Expr}{tl th:TO}{pos p2:Pos}
theorem zjl:PO X none yj:=by
 intro ao s Z H Q I h;rw[evalPart_none];exact aP ⟨none,H,I,.none,h⟩
theorem zjr(h:PE X e te):PO X (some e) (Jk te):=by
 intro ao s Z H Q I hw;rw[evalPart_some];refine aW (h ao s Z H _ I hw) λu s1 hx=>fu hx λx H1 I1 r1 q1=>?_;obtain⟨i,rfl,q⟩:=q1;obtain⟨t,rfl⟩:=r1;exact⟨some i,H1,I1,.int i t,q⟩
def yp(X:Cx)(r:V->Option Int->Option Int->Hp->VK->Prop):Prop:=
 ∀(ao:List (Addr×Obj)) (s:Shared) (Z:St) (H:Hp) (x:V) (v vl vu:Value) (lo hi:Option Int) (sl:Addr) (Q:VK),Inv X ao Z H s->RelV x v->s.heap.IsSliceOf sl vl vu .none->IsPart vl lo->IsPart vu hi->r x lo hi H Q->
  ∃T id,typeLookup (.type T) "__getitem__"=pure (some (.builtin id))/\s.TypeIs v T/\wpAny (model X.prog X.w) X.A (getItem v (.ref sl)) (EP X ao Z Q) X.xe s
theorem yp.or{r r':V->Option Int->Option Int->Hp->VK->Prop}(h:yp X r)(h':yp X r'):yp X (λx lo hi H Q=>r x lo hi H Q\/r' x lo hi H Q):=by
 intro ao s Z H x v vl vu lo hi sl Q I rx hs pl pu q;rcases q with q|q
 ·exact h ao s Z H x v vl vu lo hi sl Q I rx hs pl pu q
 ·exact h' ao s Z H x v vl vu lo hi sl Q I rx hs pl pu q
noncomputable def tSl(r:V->Option Int->Option Int->Hp->VK->Prop)(te:TE)(tl th:TO):TE:=λZ H Q=>te Z H λx H1=>tl Z H1 λl H2=>th Z H2 λu H3=>r x l u H3 Q
theorem zhU{r:V->Option Int->Option Int->Hp->VK->Prop}(hr:yp X r)(he:PE X e te)(hl:PO X lo tl)(hu:PO X hi th):PE X (.Subscript e (.Slice lo hi none p2) pos) (tSl r te tl th):=by
 intro ao s Z H Q I h;refine Subscript_ (aW (he ao s Z H _ I h) λv s1 hx=>fu hx λx H1 I1 r1 q1=>?_);refine wpAny_Slice (aW (hl ao s1 Z H1 _ I1 q1) λvl s2 hx=>fu hx λl H2 I2 pl q2=>aW (hu ao s2 Z H2 _ I2 q2) λvu s3 hx=>fu hx λu H3 I3 pu q3=>?_);rw[evalPart_none];refine aP ?_;have I4:Inv X ao Z H3 {s3 with heap:=s3.heap.push {cls:=.type "slice",data:=.fields #[vl,vu,.none]}}:=I3.kept (t':=s3.toks) λb ob q=>cj _ q;obtain⟨T,id,hT,ht,hg⟩:=hr ao {s3 with heap:=s3.heap.push {cls:=.type "slice",data:=.fields #[vl,vu,.none]}} Z H3 x v vl vu l u s3.heap.objs.size Q I4 r1 (Heap.IsSliceOf.new ..) pl pu q3;show wpAny (model X.prog X.w) X.A (subscriptTail e (.Slice lo hi none p2) v (.ref s3.heap.objs.size)) (EP X ao Z Q) X.xe {s3 with heap:=s3.heap.push {cls:=.type "slice",data:=.fields #[vl,vu,.none]}};exact tail_any (ops:=[.ref s3.heap.objs.size,v]) ht hT hg (by with_unfolding_all rfl)
noncomputable def mO(xs:List V)(lo hi:Option Int):List V:=(xs.drop (HT.bW xs.length 0 lo)).take (HT.bW xs.length xs.length hi-HT.bW xs.length 0 lo)
theorem YT(xs:List V)(lo hi:Option Int):(mO xs lo hi).length<=xs.length:=by
 unfold mO;rw[Bg,List.length_drop]
 lia
noncomputable def R0(K:W.Frag):V->Option Int->Option Int->Hp->VK->Prop:=λx lo hi H Q=>∃a xs,x=.ref a/\gR K H a xs /\
 ¬(HT.bW xs.length 0 lo=0/\HT.bW xs.length xs.length hi=xs.length)/\∀p,H p=none->Q (.ref p) (upd H p (.tup (mO xs lo hi)))
theorem zlF:yp X (R0 X.K):=by
 intro ao s Z H x v vl vu lo hi sl Q I rx hs pl pu h;obtain⟨a,xs,rfl,hx,hw,q⟩:=h;cases rx;obtain⟨its,r,ht,hz⟩:=I.tuple hx;have hlen:its.toArray.size=xs.length:=by rw[fW];exact r.length.symm
 refine⟨"tuple",_,Em.lookup,ht.typeIs,?_⟩;refine HT.iQ ht hs pl pu (by rw[hlen];exact hw) ?_ (by rw[hlen];exact hz);rw[hlen];refine⟨.ref s.heap.objs.size,_,I.laid (t':=s.toks) (o:=.tup (mO xs lo hi)) (λb ob q=>cj _ q) (bQ _) ?_,rfl,q _ (I.hok.fresh (bQ _))⟩;exact⟨jW (YT xs lo hi) hz,_,(r.drop (HT.bW xs.length 0 lo)).take (HT.bW xs.length xs.length hi-HT.bW xs.length 0 lo),IsTup.new _ _⟩
noncomputable def Jl(K:W.Frag):R2:=λx y H Q=>∃a b ns ms,x=.ref a/\y=.ref b/\gR K H a (ns.map V.int)/\gR K H b (ms.map V.int)/\Q (.bl (HT.lexLt ns ms)) H
theorem zl3(hu:X.A.units<cLine):fL X (compareOp .Lt) (Jl X.K):=by
 intro ao s Z H x y v u Q I rx ry h;obtain⟨a,b,ns,ms,rfl,rfl,ha,hb,q⟩:=h;cases rx;cases ry;obtain⟨its,r1,p1,_⟩:=I.tuple ha;obtain⟨its2,r2,p2,_⟩:=I.tuple hb;have i1:IntsAre its.toArray.toList ns:=YS r1;have i2:IntsAre its2.toArray.toList ms:=YS r2;exact HT.j9 p1 p2 i1 i2 hu ⟨.bl (HT.lexLt ns ms),H,I,rfl,q⟩
theorem Vals.mQ{xs:List V}{us:List Value}(r:Vals xs us):us=[]↔xs=[]:=by
 cases r with
 |nil=>simp
 |cons _ _=>simp
end
noncomputable def pF(n:Nat)(i:Int):Option Nat:=if 0<=i then (if i<n then some i.toNat else none) else if -(n:Int)<=i then some (i+n).toNat else none
noncomputable def n8{α:Type}(xs:List α)(i:Int):Option α:=(pF xs.length i).bind λj=>xs[j]?
theorem YW{n:Nat}{i:Int}{j:Nat}(h:pF n i=some j):seqIndex? i n=some j/\j<n/\-(n:Int)<=i/\i<n:=by
 unfold pF at h;by_cases h0:0<=i
 ·rw[if_pos h0] at h;by_cases h1:i<n
  ·rw[if_pos h1] at h;have e:i.toNat=j:=cI h;exact⟨by rw[seqIndex_of h0 h1,e],by lia,by lia,h1⟩
  ·rw[if_neg h1] at h;cases h
 ·rw[if_neg h0] at h;by_cases h1 : -(n:Int)<=i
  ·rw[if_pos h1] at h;have e:(i+n).toNat=j:=cI h;exact⟨by rw[seqIndex_neg gV h1,e],by lia,h1,by lia⟩
  ·rw[if_neg h1] at h;cases h
theorem R3{α:Type}{xs:List α}{i:Int}{v:α}(h:n8 xs i=some v):∃j,seqIndex? i xs.length=some j/\xs[j]?=some v/\j<xs.length/\-(xs.length:Int)<=i/\i<xs.length:=by
 unfold n8 at h;cases e:pF xs.length i with
 |none=>rw[e] at h;cases h
 |some j=>
  rw[e] at h;obtain⟨h1,h2,h3,h4⟩:=YW e;exact⟨j,h1,h,h2,h3,h4⟩
def qX(b:Expr):Prop:=∀o i,subscripted b false o i=operate [o,i] (getItem o i)
def yq(X:Cx)(r:R2):Prop:=
 ∀(value slice:Expr) (ao:List (Addr×Obj)) (s:Shared) (Z:St) (H:Hp) (x y:V) (v u:Value) (Q:VK),Inv X ao Z H s->RelV x v->RelV y u->r x y H Q->
  subscripted slice false v u=operate [v,u] (getItem v u)->wpAny (model X.prog X.w) X.A (subscriptTail value slice v u) (EP X ao Z Q) X.xe s
def MtR(X:Cx)(id:String)(r:V->List V->Hp->VK->Prop):Prop:=
 ∀(ao:List (Addr×Obj)) (s:Shared) (Z:St) (H:Hp) (x:V) (xs:List V) (v:Value) (us:List Value) (Q:VK),Inv X ao Z H s->RelV x v->Vals xs us->r x xs H Q->
  wpAny (model X.prog X.w) X.A (call (.builtin id) (v::us)) (EP X ao Z Q) X.xe s
section
variable {X:Cx}{a b:Expr}{ta tb:TE}{pos:Pos}
theorem yq.or{r r':R2}(h:yq X r)(h':yq X r'):yq X (λx y H Q=>r x y H Q\/r' x y H Q):=by
 intro value slice ao s Z H x y v u Q I rx ry q hs;rcases q with q|q
 ·exact h value slice ao s Z H x y v u Q I rx ry q hs
 ·exact h' value slice ao s Z H x y v u Q I rx ry q hs
theorem znu{r:R2}(hr:yq X r)(ha:PE X a ta)(hb:PE X b tb)(hs:qX b):PE X (.Subscript a b pos) (NK r ta tb):=by
 intro ao s Z H Q I h;exact Subscript_ (BZ ha hb I h λv u s2 x y H2 I2 rx ry q=>hr a b ao s2 Z H2 x y v u Q I2 rx ry q (hs _ _))
noncomputable def Jm(K:W.Frag):R2:=λx y H Q=>∃p xs i v,x=.ref p/\y=.int i/\cV K H p xs/\n8 xs i=some v/\Q v H
noncomputable def Jo(K:W.Frag):R2:=λx y H Q=>∃p xs i v,x=.ref p/\y=.int i/\gR K H p xs/\n8 xs i=some v/\Q v H
noncomputable def Jp:R2:=λx y H Q=>∃z i c,x=.str z/\y=.int i/\z.length<=sizeLine/\n8 z.cps.toList i=some c/\Q (.str ⟨#[c]⟩) H
theorem yr:yq X (Jm X.K):=by
 intro value slice ao s Z H x y v u Q I rx ry h hs;obtain⟨p,xs,i,z,rfl,rfl,hq,he,q⟩:=h;cases rx;obtain⟨t,rfl⟩:=ry;obtain⟨its,r,pl,hz⟩:=I.list hq;obtain⟨j,h1,h2,h3,h4,h5⟩:=R3 he;obtain⟨w,ew,lE⟩:=r.get h2;have hl:=r.length;have hn:=jd;have fin:EP X ao Z Q w s:=⟨z,H,I,lE,q⟩;by_cases h0:0<=i
 ·have hj:i.toNat=j:=by
   rw[seqIndex_of h0 h5] at h1;exact cI h1
  exact item_listR pl.isList h0 gV (by rw[hj];simpa using ew) fin hs
 ·have hj:(i+(its.toArray.size:Int)).toNat=j:=by
   rw[seqIndex_neg gV h4] at h1;rw[fW,<-hl];exact cI h1
  exact subscriptTail_builtinR (x:=w) pl.isList.typeIs slot_list_getitem.lookup
   (wpAny_getItem_list_neg (Q:=λr s'=>r=w/\EP X ao Z Q r s') pl.isList gV (by rw[fW]<;>lia) gV (by rw[hj];simpa using ew) ⟨rfl,fin⟩) hs
theorem Cj:yq X (Jo X.K):=by
 intro value slice ao s Z H x y v u Q I rx ry h hs;obtain⟨p,xs,i,z,rfl,rfl,hq,he,q⟩:=h;cases rx;obtain⟨t,rfl⟩:=ry;obtain⟨its,r,pl,hz⟩:=I.tuple hq;obtain⟨j,h1,h2,h3,h4,h5⟩:=R3 he;obtain⟨w,ew,lE⟩:=r.get h2;have hl:=r.length;have hn:=jd;have fin:EP X ao Z Q w s:=⟨z,H,I,lE,q⟩;exact subscriptTail_builtinR (x:=w) pl.typeIs slot_tuple_getitem.lookup
  (getItem_tuple (j:=j) (Q:=λr s'=>r=w/\EP X ao Z Q r s') pl gV gV (by rw[fW,<-hl];exact h1) (by simpa using ew) ⟨rfl,fin⟩) hs
theorem zl4:yq X Jp:=by
 intro value slice ao s Z H x y v u Q I rx ry h hs;obtain⟨z,i,c,rfl,rfl,hz,he,q⟩:=h;obtain⟨t,rfl⟩:=rx;obtain⟨t',rfl⟩:=ry;obtain⟨j,h1,h2,h3,h4,h5⟩:=R3 he;have hl:z.cps.toList.length=z.length:=by simp[Str.length]
 rw[hl] at h1 h4 h5;have hn:=jd;exact tail_any (typeIs_str s z t) slot_str_getitem.lookup (getItem_str (c:=c) (by
  have e1:decide (i < -(2^63:Int))=false:=mz gV;have e2:decide (i>=2^63)=false:=mz gV;rw[e1,e2,Bool.or_false]) (by rw[h1];simpa using h2) ⟨.str ⟨#[c]⟩,H,I.tok _,⟨_,rfl⟩,q⟩) hs
noncomputable def R4(K:W.Frag):R2:=λx y H Q=>Jm K x y H Q\/Jo K x y H Q\/Jp x y H Q
theorem zky:yq X (R4 X.K):=yr.or (Cj.or zl4)
theorem zfj(its:List Value)(n j:Nat)(u:Value):Obj.mapSeq (·.setIfInBounds j u) {cls:=.type "list",data:=.seq its.toArray n}={cls:=.type "list",data:=.seq (its.set j u).toArray n}:=by
 simp[Obj.mapSeq]
theorem Inv.lst{ao:List (Addr×Obj)}{Z:St}{H:Hp}{s:Shared}{p:Addr}{xs:List V}(I:Inv X ao Z H s)(h:H p=some (.lst xs)) :
  ∃(its:List Value) (n:Nat),Vals xs its/\s.heap.get? p=some {cls:=.type "list",data:=.seq its.toArray n}/\xs.length<=sizeLine:=by
 obtain⟨z,its,n,r,e⟩:=I.hok p _ h;exact⟨its,n,r,e,z⟩
theorem Inv.Cm{ao:List (Addr×Obj)}{Z:St}{H:Hp}{s:Shared}{p:Addr}{xs ys:List V}{its its':List Value}{n n':Nat}{f:Obj->Obj}(I:Inv X ao Z H s)(h:H p=some (.lst xs))
  (ho:s.heap.get? p=some {cls:=.type "list",data:=.seq its.toArray n}) (hf:f {cls:=.type "list",data:=.seq its.toArray n}={cls:=.type "list",data:=.seq its'.toArray n'}) (r:Vals ys its') (hz:ys.length<=sizeLine) (t:Nat) :
  Inv X ao Z (upd H p (.lst ys)) {s with heap:=s.heap.update p f,toks:=t}:=by
 have e:(s.heap.update p f).get? p=some {cls:=.type "list",data:=.seq its'.toArray n'}:=by
  rw[A_ f ho (by rw[hf]<;>rfl),hf]
 refine I.write (x:=p) (e:=p) (by rw[h];trivial) (.inl rfl) (λb u hb q=>(xr _ _ (Ne.symm hb)).trans q) ⟨_,e⟩ ?_;exact⟨hz,its',n',r,e⟩
noncomputable def Jq:V->V->V->Hp->(Hp->Prop)->Prop:=λo i v H Q=>∃p xs k j,o=.ref p/\i=.int k/\H p=some (.lst xs)/\pF xs.length k=some j/\Q (upd H p (.lst (xs.set j v)))
theorem zg3:Iv X Jq:=by
 intro ao s Z H o i v ov iv u Q I ro ri rv h;obtain⟨p,xs,k,j,rfl,rfl,hp,hj,q⟩:=h;cases ro;obtain⟨t,rfl⟩:=ri;obtain⟨its,n,r,ho,hz⟩:=I.lst hp;obtain⟨h1,h2,h3,h4⟩:=YW hj;have hl:=r.length;have hn:=jd;have I':Inv X ao Z (upd H p (.lst (xs.set j v))) {s with heap:=s.heap.update p (Obj.mapSeq (·.setIfInBounds j u))}:=
  I.Cm hp ho (zfj its n j u) (r.set rv j) (by rw[pP];exact hz) s.toks
 by_cases h0:0<=k
 ·have hk:k.toNat=j:=by
   rw[seqIndex_of h0 h4] at h1;exact cI h1
  exact PySem.W.ki_setAt ho h0 gV (by rw[fW,<-hl];exact h4) (by rw[hk];exact⟨_,I',q⟩)
 ·have hk:(k+(its.toArray.size:Int)).toNat=j:=by
   rw[seqIndex_neg gV h3] at h1;rw[fW,<-hl];exact cI h1
  exact PySem.W.ki_setBack ho gV (by rw[fW,<-hl];exact h3) gV (by rw[hk];exact⟨_,I',q⟩)
theorem zdq(lo hi:Option Int)(n:Nat):(sliceBounds lo hi none n).1=((HT.bW n 0 lo:Nat):Int)/\(sliceBounds lo hi none n).2.1=((HT.bW n n hi:Nat):Int)/\(sliceBounds lo hi none n).2.2=1:=by
 refine⟨?_,?_,rfl⟩
 ·cases lo with
  |none=>simp[sliceBounds,HT.bW]
  |some i=>
   simp only[sliceBounds,HT.bW,Option.getD_none,show (1:Int)>0 by decide,if_true];by_cases h:i<0
   ·simp only[h,if_true]<;>lia
   ·simp only[h,nO]<;>lia
 ·cases hi with
  |none=>simp[sliceBounds,HT.bW]
  |some i=>
   simp only[sliceBounds,HT.bW,Option.getD_none,show (1:Int)>0 by decide,if_true];by_cases h:i<0
   ·simp only[h,if_true]<;>lia
   ·simp only[h,nO]<;>lia
theorem zcN(its:List Value)(lo hi:Option Int):slicePick its.toArray lo hi none=((its.drop (HT.bW its.length 0 lo)).take (HT.bW its.length its.length hi-HT.bW its.length 0 lo)).toArray:=by
 obtain⟨h1,h2,h3⟩:=zdq lo hi its.toArray.size;unfold slicePick;rw[h1,h2,h3];simp only[sliceRange_one,pick_run,fW]<;>rfl
noncomputable def Jr(K:W.Frag):V->Option Int->Option Int->Hp->VK->Prop:=λx lo hi H Q=>∃a xs,x=.ref a/\cV K H a xs/\∀p,H p=none->Q (.ref p) (upd H p (.lst (mO xs lo hi)))
theorem yt:yp X (Jr X.K):=by
 intro ao s Z H x v vl vu lo hi sl Q I rx hs pl pu h;obtain⟨a,xs,rfl,hx,q⟩:=h;cases rx;obtain⟨its,r,ht,hz⟩:=I.list hx;have hlen:=r.length;refine⟨"list",_,slot_list_getitem.lookup,ht.isList.typeIs,?_⟩;refine wpAny_getItem_list_slice ht.isList hs pl pu .none Zaa ?_ (by rw[fW]<;>lia);rw[zcN,<-hlen];refine⟨.ref s.heap.objs.size,_,I.laid (t':=s.toks) (o:=.lst (mO xs lo hi)) (λb ob q=>cj _ q) (bQ _) ?_,rfl,q _ (I.hok.fresh (bQ _))⟩;exact⟨jW (YT xs lo hi) hz,_,0,(r.drop (HT.bW xs.length 0 lo)).take (HT.bW xs.length xs.length hi-HT.bW xs.length 0 lo),eN _ rfl⟩
theorem zcY:cW X (.builtin "len") (λxs H Q=>∃p ys,xs=[.ref p]/\(cV X.K H p ys\/gR X.K H p ys)/\Q (.int ys.length) H):=by
 intro ao s Z H xs us Q I r h;obtain⟨p,ys,rfl,hq,q⟩:=h;obtain⟨u,rfl,rx⟩:=vals1 r;cases rx;have hn:=jd;rcases hq with hq|hq
 ·obtain⟨its,r',pl,hz⟩:=I.list hq;have hlen:=r'.length;exact Calls.call_len_list pl.isList (by simp only[fW]<;>lia) ⟨.int ys.length,H,I.tok _,⟨s.toks+1,by rw[fW,hlen]⟩,q⟩
 ·obtain⟨its,r',pl,hz⟩:=I.tuple hq;have hlen:=r'.length;exact len_tuple pl (by simp only[fW]<;>lia) ⟨.int ys.length,H,I.tok _,⟨s.toks+1,by rw[fW,hlen]⟩,q⟩
theorem zc2:cW X (.type "list") (λxs H Q=>∃p ys,xs=[.ref p]/\(cV X.K H p ys\/gR X.K H p ys)/\∀l,H l=none->Q (.ref l) (upd H l (.lst ys))):=by
 intro ao s Z H xs us Q I r h;obtain⟨p,ys,rfl,hq,q⟩:=h;obtain⟨u,rfl,rx⟩:=vals1 r;cases rx;have fin:∀(its:List Value),Vals ys its->ys.length<=sizeLine->∀(h':Heap) (c':Nat),(∀b o',s.heap.get? b=some o'->h'.get? b=some o')->
   h'.get? s.heap.objs.size=some {cls:=.type "list",dict:=none,data:=.seq its.toArray c',slots:=#[]}->EP X ao Z Q (.ref s.heap.objs.size) {s with heap:=h'}:=λits r' hz h' c' kp e=>
  ⟨.ref s.heap.objs.size,_,I.laid (t':=s.toks) kp (bQ _) (show bF X.prog X.w _ h' _ (.lst ys) from ⟨hz,its,c',r',e⟩),rfl,q _ (I.hok.fresh (bQ _))⟩
 rcases hq with hq|hq
 ·obtain⟨its,r',pl,hz⟩:=I.list hq;have hlen:=r'.length;obtain⟨o,ho,hc,n,hd⟩:=pl.isList;exact call_list_seq p (.inl rfl) ho hc hd (λh' c' kp e=>fin its r' hz h' c' kp e) (by simp only[fW]<;>lia)
 ·obtain⟨its,r',pl,hz⟩:=I.tuple hq;have hlen:=r'.length;obtain⟨o,ho,hc,n,hd⟩:=pl;exact call_list_seq p (.inr rfl) ho hc hd (λh' c' kp e=>fin its r' hz h' c' kp e) (by simp only[fW]<;>lia)
theorem zcS:cW X (.type "tuple") (λxs H Q=>∃p ys,xs=[.ref p]/\((cV X.K H p ys/\∀l,H l=none->Q (.ref l) (upd H l (.tup ys)))\/(gR X.K H p ys/\Q (.ref p) H))):=by
 intro ao s Z H xs us Q I r h;obtain⟨p,ys,rfl,h⟩:=h;obtain⟨u,rfl,rx⟩:=vals1 r;cases rx;rcases h with ⟨hq,q⟩|⟨hq,q⟩
 ·obtain⟨its,r',pl,hz⟩:=I.list hq;have hlen:=r'.length;refine call_tuple_list pl.isList (λh' kp=>?_) (by simp only[fW]<;>lia);have I1:Inv X ao Z H {s with heap:=h'}:=I.kept (t':=s.toks) kp;have I2:Inv X ao Z (upd H h'.objs.size (.tup ys)) {s with heap:=h'.push {cls:=.type "tuple",data:=.seq its.toArray}}:=
   I1.laid (t':=s.toks) (λb o e=>cj _ e) (bQ _) (show bF X.prog X.w _ _ _ (.tup ys) from ⟨hz,its,r',IsTup.new _ _⟩)
  exact⟨.ref h'.objs.size,_,I2,rfl,q _ (I1.hok.fresh (bQ _))⟩
 ·obtain⟨its,r',pl,hz⟩:=I.tuple hq;exact call_tuple_same pl ⟨.ref p,H,I,rfl,q⟩
def YX(K:W.Frag)(T:String)(x:V)(H:Hp):Prop:=match x with
 |.str _=>T="str"
 |.int _=>T="int"
 |.ref p=>(T="list"/\∃xs,cV K H p xs)\/(T="tuple"/\∃o,K.lookup p=some o/\o.cls=.type "tuple"/\o.dict=none) \/
   (T="dict"/\((∃kvs,H p=some (.dK kvs))\/∃kvs,H p=some (.dT kvs)))\/(T="set"/\∃S n,H p=some (.set S n))
 |_=>False
theorem zmB{ao:List (Addr×Obj)}{Z:St}{H:Hp}{s:Shared}{T:String}{x:V}{v:Value}(I:Inv X ao Z H s)(r:RelV x v)(ty:YX X.K T x H) :
  s.TypeIs v T/\∀a,v=.ref a->∃ob,s.heap.get? a=some ob/\ob.dict=none:=by
 cases x with
 |str z=>
  obtain⟨t,rfl⟩:=r;cases (show T="str" from ty);exact⟨typeIs_str s z t,λ_ e=>nomatch e⟩
 |int i=>
  obtain⟨t,rfl⟩:=r;cases (show T="int" from ty);exact⟨typeIs_int s i t,λ_ e=>nomatch e⟩
 |ref p=>
  cases r;rcases ty with ⟨rfl,xs,hq⟩|⟨rfl,o,hk,hc,hd⟩|⟨rfl,hk⟩|⟨rfl,S,n,hk⟩
  ·obtain⟨its,_,pl,_⟩:=I.list hq;refine⟨pl.isList.typeIs,λa e=>?_⟩;cases e;obtain⟨o,n,e,c,hd,_⟩:=pl;exact⟨o,e,hd⟩
  ·refine⟨⟨o,I.lO p o hk,hc⟩,λa e=>?_⟩;cases e;exact⟨o,I.lO _ o hk,hd⟩
  ·have z:∃o,s.heap.get? p=some o/\o.ExactDict:=by
    rcases hk with ⟨kvs,hk⟩|⟨kvs,hk⟩
    ·obtain⟨_,_,_,_,o,_,_,e,ex,_⟩:=I.hok p _ hk;exact⟨o,e,ex⟩
    ·obtain⟨_,_,_,_,o,_,_,e,ex,_⟩:=I.hok p _ hk;exact⟨o,e,ex⟩
   obtain⟨o,e,ex⟩:=z;refine⟨⟨o,e,ex.1⟩,λa e2=>?_⟩;cases e2;exact⟨o,e,ex.2.1⟩
  ·obtain⟨o,_,_,_,e,ex,_⟩:=I.hok p _ hk;refine⟨⟨o,e,ex.1⟩,λa e2=>?_⟩;cases e2;exact⟨o,e,ex.2.1⟩
 |_=>exact False.elim ty
noncomputable def tBM(K:W.Frag)(T:String)(r:V->List V->Hp->VK->Prop)(to:TE)(t:TA):TE:=λZ H Q=>to Z H λx H1=>YX K T x H1/\t Z H1 λxs H2=>r x xs H2 Q
variable {o e:Expr}{es:List Expr}{to:TE}{t:TA}{name:Str}{apos cpos:Pos}{T id:String}{r:V->List V->Hp->VK->Prop}
theorem zm0(pa:PlainAttrs T)(slot:Slot T name id)(hty:typeOf (.builtin id)=pure (.type "method_descriptor"))(hm:MtR X id r)(ho:PE X o to)(ha:PA X (e::es) t)
  (n_:attributeBase o name X.env (eval o X.env)=eval o X.env:=by rfl)
  (Cp:((backTo cpos (starEach (e::es) X.env)).all (λx=>!x.1)&&(backToKw cpos (keywordEach [] X.env)).all (λx=>x.1.isSome)
  &&decide ((e::es).length+([]:List Keyword).length+(if ([]:List Keyword).isEmpty then 0 else 1)<30))=true:=by rfl)
  (oh:(apos.endLine==cpos.line)=true:=by rfl) (hs:starEach (e::es) X.env=(false,eval e X.env)::starEach es X.env:=by rfl) (p8:(backTo cpos (starEach es X.env)).any (·.1)=false:=by rfl) :
  PE X (.Call (.Attribute o name apos) (e::es) [] cpos) (tBM X.K T r to t):=by
 intro ao s Z H Q I h;refine wpAny_Call_method_late n_ Cp oh rfl (aW (ho ao s Z H _ I h) λv s1 ⟨x,H1,I1,r1,ty,q1⟩=>?_);obtain⟨h1,h2⟩:=zmB I1 r1 ty;refine⟨T,id,pa,slot,hty,h1,h2,?_⟩;have hA:=ha cpos ao s1 Z H1 _ I1 q1;rw[hs] at hA ⊢;refine Calls.callWith_builtin (by show (false||(backTo cpos (starEach es X.env)).any (·.1))=false;rw[p8]<;>rfl) (Calls.evalArgs_plain ?_);exact aW hA λus s2 hx=>fu hx λvs H2 I2 r2 q2=>hm ao s2 Z H2 x vs v us Q I2 r1 r2 q2
end
def MtM(X:Cx)(id:String)(r:V->List V->Hp->VK->Prop):Prop:=
 ∀(ao:List (Addr×Obj)) (s:Shared) (Z:St) (H:Hp) (x:V) (xs:List V) (v:Value) (us:List Value) (Q:VK),Inv X ao Z H s->RelV x v->Vals xs us->r x xs H Q->
  wpAny (model X.prog X.w) X.A (call (.builtin id) (v::us)) (EP X ao Z Q) X.xe s
theorem Vals.one{x:V}{us:List Value}(h:Vals [x] us):∃u,us=[u]/\RelV x u:=by
 cases h with
 |cons r t=>cases t;exact⟨_,rfl,r⟩
theorem Vals.two{x y:V}{us:List Value}(h:Vals [x,y] us):∃u v,us=[u,v]/\RelV x u/\RelV y v:=by
 cases h with
 |cons r t=>
  obtain⟨v,rfl,q⟩:=Vals.one t;exact⟨_,_,rfl,r,q⟩
section
variable {X:Cx}{ao:List (Addr×Obj)}{Z:St}{H:Hp}{s:Shared}{l b:Addr}{xs ys zs:List V}
theorem Inv.R5{its its':List Value}{n:Nat}{f:Array Value->Array Value}{t':Nat}(I:Inv X ao Z H s)(hH:H l=some (.lst xs))
  (e:s.heap.get? l=some {cls:=.type "list",data:=.seq its.toArray n}) (hf:f its.toArray=its'.toArray) (hv:Vals ys its') (hz:ys.length<=sizeLine) :
  Inv X ao Z (upd H l (.lst ys)) {s with heap:=s.heap.update l (Obj.mapSeq f),toks:=t'}:=by
 have q:=PySem.IsL.update e f;rw[hf] at q;refine I.write (x:=l) (e:=l) (by rw[hH];exact trivial) (.inl rfl) (λb' u hb hu=>(xr s.heap (Obj.mapSeq f) (Ne.symm hb)).trans hu) ⟨_,q⟩ ?_;exact⟨hz,its',_,hv,q⟩
theorem Inv.R6{its:List Value}{t':Nat}(I:Inv X ao Z H s)(hv:Vals ys its)(hz:ys.length<=sizeLine) :
  Inv X ao Z (upd H s.heap.objs.size (.lst ys)) {s with heap:=s.heap.push {cls:=.type "list",data:=.seq its.toArray},toks:=t'}:=
 I.laid (λ_ _ q=>cj _ q) (bQ _) ⟨hz,its,0,hv,eN _ rfl⟩
theorem Inv.fresh(I:Inv X ao Z H s):H s.heap.objs.size=none:=I.hok.fresh (bQ _)
theorem Inv.R7(I:Inv X ao Z H s)(hH:H l=some (.lst xs)):xs.length<=sizeLine/\∃(its:List Value) (n:Nat),Vals xs its/\xs.length=its.length/\s.heap.get? l=some {cls:=.type "list",data:=.seq its.toArray n}:=by
 obtain⟨z,its,n,r,e⟩:=I.hok l _ hH;exact⟨z,its,n,r,r.length,e⟩
end
section
variable {X:Cx}
noncomputable def yu:V->List V->Hp->VK->Prop:=λx vs H Q=>∃l xs y,x=.ref l/\vs=[y]/\H l=some (.lst xs)/\xs.length<sizeLine/\Q .non (upd H l (.lst (xs++[y])))
theorem R8:MtM X "list.append" yu:=by
 intro ao s Z H x vs v us Q I rx rv h;obtain⟨l,xs,y,rfl,rfl,hH,hz,q⟩:=h;cases rx;obtain⟨u,rfl,ru⟩:=rv.one;obtain⟨z,its,n,r,hl,e⟩:=I.R7 hH;refine call_meets F.slot_list_append ⟨_,e,rfl⟩ F.entry_list_append (F.args_list_append_2 _ _) (PySem.list_append l its.toArray n u (by rw[fW];lia)) ⟨e,?_⟩;refine⟨.non,_,I.R5 (its':=its++[u]) hH e Zaa (r.append (.cons ru .nil)) ?_,rfl,q⟩;rw[mj,List.length_singleton]
 lia
end
section
variable {prog:Program}{w:World}{A:Around}{E:Value->Shared->Prop}{s:Shared}
set_option maxRecDepth 100000 in
end
end L2
namespace YZ
open PySem PySem.W PySem.Calls PyProof.Rows
theorem zbW{P:Params}{h:Heap}:∀(ns:List Int) (vs:List Value),WellAll P h vs (ns.map WData.int)->IntsAre vs ns:=by
 intro ns
 induction ns with
 |nil=>
  intro vs w;rw[List.map_nil] at w;cases w;exact .nil
 |cons n ns ih=>
  intro vs w;rw[jV] at w;cases w with
  |cons a b=>
   cases a;exact .cons _ _ (ih _ b)
theorem zgI{l:OpenLaw}{n:Nat}(hn:l.most=some n){P:Params}{h:Heap}{args:List WData}{vals:List Value}
  (hpre:l.row.toRowW.claim.pre args=true) (R9:WellAll P h vals args) :
  ∃a vs ns,vals=[Value.ref a]/\args=[WData.list (ns.map WData.int)]/\h.get? a=some {cls:=.type "list",data:=.seq vs.toArray}/\IntsAre vs ns/\ns.length<=n:=by
 have zT:WShape.hasAll [] args [.list .int]=true:=(pre_splitW hpre).1;have hc:l.pre.holds [] {args:=args}=true:=(pre_splitW hpre).2;obtain⟨d,r,rfl,h1,h2⟩:=hasAllW_cons zT;obtain rfl:=hasAllW_nil h2;obtain⟨xs,rfl,h3⟩:=hasW_list h1;obtain⟨ns,rfl⟩:=items_int h3;have hlen:ns.length<=n:=by
  unfold OpenLaw.pre at hc;have h4:(WTm.not (.lt (.lit (.int (n:Int))) (.len (.arg 0)))).holds [] {args:=[.list (ns.map .int)]}=true:=by
   have h4:=(holds_andW hc).1;rw[hn] at h4;exact h4
  have h5:=condW_of h4 (w_not (w_lt w_lit (w_len_list (w_arg rfl))));rw[cR] at h5;refine M8 λq=>?_;have q':(n:Int)<((ns.length:Nat):Int):=by lia
  first
   |(rw[gH q'] at h5;exact absurd h5 Tc)
   |(simp at h5;lia)
 cases R9 with
 |cons w1 w2=>
  cases w2;cases w1 with
  |list ho qb=>exact⟨_,_,ns,rfl,rfl,ho,zbW ns _ qb,hlen⟩
theorem zfJ(l:OpenLaw)(args:List WData):l.row.toRowW.claim.post args (.bool true) args=true:=
 postW_of (r:=l.row.toRowW) (X:=(true==true))
  (show WShape.has [] (.bool true) .bool=true by first|rfl|decide|simp[WShape.has,WShape.arms,WShape.armsAll])
  (show (WTm.eq .res (.lit (.bool true))).value [] {args:=args,res:=some (.bool true),after:=args}=some (.bool (true==true)) from w_eq_bool (w_res rfl) w_lit) rfl
theorem ou{l:OpenLaw}{n:Nat}{q:Program}{loose:List Str}{XP:(Str->Option Value)->Heap->Prop}{YP:World->Heap->Prop}{d:DefRec}
  (hn:l.most=some n) (R_:d.params.defaults=[])
  (call:∀(w:World) (s₀ s₁:Shared) (mg mb:Str->Option Value) (fa:Addr) (o:Obj) (pm cd doc:Value) (a:Addr) (vs:List Value) (ns:List Int),
   Ground q loose [] XP w s₀ mg mb s₁.heap->YP w s₁.heap->
   s₁.heap.get? fa=some o->o.data=.func (docDef d.name d.params d.body d.scope pm cd doc)->s₁.heap.CodeRec cd d.name->mg d.name=some (.ref fa)->
   s₁.heap.get? a=some {cls:=.type "list",data:=.seq vs.toArray}->IntsAre vs ns->ns.length<=n->s₁.gens=#[]->
   codeAny (model l.prog w) callerA (.call (.ref fa) ⟨[.ref a],[]⟩) (λr s'=>r=.ok (.ret (.bool true))/\OldK s₁.heap s'.heap/\s'.os=s₁.os/\AllBare s'.gens) s₁) :
  WalkO q loose XP YP l.row.toRowW d [] (λf vs=>PySem.call f vs):=by
 intro w s₀ s₁ mg mb G Y fa o pm cd doc dV kV ho hd iK hD hmg hg args vals as hpre aac hrd R9 hlo;obtain rfl:dV=.none:=Dflts.none hD R_;obtain rfl:kV=.none:=Dflts.noKw hD;obtain⟨a,vs,ns,rfl,rfl,Cq,hints,hlen⟩:=zgI hn hpre R9;refine enter_call (zF (call w s₀ s₁ mg mb fa o pm cd doc a vs ns G Y ho (fd_plain hd) iK hmg Cq hints hlen hg) λr s' hq=>?_);obtain⟨rfl,h2,h3,h4⟩:=hq;exact⟨.inl ⟨.bool true,.bool true,[],rfl,λ_=>rfl,.bool true,zfJ l _,λ_=>⟨List.Pairwise.nil,λ_ hm=>(nomatch hm)⟩⟩,h2,h3,h4⟩
end YZ
namespace L2
open PySem PySem.Spec PyProof.Rows
theorem Y0:∀{vs:List Value} {ns:List Int},IntsAre vs ns->Vals (ns.map V.int) vs
 |_,_,.nil=>.nil
 |_,_,.cons n t h=>.cons ⟨t,rfl⟩ (Y0 h)
def Sd(h0:Heap)(H:Hp)(h:Heap)(e:Addr)(hd:Value):Prop:=
 hd=.none\/∃T oT ts,hd=.ref T/\h0.get? T=none/\H T=none/\T≠e/\h.get? T=some oT/\oT.data=.fields ts/\ts[3]?=some .none
structure Exc(h0:Heap)(H:Hp)(h:Heap)(e C:Addr)(dx:Option Addr):Prop where
 new:h0.get? e=none
 un:H e=none
 ob:∃oe vs hd,h.get? e=some oe/\oe.cls=.ref C/\oe.dict=dx/\oe.data=.fields vs/\vs[1]?=some hd/\Sd h0 H h e hd
structure Sg(h0:Heap)(H:Hp)(fr:List Addr)(h h':Heap)(ch:List Addr):Prop where
 rec_:∀b∈ch,h0.get? b=none/\H b=none/\∃o vs,h.get? b=some o/\o.data=.fields vs
 keep:∀b o,h.get? b=some o->b∉fr->b∉ch->h'.get? b=some o
 slot:∀b o,h.get? b=some o->b∈fr->∃sl,h'.get? b=some {o with slots:=sl}
 there:∀b o,h.get? b=some o->∃o',h'.get? b=some o'
noncomputable def uH(head:Value)(L:Addr)(pl:List Value):Obj:=
 {cls:=.type "traceback",dict:=none,data:=.fields ([head,.ref L,.none,rawInt L,.none]++(if pl.isEmpty then List.replicate 6 Value.none else pl)).toArray}
theorem Y4(o:Obj)(f:Array Value->Array Value):(o.mapFields f).dict=o.dict:=by
 obtain⟨c,d,dt,sl⟩:=o;cases dt<;>rfl
theorem Y5(o:Obj)(f:Array Value->Array Value):(o.mapFields f).cls=o.cls:=by
 obtain⟨c,d,dt,sl⟩:=o;cases dt<;>rfl
section
variable {M:Model}{A:Around}{E:Value->Shared->Prop}{s:Shared}{base h0:Heap}{env:Env}{outer:List Env}{L e C:Addr}{dx:Option Addr}{H:Hp}{Q:Unit->Shared->Prop}
theorem Y6(qY:A.frames=some (env::outer))(hl:s.heap.FunFrames base (env::outer))(hf:env.frame=some L)
  (he:s.heap.get? e=some oe) (hd:oe.data=.fields vs) (hsz:1<vs.size)
  (k:∀h' T oT ts,s.heap.objs.size<=T->(∀b o,s.heap.get? b=some o->b∉frs (env::outer)->b≠e->h'.get? b=some o)->(∀b o,s.heap.get? b=some o->b∈frs (env::outer)->∃sl,h'.get? b=some {o with slots:=sl})->
   h'.get? e=some (oe.mapFields (·.setIfInBounds 1 (.ref T)))->h'.get? T=some oT->oT.data=.fields ts->3<ts.size->ts[3]?=some (rawInt L)->Q () {s with heap:=h'}) :
  wpAny M A (do let a <-frameOf env;let pl <-entryPlaceOf L hn;let b <-EntryCells.newEntry head a .none (rawInt L) .none pl;setField (.ref e) 1 b) Q E s:=by
 have Js:e∉frs (env::outer):=λhm=>by
  obtain⟨_,o,ho,hx⟩:=hl.mem hm;rw[he] at ho;cases ho;exact hx vs hd
 refine aB (wpAny_frameOf_fun qY hl hf λh₁ sl₁=>?_);refine aB (wpAny_entryPlaceOf λpl cT=>?_);unfold EntryCells.newEntry newFields;refine aB (tU ?_ (cT.sizeOk5 _ _ _ _ _));have e1:h₁.get? e=some oe:=(sl₁.2.1 e Js).trans he;have e2:(h₁.push (uH head L pl)).get? e=some oe:=cj _ e1;refine Hz e2 hd hsz ?_;have ne:h₁.objs.size≠e:=pR (bO e1);have d3:=zy hd (·.setIfInBounds 1 (Value.ref h₁.objs.size));have kp:∀b o,h₁.get? b=some o->b≠e->((h₁.push (uH head L pl)).update e (Obj.mapFields (·.setIfInBounds 1 (Value.ref h₁.objs.size)))).get? b=some o:=λb o q n=>by
  rw[xr _ _ n.symm];exact cj _ q
 refine k _ h₁.objs.size (uH head L pl) _ (by rw[sl₁.1];exact bQ _) (λb o q n1 n2=>kp b o ((sl₁.2.1 b n1).trans q) n2) (λb o q m=>?_) (A_ _ e2 (MK d3)) ?_ rfl ?_ ?_
 ·obtain⟨sl,z⟩:=sl₁.2.2 b o q;exact⟨sl,kp b _ z λy=>Js (y▸m)⟩
 ·rw[xr _ _ ne.symm];exact eN _ rfl
 ·simp only[fW,mj,h_,Bk]<;>lia
 ·first
   |(simp;done)
   |(rcases cT with rfl|⟨_,_,_,_,_,_,_,rfl⟩<;>simp)
theorem zhV(qY:A.frames=some (env::outer))(hl:s.heap.FunFrames base (env::outer))(hf:env.frame=some L)(x:Exc h0 H s.heap e C dx)
  (k:∀h' T oT oe ts vs ch,Sg h0 H (frs (env::outer)) s.heap h' ch->s.heap.objs.size<=T->h'.get? e=some oe->oe.cls=.ref C->oe.dict=dx->oe.data=.fields vs->vs[1]?=some (.ref T)->h'.get? T=some oT->oT.data=.fields ts->
   3<ts.size->ts[3]?=some (rawInt L)->Q () {s with heap:=h'}):wpAny M A (noteFrame (.ref e) env) Q E s:=by
 obtain⟨oe,vs,hd,he,hc,N7,wG,h1,tb⟩:=x.ob;have hsz:1<vs.size:=(Array.getElem?_eq_some_iff.mp h1).1;have Js:∀b o ws,s.heap.get? b=some o->o.data=.fields ws->b∉frs (env::outer):=λb o ws q d hm=>by
  obtain⟨_,o',ho,hx⟩:=hl.mem hm;rw[q] at ho;cases ho;exact hx ws d
 unfold noteFrame;simp only[hf];refine aB (mF he wG h1 ?_);rcases tb with rfl|⟨T,oT,ts,rfl,nT,uT,neT,gT,dT,h3⟩
 ·rw[if_neg Tc];refine Y6 qY hl hf he wG hsz λh' T oT ts lt kp sl ge gT dT z3 z4=>?_;refine k h' T oT _ ts _ [e] ⟨λb hb=>?_,λb o q n1 n2=>kp b o q n1 λz=>n2 (by rw[z];exact .head _),sl,λb o q=>?_⟩ lt ge ((Y5 _ _).trans hc) ((Y4 _ _).trans N7) (zy wG _) (by simp[hsz]) gT dT z3 z4
  ·obtain rfl:b=e:=by simpa using hb
   exact⟨x.new,x.un,oe,vs,he,wG⟩
  ·by_cases z:b=e
   ·subst z;exact⟨_,ge⟩
   ·by_cases m:b∈frs (env::outer)
    ·obtain⟨w,q'⟩:=sl b o q m;exact⟨_,q'⟩
    ·exact⟨o,kp b o q m z⟩
 ·rw[if_pos (show (Value.ref T != Value.none)=true from by simp)];refine aB (mF gT dT h3 ?_);rw[if_neg (show ¬((Value.none==rawInt L)=true) from by simp[rawInt])];have z3:3<ts.size:=(Array.getElem?_eq_some_iff.mp h3).1;refine aB (Hz gT dT z3 ?_);have oth:∀b,b≠T->(s.heap.update T (Obj.mapFields (·.setIfInBounds 3 Value.none))).get? b=s.heap.get? b:=λb n=>xr _ _ n.symm;have hl':(s.heap.update T (Obj.mapFields (·.setIfInBounds 3 Value.none))).FunFrames base (env::outer):=hl.of_keeps λb o q nd=>⟨o,(oth b λz=>by subst z;rw[gT] at q;cases q;exact nd ts dT).trans q,rfl⟩;have sT:(s.heap.update T (Obj.mapFields (·.setIfInBounds 3 Value.none))).get? T=some (oT.mapFields (·.setIfInBounds 3 Value.none)):=A_ _ gT (MK (zy dT _));refine Y6 qY hl' hf ((oth e neT.symm).trans he) wG hsz λh' T' oT' ts' lt kp sl ge gT' dT' z3' z4'=>?_;have lt':s.heap.objs.size<=T':=by
   have:=lt;simp only[Heap.size_after_update] at this;exact this
  refine k h' T' oT' _ ts' _ [e,T] ⟨λb hb=>?_,λb o q n1 n2=>kp b o ((oth b λz=>n2 (by simp[z])).trans q) n1 λz=>n2 (by simp[z]),λb o q m=>?_,λb o q=>?_⟩ lt' ge ((Y5 _ _).trans hc) ((Y4 _ _).trans N7) (zy wG _) (by simp[hsz]) gT' dT' z3' z4'
  ·have hb':b=e\/b=T:=by simpa using hb
   rcases hb' with rfl|rfl
   ·exact⟨x.new,x.un,oe,vs,he,wG⟩
   ·exact⟨nT,uT,oT,ts,gT,dT⟩
  ·exact sl b o ((oth b λz=>by subst z;exact Js b o ts q (by rw[gT] at q;cases q;exact dT) m).trans q) m
  ·by_cases z:b=e
   ·subst z;exact⟨_,ge⟩
   ·by_cases y:b=T
    ·subst y;exact⟨_,kp b _ sT (Js b oT ts gT dT) z⟩
    ·by_cases m:b∈frs (env::outer)
     ·obtain⟨w,q'⟩:=sl b o ((oth b y).trans q) m;exact⟨_,q'⟩
     ·exact⟨o,kp b o ((oth b y).trans q) m z⟩
theorem zhb(he:s.heap.get? e=some oe)(hd:oe.data=.fields vs)(h1:vs[1]?=some (.ref T))(gT:s.heap.get? T=some oT)(dT:oT.data=.fields ts)(z3:3<ts.size)
  (k:∀h',(∀b o,b≠T->s.heap.get? b=some o->h'.get? b=some o)->h'.get? T=some (oT.mapFields (·.setIfInBounds 3 Value.none))->Q () {s with heap:=h'}):wpAny M A (setFlight (.ref e) none) Q E s:=by
 unfold setFlight;refine aB (mF he hd h1 ?_);rw[if_pos (show (Value.ref T != Value.none)=true from by simp)];exact Hz gT dT z3 (k _ (λb o n q=>(xr _ _ n.symm).trans q) (A_ _ gT (MK (zy dT _))))
theorem zgp(qY:A.frames=some (env::outer))(hl:s.heap.FunFrames base (env::outer))(hf:env.frame=some L)(x:Exc h0 H s.heap e C dx)
  (qR:∀b,s.heap.objs.size<=b->H b=none) (h0s:∀b o,h0.get? b=some o->∃o',s.heap.get? b=some o')
  (k:∀h' ch,Sg h0 H (frs (env::outer)) s.heap h' ch->Exc h0 H h' e C dx->Q () {s with heap:=h'}) :
  wpAny M A (noteFrame (.ref e) env) (λ_ s₁=>wpAny M A (setFlight (.ref e) none) Q E s₁) E s:=by
 have ele:∃o,s.heap.get? e=some o:=let ⟨oe,_,_,he,_⟩:=x.ob;⟨oe,he⟩;refine zhV qY hl hf x λh' T oT oe ts vs ch t lt ge hc N7 wG h1 gT dT z3 z4=>?_;have neT:T≠e:=λz=>by
  obtain⟨o,q⟩:=ele;exact absurd (fV (bO q) (z▸lt)) (pD _)
 refine zhb (s:={s with heap:=h'}) ge wG h1 gT dT z3 λh2 kp gT2=>?_;have nT:∀b o,s.heap.get? b=some o->b≠T:=λb o q z=>absurd (fV (bO q) (z▸lt)) (pD _);refine k h2 ch ⟨t.rec_,λb o q n1 n2=>kp b o (nT b o q) (t.keep b o q n1 n2),λb o q m=>?_,λb o q=>?_⟩ ⟨x.new,x.un,oe,vs,.ref T,kp e oe neT.symm ge,hc,N7,wG,h1,.inr ⟨T,_,_,rfl,?_,qR T lt,neT,gT2,zy dT _,by simp[z3]⟩⟩
 ·obtain⟨sl,q'⟩:=t.slot b o q m;exact⟨sl,kp b _ (nT b o q) q'⟩
 ·obtain⟨o',q'⟩:=t.there b o q;exact⟨o',kp b o' (nT b o q) q'⟩
 ·cases z:h0.get? T with
  |none=>rfl
  |some o=>
   obtain⟨o',q⟩:=h0s T o z;exact absurd rfl (nT T o' q)
end
noncomputable abbrev XS:=St->Value->Option Addr->Hp->Prop
def Sub(h0 h:Heap):Prop:=∀b o,h0.get? b=some o->∃o',h.get? b=some o'
theorem Sub.none{h0 h:Heap}(x:Sub h0 h){b:Addr}(e:h.get? b=none):h0.get? b=none:=by
 cases q:h0.get? b with
 |none=>rfl
 |some o=>
  obtain⟨o',z⟩:=x b o q;rw[e] at z;cases z
theorem Exc.older{h0 h1:Heap}{H:Hp}{h:Heap}{e C:Addr}{dx:Option Addr}(x:Exc h1 H h e C dx)(y:Sub h0 h1):Exc h0 H h e C dx:=by
 obtain⟨oe,vs,hd,a,b,c,d,f,tb⟩:=x.ob;refine⟨y.none x.new,x.un,oe,vs,hd,a,b,c,d,f,?_⟩;rcases tb with z|⟨T,oT,ts,z1,z2,z3⟩
 ·exact .inl z
 ·exact .inr ⟨T,oT,ts,z1,y.none z2,z3⟩
section
variable {X:Cx}{ao:List (Addr×Obj)}{Z:St}{H:Hp}{s:Shared}{h0 h':Heap}{ch fr:List Addr}
theorem iU.tbd{P:Program}{w:World}{h:Heap}(x:iU P w H h)(t:Sg h0 H fr h h' ch)(hf:∀b∈fr,H b=none):iU P w H h':=λa o e=>by
 have st:∀b u,(b=a\/H b=some (.own a))->h.get? b=some u->h'.get? b=some u:=λb u z q=>by
  have nb:H b≠none:=by
   rcases z with z|z
   ·rw[z,e];simp
   ·rw[z];simp
  exact t.keep b u q (λm=>nb (hf b m)) λm=>nb (t.rec_ b m).2.1
 exact(x a o e).stay st (λ_ z=>z) λ_ _ z=>z
end
def Raises(X:Cx)(EX:XS):Prop:=
 ∀(ao:List (Addr×Obj)) (Z:St) (H:Hp) (s:Shared) (h0:Heap) (e C:Addr) (dx:Option Addr),Inv X ao Z H s->(∀b o,X.s₀.heap.get? b=some o->b∉X.ex->∃o',h0.get? b=some o')->
  (∀p∈X.pn++ao,∃o,h0.get? p.1=some o)->Sub h0 s.heap->Exc h0 H s.heap e C dx->EX Z (.ref C) dx H->X.xe (.ref e) s
noncomputable def fB(P:Program)(w:World):sE:=λouter H s E e s'=>
 ∃(a C:Addr) (dx:Option Addr) (H':Hp),e=.ref a/\s'.os=s.os/\AllBare s'.gens/\Un (frs outer) [] H H' s.heap s'.heap/\iU P w H' s'.heap/\Exc s.heap H' s'.heap a C dx/\E (.ref C) dx H'
theorem ze2{P:Program}{w:World}{K:W.Frag}{mg:Str->Option Value}{base:Heap}{N:List Str}{qual:Str}{scope:Scope}{f:Addr}{cd:Value}{A:Around}{outer:List Env}{s:Shared}{H:Hp}{E:XK}{cm:Bool} :
  Raises (dH (fB P w) P w K mg base N qual scope f cd A outer s H E cm) (λ_ C dx H'=>E C dx H'):=by
 intro ao Z H1 s1 h0 e C dx I hs hp h01 x ex;have I0:Inv (dH (fB P w) P w K mg base N qual scope f cd A outer s H E cm) [] Z H1 s1:=I.jN λp z=>absurd z Zaa;show wpAny (model P w) (A.deeper (envOfC qual scope s.heap.objs.size f cd)) (leaving (envOfC qual scope s.heap.objs.size f cd) (.ref e)) _ _ s1;unfold leaving;have hsub:Sub s.heap h0:=λb o q=>hs b o q (by show b∉([]:List Addr);simp);refine aB (zgp (base:=base) (outer:=outer) (L:=s.heap.objs.size) I0.ok.frames I0.stack rfl x (λb z=>I0.hok.fresh z) h01 λh' ch t x'=>?_);have fin:∀b o,s.heap.get? b=some o->b∉ch:=λb o q m=>by
  have z:=hsub.none (t.rec_ b m).1;rw[q] at z;cases z
 have nL:∀b o,s.heap.get? b=some o->b∉frs outer->b∉frs (envOfC qual scope s.heap.objs.size f cd::outer):=λb o q n m=>by
  have m':b∈s.heap.objs.size::frs outer:=m;rcases jA.mp m' with z|z
  ·exact absurd (bO q) (by rw[z];exact pD _)
  ·exact n z
 refine⟨e,C,dx,H1,rfl,I0.os,I0.bare,⟨λb o q n hb _=>?_,λb o q n hb _=>?_,λb o q n _=>I0.base.free b o q n (by show b∉([]:List Addr);simp),λb o q _=>?_,I0.base.tups,I0.base.iZ,I0.base.jB⟩,I0.hok.tbd t I0.mL,x'.older hsub,ex⟩
 ·exact t.keep b o (I0.base.keep b o q n hb (by show b∉([]:List Addr);simp)) (nL b o q hb) (fin b o q)
 ·obtain⟨sl,q1⟩:=I0.base.slot b o q n hb (by show b∉([]:List Addr);simp);obtain⟨sl',q2⟩:=t.slot b _ q1 (show b∈s.heap.objs.size::frs outer from iI _ hb);exact⟨sl',q2⟩
 ·obtain⟨o',q1⟩:=I0.base.there b o q (by show b∉([]:List Addr);simp);exact t.there b o' q1
section
variable {X:Cx}{cm:Bool}{k:Nat}{f C:Addr}{fd:FuncData}{ps:List Str}{sp:Sp}{EX:XS}{x m:Str}{p pos apos:Pos}{e o:Expr}{es:List Expr}{ta:TE}{t:TA}
theorem Raises.pass(R:Raises X EX)(I:Inv X ao Z H s)(h:fB X.prog X.w X.stack H s (EX Z) v s'):X.xe v s':=by
 obtain⟨a,C,dx,H',rfl,os,bare,un,hok,x,q⟩:=h;have aq:Sub s.heap s'.heap:=λb o z=>un.there b o z Zaa;refine R ao Z H' s' s.heap a C dx (I.call' os un hok bare λb z=>absurd z Zaa) (λb o z n=>I.base.there b o z n) (λp hp=>?_) aq x q;exact⟨p.2,(I.pin p hp).1⟩
noncomputable def Cr(sp:Sp)(EX:XS)(t:TA):TE:=λZ H Q=>t Z H λvs H1=>sp vs H1 Q (EX Z)
theorem zjE(F:cB X.prog X.w X.K X.mg X.base (fB X.prog X.w) cm k f fd ps sp)(je:cm=true->X.aj=true)(hr:bB k X.A)(hb:Binds X.K fd ps [])(R:Raises X EX)
  (I:Inv X ao Z H s) (r:Vals vs us) (h:sp vs H Q (EX Z)):wpAny (model X.prog X.w) X.A (call (.ref f) us) (EP X ao Z Q) X.xe s:=by
 have hl:us.length=ps.length:=by rw[<-r.length];exact F.len _ _ _ _ h
 have hb':=hb s us I.lO (by rw[zB];exact hl);rw[zB] at hb';refine Ft (zF (F.run X.A X.stack s H ⟨us,[]⟩ us vs Q (EX Z) (λz=>I.ok.hd (je z)) hr I.env0 hb' r h) λr s' hq=>?_);cases r with
 |error v=>exact R.pass I hq
 |ok fl=>
  cases fl with
  |ret u=>exact I.after hq
  |next=>exact False.elim hq
  |brk=>exact False.elim hq
  |cont=>exact False.elim hq
theorem zhv(F:cB X.prog X.w X.K X.mg X.base (fB X.prog X.w) cm k f fd ps sp)(je:cm=true->X.aj=true)(hr:bB k X.A)(hg:Gl X x)(hm:X.mg x=some (.ref f))(hk:PySem.W.keepIn X.K (.ref f)=true)(hb:Binds X.K fd ps [])(R:Raises X EX)
  (ha:PA X (e::es) t) (sG:(x==("__debug__" : Str))=false:=by decide) (he:starEach (e::es) X.env=(false,eval e X.env)::starEach es X.env:=by rfl) (cT:(backTo pos (starEach es X.env)).any (·.1)=false:=by rfl) :
  PE X (.Call (.Name x p) (e::es) [] pos) (Cr sp EX t):=by
 intro ao s Z H Q I h;refine Ba (Rg I hg hm ?_ sG);exact QT (h₀:=X.base) I.ok.mod.xM hk (aW (ha pos ao s Z H _ I h) λus s1 ⟨vs,H1,I1,r,q⟩=>⟨I1.lO,zjE F je hr hb R I1 r q⟩) he cT
end
noncomputable def yw(a C:Addr)(dx:Option Addr):HO:=.ext λh=>∃oe vs,h.get? a=some oe/\oe.cls=.ref C/\oe.dict=dx/\oe.data=.fields vs
section
variable {X:Cx}{ao:List (Addr×Obj)}{Z:St}{H:Hp}{s:Shared}{e:Addr}{o:HO}
theorem Inv.track(I:Inv X ao Z H s)(hn:X.s₀.heap.get? e=none)(un:H e=none)(hp:∀p∈X.pn++ao,p.1≠e)(hL:e≠X.env.locals)(hc:∀x c,X.env.cells.lookup x=some c->c≠e)
  (new:bF X.prog X.w (upd H e o) s.heap e o):Inv X ao Z (upd H e o) s:=by
 have ne:∀b u,H b=some u->b≠e:=λb u q z=>by rw[z,un] at q;cases q
 have n0:∀b u,X.s₀.heap.get? b=some u->b≠e:=λb u q z=>by rw[z,hn] at q;cases q
 refine⟨I.ok,I.os,I.bare,⟨I.base.keep,I.base.slot,λb u q n hx=>?_,I.base.there,λb xs q=>?_,λb u v q=>?_,λb ps q=>?_⟩,I.loc,I.cell,?_,λx c q=>?_,λp q=>?_,λb u q=>?_,I.len⟩
 ·rw[bT (n0 b u q)];exact I.base.free b u q n hx
 ·have z:=I.base.tups b xs q;rw[bT (ne b _ z)];exact z
 ·have z:=I.base.iZ b u v q;rw[bT (ne b _ z)];exact z
 ·obtain⟨m,z,g⟩:=I.base.jB b ps q;exact⟨m,by rw[bT (ne b _ z)];exact z,g.mono λb o u q=>by rw[bT (ne b _ q)];exact q⟩
 ·rw[bT hL.symm];exact I.free
 ·rw[bT (hc x c q)];exact I.fZ x c q
 ·obtain⟨a1,a2,a3⟩:=I.pin p q;exact⟨a1,by rw[bT (hp p q)];exact a2,a3⟩
 ·by_cases z:b=e
  ·subst z;rw[iJ] at q;cases q;exact new
  ·rw[bT z] at q;exact(I.hok b u q).stay (λ_ _ _ r=>r) (λc r=>by rw[bT (ne c _ r)];exact r) λc xs r=>by rw[bT (ne c _ r)];exact r
noncomputable def Cx.seen(X:Cx)(A:Around)(aj:Bool)(pn:List (Addr×Obj))(E:Value->Shared->Prop):Cx:={X with A:=A,aj:=aj,pn:=pn,xe:=E}
theorem Inv.seen(I:Inv X ao Z H s)(hA:A.frames=X.A.frames)(hc:c=true->A.handled=none)(hp:∀p∈pn++ps,p∈X.pn++ao):Inv (X.seen A c pn E) ps Z H s:=
 ⟨⟨I.ok.mod,I.ok.kind,I.ok.glob,I.ok.blt,I.ok.above,I.ok.inj,I.ok.has,I.ok.cab,hc,hA.trans I.ok.frames,I.ok.stk,I.ok.Ye,I.ok.bs,I.ok.xT,I.ok.uw,I.ok.xU,I.ok.jC,I.ok.zN⟩,I.os,I.bare,I.base,I.loc,I.cell,I.free,I.fZ,λp z=>I.pin p (hp p z),I.hok,I.len⟩
theorem Inv.Cu(I:Inv (X.seen A c pn E) ps Z H s)(hA:X.A.frames=A.frames)(hc:X.aj=true->X.A.handled=none)(hp:∀p∈X.pn++ao,p∈pn++ps):Inv X ao Z H s:=
 ⟨⟨I.ok.mod,I.ok.kind,I.ok.glob,I.ok.blt,I.ok.above,I.ok.inj,I.ok.has,I.ok.cab,hc,hA.trans I.ok.frames,I.ok.stk,I.ok.Ye,I.ok.bs,I.ok.xT,I.ok.uw,I.ok.xU,I.ok.jC,I.ok.zN⟩,I.os,I.bare,I.base,I.loc,I.cell,I.free,I.fZ,λp z=>I.pin p (hp p z),I.hok,I.len⟩
end
end L2
namespace L2
open PySem PySem.Spec PyProof.Rows PySem.W Builtin.ObjectAttr
section
variable {prog:Program}{w:World}{A:Around}{E:Value->Shared->Prop}{s:Shared}{K:Frag}{x C:Addr}{ox:Obj}{od:Option Obj}{name:Str}{tk:Tok}
theorem zjA(XI:K.In s.heap)(I:InstAt s.heap x ox C od)(hf:findObj K C od name=some r)
  (h:match r with|.value v=>Q (.done (.ret v)) s|.bind g a=>wpAny (model prog w) A (call g [a,.ref x,.ref C]) (λv s'=>Q (.done (.ret v)) s') E s|.missing=>False) :
  wpAny (model prog w) A (Builtin.«object.__getattribute__» ⟨[.ref x,.str name tk],[]⟩) Q E s:=by
 obtain⟨hh,g,d,t,os⟩:=s;have L0:=I.type (M:=model prog w);have L1:=looks_find (M:=model prog w) XI I hf;unfold Builtin.«object.__getattribute__»;refine aB (Fp (a:=(Value.ref x,[Value.str name tk])) (by rfl) ?_);refine aB (Fp (a:=name) (by rfl) ?_);refine aB (L0.at (aB (L1.at ?_)));cases r with
 |value v=>exact aP h
 |bind g a=>
  show wpAny _ _ (holding [a] (call g [a,.ref x,.ref C]) >>= ret) _ _ _;exact aB (pQ (fX h (λv s' z=>aP z) λ_ _ z=>z))
 |missing=>exact h.elim
theorem zf2(XI:K.In s.heap)(I:InstAt s.heap x ox C od)(hb:mroIn K C (.type "BaseException")=some true)(hf:findObj K C od name=some r)
  (h:match r with|.value v=>R (.ok (.ret v)) s|.bind g a=>wpAny (model prog w) A.in1 (call g [a,.ref x,.ref C]) (λv s'=>R (.ok (.ret v)) s') (λe s'=>R (.error e) s') s|.missing=>False) :
  codeAny (model prog w) A (.call (.builtin "BaseException.__getattribute__") ⟨[.ref x,.str name tk],[]⟩) R s:=by
 have hk:builtinKind "BaseException.__getattribute__"=some .slot:=by decide +kernel
 have Cv:splitId "BaseException.__getattribute__"=some ("BaseException","__getattribute__"):=by decide +kernel
 have ha:=F.args_bexc_ga (.ref x) (.str name tk);refine codeAny_call_builtin F.attr_ValueError.ga.plain F.entry_bexc_ga ?_;have fin:wpAny (model prog w) A.in1 (Builtin.«object.__getattribute__» ⟨[.ref x,.str name tk],[]⟩) (λfin s'=>match fin with|.done f=>R (.ok f) s'|.again c'=>c'.quiet=true/\codeAny (model prog w) A c' R s') (λe s'=>R (.error e) s') s:=by
  refine zjA XI I hf ?_;cases r with
  |value v=>exact h
  |bind g a=>exact h
  |missing=>exact h.elim
 have chk:∀Q:Unit->Shared->Prop,Q () s->wpAny (model prog w) A.in1 (checkBuiltinCall "BaseException.__getattribute__" ⟨[.ref x,.str name tk],[]⟩) Q (λe s'=>R (.error e) s') s:=λQ hq=>by
  obtain⟨hh,g,d,t,os⟩:=s;have L0:=I.type (M:=model prog w);have L1:=looks_mroIn (M:=model prog w) XI hb;have LI:Looks (model prog w) hh (isInstance (.ref x) (.type "BaseException")) true:=L0.andThen L1;simp only[checkBuiltinCall,hk,Cv];refine aB ?_
  repeat (first|with_reducible exact hq|with_reducible refine LI.at ?_|wp_step)
 exact chk _ fin
theorem bexc_get?(XI:K.In s.heap)(I:InstAt s.heap x ox C od)(hb:mroIn K C (.type "BaseException")=some true)(hga:findIn K (.ref C) "__getattribute__"=some (some (.builtin "BaseException.__getattribute__")))
  (hgn:findIn K (.ref C) "__getattr__"=some none) (hf:findObj K C od name=some r)
  (h:match r with|.value v=>wpAny (model prog w) A (handedOut v) (λu s'=>Q (some u) s') (λ_ _=>False) {s with toks:=s.toks+1}|.bind g a=>wpAny (model prog w) A.in1 (call g [a,.ref x,.ref C]) (λv s'=>wpAny (model prog w) A (handedOut v) (λu s''=>Q (some u) s'') (λ_ _=>False) s') (λ_ _=>False) {s with toks:=s.toks+1}|.missing=>False) :
  wpAny (model prog w) A (getAttr? (.ref x) name) Q E s:=by
 obtain⟨hh,g,d,t,os⟩:=s;have L0:=I.type (M:=model prog w);have L1:=looks_findIn (M:=model prog w) XI hga;have L2:=looks_findIn (M:=model prog w) XI hgn;have N_:(Value.builtin "BaseException.__getattribute__"==Value.builtin "object.__getattribute__")=false:=by decide +kernel
 unfold getAttr? getAttrBy? getAttrBy;refine aB (wpAny_mkText (aB (Fl (pQ (aB (L0.at (aB (L1.at ?_))))))));show wpAny _ _ (if (onTheHeap (.ref C)&&(Value.builtin "BaseException.__getattribute__"==Value.builtin "object.__getattribute__"))=true then _ else getAttrByItsOwn _ _ _ _ _ _) _ _ _;rw[N_,Bool.and_false,if_neg Tc];unfold getAttrByItsOwn hookBefore callGetattribute boundAndCalled;refine aB (L2.at ?_);refine aB (Fl (pQ (aB (Fp (F.attr_ValueError.ga.bind (.ref x)) ?_))));refine Ft (zf2 XI I hb hf ?_);cases r with
 |value v=>exact fX h (λv s'' hv=>aP hv) (λ_ _ z=>z.elim)
 |bind g a=>exact fX h (λv s' hv=>fX hv (λu s'' z=>aP z) λ_ _ z=>z.elim) (λ_ _ z=>z.elim)
 |missing=>exact h.elim
end
structure XC(K:Frag)(C:Addr):Prop where
 ga:findIn K (.ref C) "__getattribute__"=some (some (.builtin "BaseException.__getattribute__"))
 gn:findIn K (.ref C) "__getattr__"=some none
 cl:findIn K (.ref C) "__class__"=some (some (.builtin "object.__class__"))
 mb:mroIn K C (.type "BaseException")=some true
 mo:mroIn K C (.type "object")=some true
 cd:(clsIn K C).isSome=true
 dg:specialIn K (.builtin "object.__class__") "__get__"=some (some (.builtin "getset_descriptor.__get__"))
 dt:takesIn K (.builtin "object.__class__")=some true
theorem zgT{K:Frag}{C:Addr}{od:Option Obj}{name:Str}{a g:Value}(hc:(clsIn K C).isSome=true)(ha:findIn K (.ref C) name=some (some a))(hg:specialIn K a "__get__"=some (some g))(ht:takesIn K a=some true):findObj K C od name=some (.bind g a):=by
 obtain⟨cd,z⟩:=Qy.mp hc;simp only[findObj,z,ha,hg,ht,Option.bind_some]
theorem Y7{K:Frag}{e C:Addr}(c:XC K C):KitX K (.ref e) (.ref C) (λh=>∃ox od,InstAt h e ox C od) where
 ty:=λ_ _ _ ⟨_,_,I⟩=>I.type
 it:=λ_ _ XI _=>by
  have q:=c.cd;unfold clsIn at q;split at q
  ·rename_i c' d' cd' sl' lk;intro A' Q' E' s' k z;unfold isType loadHead;exact aB (wpAny_loadPart (k _ _ (XI _ _ lk)) (aP z))
  ·cases q
 ne:=λh tp dd its n sl XI htp=>by
  refine Bool.eq_false_iff.mpr λz=>?_;have ee:C=tp:=Value.ref.inj (nM.mp z);subst ee;have q:=c.cd;unfold clsIn at q;split at q
  ·rename_i c' d' cd' sl' lk;have y:=(XI _ _ lk).symm.trans htp;cases y
  ·cases q
 ca:=λ{prog w A E Q s} XI ⟨ox,od,I⟩ k=>by
  have hf:findObj K C od "__class__"=some (.bind (.builtin "getset_descriptor.__get__") (.builtin "object.__class__")):=zgT c.cd c.cl c.dg c.dt;refine bexc_get? XI I c.mb c.ga c.gn hf ?_;exact Ft (class_get (s:={s with toks:=s.toks+1}) (ox:=ox) (od:=od) XI I c.mo (handed_on rfl k))
end L2
namespace L2
open PySem PySem.Spec PyProof.Rows
theorem zeU:∀(names:List (Str×NameKind)) (cs:List (Str×Addr)),(∀x∈names,x.2=.free->∃c,env.cells.lookup x.1=some c)->(∀x c,cs.lookup x=some c->env.cells.lookup x=some c)->
  ∃cl,(forIn names cs λx r=>(do
    if x.2==.free then
     let a <-cellOf env x.1
     pure (ForInStep.yield ((x.1,a)::r))
    else pure (ForInStep.yield r)):Sem (List (Str×Addr)))=pure cl/\(∀x c,cl.lookup x=some c->env.cells.lookup x=some c)/\(∀x c,cs.lookup x=some c->cl.lookup x=some c)/\∀x∈names,x.2=.free->∃c,cl.lookup x.1=some c:=by
 intro names
 induction names with
 |nil=>intro cs _ h;exact⟨cs,rfl,h,λ_ _ q=>q,λx z=>nomatch z⟩
 |cons y r ih=>
  intro cs h1 h2;obtain⟨n,k⟩:=y;by_cases hk:k=.free
  ·subst hk;obtain⟨c,hc⟩:=h1 (n,.free) lA rfl;have hc:env.cells.lookup n=some c:=hc;have h3:∀x d,((n,c)::cs).lookup x=some d->env.cells.lookup x=some d:=λx d q=>by
    rw[pN] at q;by_cases z:x=n
    ·subst z;simp at q;subst q;exact hc
    ·have z':(x==n)=false:=by simpa using z
     rw[z'] at q;exact h2 x d q
   obtain⟨cl,e,a,b,d⟩:=ih ((n,c)::cs) (λx z=>h1 x (iI _ z)) h3;have hco:cellOf env n=pure c:=by
    unfold cellOf;rw[hc]
   refine⟨cl,?_,a,λx q z=>?_,λx z q=>?_⟩
   ·rw[Fj];simp only[Fd,if_true,hco];exact e
   ·by_cases y:x=n
    ·subst y;have z1:=h2 x q z;rw[hc] at z1;cases z1;exact b x c Zaa
    ·have y':(x==n)=false:=by simpa using y
     exact b x q (by rw[pN,y'];exact z)
   ·rcases jA.mp z with z|z
    ·subst z;exact⟨c,b n c Zaa⟩
    ·exact d x z q
  ·have hb:(k==NameKind.free)=false:=by simpa using hk
   obtain⟨cl,e,a,b,d⟩:=ih cs (λx z=>h1 x (iI _ z)) h2;refine⟨cl,?_,a,b,λx z q=>?_⟩
   ·rw[Fj];simp only[hb,rR,nO];exact e
   ·rcases jA.mp z with z|z
    ·subst z;exact absurd q hk
    ·exact d x z q
theorem zeR(h:∀x∈scope.names,x.2=.free->∃c,env.cells.lookup x.1=some c):∃cl,closureFor scope env=pure cl/\(∀x c,cl.lookup x=some c->env.cells.lookup x=some c)/\∀x∈scope.names,x.2=.free->∃c,cl.lookup x.1=some c:=by
 obtain⟨cl,e,a,_,d⟩:=zeU scope.names [] h (λx c q=>by cases q);refine⟨cl,?_,a,d⟩;unfold closureFor;have e':=e;simp only[pure_bind,bind_pure] at e' ⊢;exact e'
theorem Sh{env:Env}{k:NameKind}:∀{names:List (Str×NameKind)} {x:Str},(names.map λ(n,k)=>if (k==NameKind.free&&env.scope.kind==.function&&env.kindOf n==some .cell) then (n,NameKind.cell) else (n,k)).lookup x=some k->
  names.lookup x=some k\/(k=.cell/\names.lookup x=some .free)
 |[],x,h=>by simp at h
 |(n,q)::r,x,h=>by
  rw[jV,pN] at h;rw[pN];have hd:∀c:Bool,(if c=true then (n,NameKind.cell) else (n,q)).1=n:=λc=>by cases c<;>rfl
  rw[hd] at h;by_cases z:x=n
  ·subst z;simp only[Fd] at h ⊢;split at h
   ·rename_i y;simp only[gG,nM] at y;cases h;exact .inr ⟨rfl,by rw[y.1.1]⟩
   ·cases h;exact .inl rfl
  ·have z':(x==n)=false:=by simpa using z
   simp only[z'] at h ⊢;exact Sh h
theorem Oa{env:Env}:∀{names:List (Str×NameKind)} {x:Str},names.lookup x=some .free->
  (names.map λ(n,k)=>if (k==NameKind.free&&env.scope.kind==.function&&env.kindOf n==some .cell) then (n,NameKind.cell) else (n,k)).lookup x=some .cell \/
  (names.map λ(n,k)=>if (k==NameKind.free&&env.scope.kind==.function&&env.kindOf n==some .cell) then (n,NameKind.cell) else (n,k)).lookup x=some .free
 |[],x,h=>by simp at h
 |(n,q)::r,x,h=>by
  rw[pN] at h;rw[jV,pN];have hd:∀c:Bool,(if c=true then (n,NameKind.cell) else (n,q)).1=n:=λc=>by cases c<;>rfl
  rw[hd];by_cases z:x=n
  ·subst z;simp only[Fd] at h ⊢;cases h
   split
   ·exact .inl rfl
   ·exact .inr rfl
  ·have z':(x==n)=false:=by simpa using z
   simp only[z'] at h ⊢;exact Oa h
structure oA(n:Nat)(h1:Heap)(names:List (Str×NameKind))(cl fC:List (Str×Addr)):Prop where
 d1:∀x c,fC.lookup x=some c->(cl.lookup x=some c/\(x,NameKind.cell)∉names)\/((x,NameKind.cell)∈names/\n<c/\h1.IsCell c none)
 d2:∀x y c,n<c->fC.lookup x=some c->fC.lookup y=some c->x=y
 d3:∀x,names.lookup x=some .cell->∃c,fC.lookup x=some c
 d4:∀x c,(x,NameKind.cell)∉names->cl.lookup x=some c->fC.lookup x=some c
theorem cc:(NameKind.cell==NameKind.cell)=true:=by decide
theorem Jt:∀(names:List (Str×NameKind)) (h:Heap) (b:Addr) (o:Obj),h.get? b=some o->(pushCells h names).get? b=some o
 |[],h,b,o,e=>e
 |(x,k)::r,h,b,o,e=>by
  rw[pushCells]
  split
  ·exact Jt r _ b o (cj _ e)
  ·exact Jt r h b o e
theorem Sq:∀(names:List (Str×NameKind)) (h:Heap) (acc:List (Str×Addr)) (x:Str) (c:Addr),(cellsFrom h.objs.size names acc).lookup x=some c->
  (acc.lookup x=some c/\(x,NameKind.cell)∉names)\/((x,NameKind.cell)∈names/\h.objs.size<=c/\(pushCells h names).IsCell c none)
 |[],h,acc,x,c,e=>.inl ⟨e,by simp⟩
 |(y,k)::r,h,acc,x,c,e=>by
  rw[cellsFrom] at e;rw[pushCells];by_cases hk:k=.cell
  ·subst hk;rw[if_pos cc] at e ⊢;have sz:(h.push {cls:=Value.type "cell",data:=Data.cell none}).objs.size=h.objs.size+1:=by unfold Heap.push;simp
   rw[<-sz] at e;rcases Sq r _ _ x c e with ⟨a,b⟩|⟨a,b,d⟩
   ·rw[pN] at a;by_cases z:x=y
    ·subst z;simp at a;subst a;exact .inr ⟨lA,bQ _,_,Jt r _ _ _ (eN _ rfl),rfl⟩
    ·have z':(x==y)=false:=by simpa using z
     rw[z'] at a;exact .inl ⟨a,by simp[z,b]⟩
   ·exact .inr ⟨iI _ a,by lia,d⟩
  ·have hb:(k==NameKind.cell)=false:=by simpa using hk
   rw[if_neg (by rw[hb];decide)] at e ⊢;rcases Sq r _ _ x c e with ⟨a,b⟩|⟨a,b,d⟩
   ·exact .inl ⟨a,by simp[b];intro _ q;exact hk q.symm⟩
   ·exact .inr ⟨iI _ a,b,d⟩
theorem Ss:∀(names:List (Str×NameKind)) (n:Nat) (acc:List (Str×Addr)) (x y:Str) (c:Addr),(∀u v,acc.lookup u=some c->acc.lookup v=some c->u=v)->(∀u a,acc.lookup u=some a->a<n\/a≠c)->(cellsFrom n names acc).lookup x=some c->(cellsFrom n names acc).lookup y=some c->x=y
 |[],n,acc,x,y,c,h,_,e1,e2=>h x y e1 e2
 |(z,k)::r,n,acc,x,y,c,h,hl,e1,e2=>by
  rw[cellsFrom] at e1 e2;by_cases hk:k=.cell
  ·subst hk;rw[if_pos cc] at e1 e2;refine Ss r (n+1) _ x y c (λu v a b=>?_) (λu a q=>?_) e1 e2
   ·rw[pN] at a b;by_cases u1:u=z
    ·by_cases v1:v=z
     ·rw[u1,v1]
     ·have v':(v==z)=false:=by simpa using v1
      subst u1;simp at a;rw[v'] at b;subst a;have b:acc.lookup v=some n:=b;rcases hl v n b with q|q
      ·exact absurd q (pD _)
      ·exact absurd rfl q
    ·have u':(u==z)=false:=by simpa using u1
     rw[u'] at a;have a:acc.lookup u=some c:=a;by_cases v1:v=z
     ·subst v1;simp at b;subst b;rcases hl u n a with q|q
      ·exact absurd q (pD _)
      ·exact absurd rfl q
     ·have v':(v==z)=false:=by simpa using v1
      rw[v'] at b;exact h u v a b
   ·rw[pN] at q;by_cases u1:u=z
    ·subst u1;simp at q;subst q;exact .inl (Hv _)
    ·have u':(u==z)=false:=by simpa using u1
     rw[u'] at q;exact(hl u a q).imp (λq=>tV q) id
  ·have hb:(k==NameKind.cell)=false:=by simpa using hk
   rw[if_neg (by rw[hb];decide)] at e1 e2;exact Ss r n acc x y c h hl e1 e2
theorem Sv:∀(names:List (Str×NameKind)) (n:Nat) (acc:List (Str×Addr)) (x:Str) (c:Addr),(x,NameKind.cell)∉names->acc.lookup x=some c->(cellsFrom n names acc).lookup x=some c
 |[],n,acc,x,c,_,e=>e
 |(z,k)::r,n,acc,x,c,h,e=>by
  rw[cellsFrom];have hr:(x,NameKind.cell)∉r:=λq=>h (iI _ q);by_cases hk:k=.cell
  ·subst hk;rw[if_pos cc];refine Sv r (n+1) _ x c hr ?_;have:x≠z:=λq=>h (by rw[q];exact lA);have z':(x==z)=false:=by simpa using this
   rw[pN,z'];exact e
  ·have hb:(k==NameKind.cell)=false:=by simpa using hk
   rw[if_neg (by rw[hb];decide)];exact Sv r n acc x c hr e
theorem Sw:∀(names:List (Str×NameKind)) (acc:List (Str×Addr)) (s:Shared) (Q:List (Str×Addr)->Shared->Prop),
  Q (cellsFrom s.heap.objs.size names acc) {s with heap:=pushCells s.heap names}->
  wpAny M A (forIn names acc λx (cells:List (Str×Addr))=>match x with
   |(name,kind)=>if (kind==NameKind.cell)=true then do
     let a <-alloc {cls:=Value.type "cell",data:=Data.cell none}
     pure (ForInStep.yield ((name,a)::cells))
    else pure (ForInStep.yield cells)) Q E s
 |[],acc,s,Q,h=>by
  rw[Nf];exact aP h
 |(z,k)::r,acc,s,Q,h=>by
  rw[Fj];rw[cellsFrom,pushCells] at h;by_cases hk:k=.cell
  ·subst hk;rw[if_pos cc,if_pos cc] at h;refine aB ?_;dsimp only;rw[if_pos cc];refine aB (wpAny_alloc (aP ?_));refine Sw r _ _ Q ?_;have sz:(s.heap.push {cls:=Value.type "cell",data:=Data.cell none}).objs.size=s.heap.objs.size+1:=by unfold Heap.push;simp
   rw[sz];exact h
  ·have hb:(k==NameKind.cell)=false:=by simpa using hk
   rw[if_neg (by rw[hb];decide),if_neg (by rw[hb];decide)] at h;refine aB ?_;dsimp only;rw[if_neg (by rw[hb];decide)];exact aP (Sw r _ _ Q h)
theorem Y8(old:∀x c,cl.lookup x=some c->c<s.heap.objs.size)(inj:∀x y c,cl.lookup x=some c->cl.lookup y=some c->x=y)
  (h:∀h1 fC,h1.Ns s.heap.objs.size (λ_=>none)->(∀b o,s.heap.get? b=some o->h1.get? b=some o)->oA s.heap.objs.size h1 scope.names cl fC->Q {scope:=scope,locals:=s.heap.objs.size,globals:=globals,cells:=fC,qual:=qual,func:=none,code:=env.code,frame:=env.frame,builtins:=env.builtins} {s with heap:=h1}) :
  wpAny M A (newFunctionEnv scope globals cl [] qual none .none (some env)) Q E s:=by
 unfold newFunctionEnv;refine aB (wpAny_alloc ?_);refine aB ?_;refine Sw scope.names cl _ _ ?_;dsimp only;rw[Nf];refine aB (aP (aP ?_));have sz:(s.heap.push {cls:=Value.type (if (some env).isSome=true then "dict" else "frame"),data:=Data.dict #[]}).objs.size=s.heap.objs.size+1:=by unfold Heap.push;simp
 refine h _ _ ?_ (λb o e=>Jt _ _ _ _ (cj _ e)) ⟨λx c e=>?_,λx y c hc e1 e2=>?_,λx e=>?_,λx c hx e=>Sv _ _ _ x c hx e⟩
 ·refine⟨_,#[],_,Jt _ _ _ _ (eN _ rfl),rfl,?_,λ_=>rfl⟩;intro e he;simp at he
 ·rcases Sq _ _ _ x c e with ⟨a,b⟩|⟨a,b,d⟩
  ·exact .inl ⟨a,b⟩
  ·rw[sz] at b;exact .inr ⟨a,by lia,d⟩
 ·exact Ss _ _ _ x y c (λu v a b=>inj u v c a b) (λu a q=>.inl (by rw[sz];exact tV (old u a q))) e1 e2
 ·have:=MJ scope.names (s.heap.push {cls:=Value.type (if (some env).isSome=true then "dict" else "frame"),data:=Data.dict #[]}).objs.size cl (.inl e);exact Qy.mp this
noncomputable def Cx.blk(X:Cx)(scope:Scope)(cl:List (Str×Addr))(N:List Str)(C:Addr)(s3:Shared)(H3:Hp)(fp:List Addr)(ao:List (Addr×Obj)):Cx where
 prog:=X.prog
 w:=X.w
 K:=X.K
 mg:=X.mg
 base:=X.base
 A:=X.A
 N:=N
 s₀:=s3
 H₀:=H3
 env:=compEnvC scope cl C X.env
 outer:=X.stack
 stack:=X.stack
 ex:=fp
 fn:=λx=>scope.names.lookup x==some .cell
 aj:=X.aj
 pn:=X.pn++ao
 xe:=λ_ _=>False
structure cN(sc scope:Scope):Prop where
 kind:scope.kind=.function
 Y9:∀y∈scope.names,y.2=.cell->scope.names.lookup y.1=some .cell
 free:∀y∈scope.names,y.2=.free->sc.names.lookup y.1=some .cell\/sc.names.lookup y.1=some .free
 loc:∀y∈scope.names,y.2=.local->scope.names.lookup y.1=some .local
section
variable {X:Cx}{ao:List (Addr×Obj)}{Z:St}{H:Hp}{s:Shared}{scope:Scope}{cl:List (Str×Addr)}{N:List Str}{fp:List Addr}{ZY:St}
theorem Y_{h1:Heap}{t:Nat}{fC:List (Str×Addr)}(I:Inv X ao Z H s)(B:cN X.env.scope scope)(c1:∀x c,cl.lookup x=some c->X.env.cells.lookup x=some c)(c2:∀x∈scope.names,x.2=.free->∃c,cl.lookup x.1=some c)
  (f:∀b∈fp,fK X ao H b) (fo:∀b∈fp,∃o,s.heap.get? b=some o) (hn:h1.Ns s.heap.objs.size (λ_=>none)) (kp:∀b o,s.heap.get? b=some o->h1.get? b=some o) (CN:oA s.heap.objs.size h1 scope.names cl fC)
  (hl:ZY.length=N.length) (hZ:∀(i:Nat) (x:Str) (v:V),N[i]?=some x->ZY[i]?=some (some v)->scope.names.lookup x=some .free/\∃j:Nat,X.N[j]?=some x/\Z[j]?=some (some v)) :
  Inv (X.blk scope fC N s.heap.objs.size s H fp ao) [] ZY H {s with heap:=h1,toks:=t}:=by
 have lt:∀b o,s.heap.get? b=some o->b≠s.heap.objs.size:=λb o q=>cU (bO q);have Za:∀b,b≠X.env.locals->b∉X.fs->b∉frs X.stack:=λb a c z=>(jA.mp (I.jZ b z)).elim a c;have mem_of:∀x k,scope.names.lookup x=some k->(x,k)∈scope.names:=λx k q=>Et q;have old:∀x c,cl.lookup x=some c->c<s.heap.objs.size:=λx c q=>by
  obtain⟨v,o,q1,q2⟩:=I.cell x c (c1 x c q);exact bO q1
 have Zb:∀x,scope.names.lookup x=some .free->(x,NameKind.cell)∉scope.names:=λx q z=>by
  have:=B.Y9 _ z rfl;have this:scope.names.lookup x=some .cell:=this;rw[q] at this;cases this
 refine⟨⟨I.ok.mod,B.kind,I.ok.glob,I.ok.blt,bQ _,λx y c a b=>?_,λx hx=>?_,λx c z q=>?_,I.ok.hd,I.ok.frames,.inl rfl,λb hb=>?_,I.bs,jW I.ok.xT I.sz,λb o q hb=>?_,λb hb=>Za b (f b hb).2.1 (f b hb).2.2.1,I.stack,⟨I.mL,I.BJ⟩⟩,
  rfl,I.bare,Un.kept kp,⟨_,hn,λi x v e1 e2 e3=>?_⟩,λx c q=>?_,I.hok.fresh (bQ _),λx c q=>?_,λp hp=>?_,I.hok.kept kp,hl⟩
 ·by_cases hc:s.heap.objs.size<c
  ·exact CN.d2 x y c hc a b
  ·rcases CN.d1 x c a with ⟨a1,_⟩|⟨_,a1,_⟩
   ·rcases CN.d1 y c b with ⟨b1,_⟩|⟨_,b1,_⟩
    ·exact I.ok.inj x y c (c1 x c a1) (c1 y c b1)
    ·exact absurd b1 hc
   ·exact absurd a1 hc
 ·have hx:(relabel scope X.env).names.lookup x=some .cell\/(relabel scope X.env).names.lookup x=some .free:=hx;have fr:scope.names.lookup x=some .cell\/scope.names.lookup x=some .free:=by
   rcases hx with hx|hx
   ·rcases Sh hx with z|⟨_,z⟩
    ·exact .inl z
    ·exact .inr z
   ·rcases Sh hx with z|⟨z,_⟩
    ·exact .inr z
    ·cases z
  rcases fr with fr|fr
  ·exact CN.d3 x fr
  ·obtain⟨c,hc⟩:=c2 (x,.free) (mem_of x _ fr) rfl;exact⟨c,CN.d4 x c (Zb x fr) hc⟩
 ·rcases CN.d1 x c q with ⟨_,q1⟩|⟨_,q1,_⟩
  ·have z:(scope.names.lookup x==some NameKind.cell)=true:=z;exact absurd (mem_of x _ (by simpa using z)) q1
  ·exact rW q1
 ·obtain⟨o,q⟩:=fo b hb;refine⟨lt b o q,λx c z=>?_⟩;rcases CN.d1 x c z with ⟨q1,_⟩|⟨_,q1,_⟩
  ·exact(f b hb).2.2.2.2.1 x c (c1 x c q1)
  ·exact λe=>absurd (bO q) (by rw[<-e];exact Fw.mpr (rW q1))
 ·obtain⟨_,_,_,z,_⟩:=f b hb;rcases z with z|z
  ·exact I.ok.uw b o q z
  ·exact absurd (fV (bO q) (jW I.ok.xT z)) (pD _)
 ·obtain⟨fr,j,hj,hv⟩:=hZ i x v e1 e2;have hk:=B.free (x,.free) (mem_of x _ fr) rfl;obtain⟨m,hm,hlk⟩:=I.loc;obtain⟨u,r,l⟩:=hlk j x v hj hv (hk.elim (λz=>.inr (.inl z)) λz=>.inr (.inr z));obtain⟨c',lD⟩:=c2 (x,.free) (mem_of x _ fr) rfl;have lD:cl.lookup x=some c':=lD;refine⟨u,r,.inr ⟨Oa fr,c',CN.d4 x c' (Zb x fr) lD,?_⟩⟩;rcases l with ⟨k1,_⟩|⟨_,c,k2,oc,k3,k4⟩
  ·have k1:X.env.scope.names.lookup x=some .local:=k1;rcases hk with hk|hk
   ·have hk:X.env.scope.names.lookup x=some .cell:=hk;rw[k1] at hk;cases hk
   ·have hk:X.env.scope.names.lookup x=some .free:=hk;rw[k1] at hk;cases hk
  ·have e:=c1 x c' lD;rw[k2] at e;cases e;exact⟨oc,kp _ oc k3,k4⟩
 ·rcases CN.d1 x c q with ⟨q1,_⟩|⟨_,_,q1⟩
  ·obtain⟨v,o,q1,q2⟩:=I.cell x c (c1 x c q1);exact⟨v,o,kp c o q1,q2⟩
  ·exact⟨none,q1⟩
 ·rcases CN.d1 x c q with ⟨q1,_⟩|⟨_,q1,_⟩
  ·exact I.fZ x c (c1 x c q1)
  ·exact I.hok.fresh (rW q1)
 ·have hp:p∈X.pn++ao:=by
   have z:p∈(X.pn++ao)++[]:=hp;simpa using z
  obtain⟨a1,a2,a3,a4,a5⟩:=I.pin p hp;exact⟨kp _ _ a1,a2,lt _ _ a1,Za _ a3 a4,a5⟩
theorem Zc(I:Inv X ao Z H s)(f:∀b∈fp,fK X ao H b)(aZ:Inv (X.blk scope cl N s.heap.objs.size s H fp ao) [] Z' H' s'):Inv X ao Z H' s':=
 I.call' (ch:=fp) aZ.os aZ.base aZ.hok aZ.bare λb hb=>by
  obtain⟨_,a2,_,a4,a5,a6⟩:=f b hb;exact⟨a4.imp id λz=>Ep z,a2,a5,a6⟩
theorem Sx{Z':St}{H':Hp}{s':Shared}{h2:Heap}{C:Addr}(aZ:Inv X ao Z H' s')(hC:X.s₀.heap.objs.size<=C)(n1:H' C=none)(n2:C≠X.env.locals)(n3:∀x c,X.env.cells.lookup x=some c->c≠C)(n4:∀p∈X.pn++ao,p.1≠C)
  (sb:Heap.SameBut C s'.heap h2):Inv X ao Z H' {s' with heap:=h2}:=
 aZ.turned (t':=s'.toks) (λb o z q=>(sb.2 b z).trans q) n1 n2 (.inr hC) n3 n4
end
noncomputable abbrev jO(ifs:List Expr)(env:Env):Sem Bool:=forIn ifs true λc r=>if r=true then do let ok <-isTrue c env (eval c env);pure (ForInStep.yield ok) else pure (ForInStep.yield r)
theorem zf5{prog:Program}{w:World}{A:Around}{R:Result->Shared->Prop}{s:Shared}{elt target iter:Expr}{ifs:List Expr}{scope:Scope}{pos:Pos}{it acc:Value}{env:Env}(V:Nat->Shared->Prop)
  (turn:∀n s,V n s->wpAny (model prog w) A (pyNext it) (λr s₁=>match r with
   |none=>R (.ok .next) s₁
   |some v=>wpAny (model prog w) A (letOwnedTupleGo target it v) (λ_ s₂=>wpAny (model prog w) A (assign target env v) (λ_ s₃=>
     wpAny (model prog w) A (jO ifs env) (λok s₄=>
      if ok=true then wpAny (model prog w) A (eval elt env) (λx s₅=>wpAny (model prog w) A (call (.builtin "list.append") [acc,x]) (λ_ s₆=>∃m,m<n/\V m s₆) (λ_ _=>False) s₅) (λ_ _=>False) s₄
      else ∃m,m<n/\V m s₄) (λ_ _=>False) s₃) (λ_ _=>False) s₂) (λ_ _=>False) s₁) (λ_ _=>False) s)
  (n:Nat) (h:V n s):codeAny (model prog w) A (.compLoop (.ListComp elt [⟨target,iter,ifs,0⟩] scope pos) 0 it acc env) R s:=by
 refine codeAny_loop rfl V (λn s hV=>?_) n h;show wpAny _ A ((compTurn (.ListComp elt [⟨target,iter,ifs,0⟩] scope pos) 0 it acc env).onRaise (λx=>do noteFrame x env;theTreesLotGoes x)) _ _ s;refine wpAny_noted ?_;rw[compTurn_list];refine aB (ug (aB (fX (turn n s hV) (λr s₁ h₁=>?_) λ_ _ z=>z.elim)));cases r with
 |none=>exact aP h₁
 |some v=>
  refine aB (fX h₁ (λ_ s₂ h₂=>?_) λ_ _ z=>z.elim);refine aB (fX h₂ (λ_ s₃ h₃=>aB (fX h₃ (λok s₄ h₄=>?_) λ_ _ z=>z.elim)) λ_ _ z=>z.elim);cases ok with
  |true=>
   simp only[if_true] at h₄ ⊢;exact aB (aB (fX h₄ (λx s₅ h₅=>aB (fX h₅ (λ_ s₆ h₆=>aP (aP ⟨rfl,h₆⟩)) λ_ _ z=>z.elim)) λ_ _ z=>z.elim))
  |false=>
   simp only[rR,nO] at h₄ ⊢;exact aP ⟨rfl,h₄⟩
def FW(X:Cx)(ifs:List Expr)(t:TT):Prop:=
 ∀(ao:List (Addr×Obj)) (s:Shared) (Z:St) (H:Hp) (Q:Bool->Hp->Prop),Inv X ao Z H s->t Z H Q->wpAny (model X.prog X.w) X.A (jO ifs X.env) (TP X ao Z Q) X.xe s
noncomputable def Sy:TT:=λ_ H Q=>Q true H
theorem zi6:FW X [] Sy:=λ_ _ _ H _ I h=>wpAny_tests_nil ⟨H,I,h⟩
theorem zjh(h:PT X c t):FW X [c] t:=λao s Z H Q I hq=>wpAny_tests_one (h ao s Z H Q I hq)
def Ju(ZY:St->St)(g:TG)(tt:TT)(te:TE)(aZ:It)(Z:St)(H:Hp)(Q:VK):Prop:=∀D,H D=none->∃W:Nat->Nat->St->Hp->Prop,(∃m,W 0 m (ZY Z) (upd H D (.lst [])))/\∀i m Z' H',W i m Z' H'->
 (aZ.stop i H'/\Q (.ref D) H')\/(aZ.go i H'/\∃N:St->Hp->Prop,(∀Z2 H2,N Z2 H2->∃m',m'<m/\W (i+1) m' Z2 H2)/\∀x H2,aZ.uD i H' x H2->g x Z' H2 λZ3 H3=>tt Z3 H3 λok H4=>
  if ok=true then te Z3 H4 λy H5=>∃ys,H5 D=some (.lst ys)/\ys.length<sizeLine/\N Z3 (upd H5 D (.lst (ys++[y]))) else N Z3 H4)
section
variable {X:Cx}{elt tg iter:Expr}{ifs:List Expr}{scope:Scope}{pos:Pos}{N:List Str}{ZY:St->St}{wi:TI}{g:TG}{tt:TT}{te:TE}
structure Parts(X:Cx)(elt tg:Expr)(ifs:List Expr)(scope:Scope)(N:List Str)(g:TG)(tt:TT)(te:TE):Prop where
 tgt:∀cl C s3 H3 fp ao,PG (X.blk scope cl N C s3 H3 fp ao) tg g
 Jv:∀cl C s3 H3 fp ao,FW (X.blk scope cl N C s3 H3 fp ao) ifs tt
 el:∀cl C s3 H3 fp ao,PE (X.blk scope cl N C s3 H3 fp ao) elt te
theorem Zd(hc:X.aj=true)(B:cN X.env.scope scope)(P:Parts X elt tg ifs scope N g tt te)(hl:∀Z,(ZY Z).length=N.length)
  (hZ:∀(Z:St) (i:Nat) (x:Str) (v:V),N[i]?=some x->(ZY Z)[i]?=some (some v)->scope.names.lookup x=some .free/\∃j:Nat,X.N[j]?=some x/\Z[j]?=some (some v))
  {ao:List (Addr×Obj)} {s:Shared} {Z:St} {H:Hp} {Q:VK} {it:Addr} {fp:List Addr} {tn:Nat->Heap->Prop} {aZ:It} (I:Inv X ao Z H s) (T:Turn X.prog X.w X.K tg aZ fp it tn) (st:tn 0 s.heap) (f:∀b∈fp,fK X ao H b) (h:Ju ZY g tt te aZ Z H Q)
  {cl:List (Str×Addr)} (c1:∀x c,cl.lookup x=some c->X.env.cells.lookup x=some c) (c2:∀x∈scope.names,x.2=.free->∃c,cl.lookup x.1=some c) {R:Value->Addr->Result->Shared->Prop} {E:Value->Shared->Prop}
  (k:∀D C s' H',Inv X ao Z H' s'->X.s₀.heap.objs.size<=C->H' C=none->C≠X.env.locals->(∀x c,X.env.cells.lookup x=some c->c≠C)->(∀p∈X.pn++ao,p.1≠C)->(∃m,s'.heap.Ns C m)->Q (.ref D) H'->R (.ref D) C (.ok .next) s') :
  wpAny (model X.prog X.w) X.A (newList []) (λacc s₃=>wpAny (model X.prog X.w) X.A (newFunctionEnv scope X.env.globals cl [] X.env.qual none .none (some X.env)) (λcenv s₄=>
   codeAny (model X.prog X.w) X.A (.compStart (.ListComp elt [⟨tg,iter,ifs,0⟩] scope pos) 0 (.ref it) acc {cenv with scope:=relabel scope X.env}) (R acc cenv.locals) s₄) E s₃) E s:=by
 refine tU ?_;have hD:H s.heap.objs.size=none:=I.hok.fresh (bQ _);have I3:Inv X ao Z (upd H s.heap.objs.size (.lst [])) {s with heap:=s.heap.push {cls:=.type "list",dict:=none,data:=.seq ([]:List Value).toArray}}:=
  I.laid (t':=s.toks) (λb u q=>cj _ q) (bQ _) ⟨rY _,[],0,.nil,eN _ rfl⟩
 have f3:∀b∈fp,fK X ao (upd H s.heap.objs.size (.lst [])) b:=λb hb=>by
  obtain⟨a1,a2⟩:=f b hb;obtain⟨o,q,_⟩:=T.obj 0 _ st b hb;exact⟨by rw[bT (cU (bO q))];exact a1,a2⟩
 have st3:tn 0 (s.heap.push {cls:=.type "list",dict:=none,data:=.seq ([]:List Value).toArray}):=T.keep _ _ _ st λb hb o q=>cj _ q;obtain⟨W,⟨m0,w0⟩,turn⟩:=h s.heap.objs.size hD;generalize SJ:({s with heap:=s.heap.push {cls:=.type "list",dict:=none,data:=.seq ([]:List Value).toArray}}:Shared)=s3 at *;have qd:tn 0 s3.heap:=by rw[<-SJ];exact st3
 generalize hH3:upd H s.heap.objs.size (.lst [])=H3 at *;refine Y8 (λx c q=>by obtain⟨v,o,q1,_⟩:=I3.cell x c (c1 x c q);exact bO q1) (λx y c a b=>I3.ok.inj x y c (c1 x c a) (c1 y c b)) λh1 fC hn kp CN=>?_;have Cw:Inv (X.blk scope fC N s3.heap.objs.size s3 H3 fp ao) [] (ZY Z) H3 {s3 with heap:=h1}:=
  Y_ (t:=s3.toks) I3 B c1 c2 f3 (λb hb=>let ⟨o,q,_⟩:=T.obj 0 _ qd b hb;⟨o,q⟩) hn kp CN (hl Z) (hZ Z)
 have Jw:tn 0 h1:=T.keep _ _ _ qd λb hb o q=>kp b o q;have fY:∀{H':Hp},(∀b∈fp,H' b=none)->∀b∈fp,fK (X.blk scope fC N s3.heap.objs.size s3 H3 fp ao) [] H' b:=λ{H'} z b hb=>by
  obtain⟨a1,a2,a3,a4,a5,a6⟩:=f3 b hb;obtain⟨o,q,_⟩:=T.obj 0 _ qd b hb;refine⟨z b hb,cU (bO q),λy=>(jA.mp (I3.jZ b y)).elim a2 a3,.inl hb,λx c y=>?_,λp hp=>a6 p ?_⟩
  ·rcases CN.d1 x c y with ⟨q1,_⟩|⟨_,q1,_⟩
   ·exact a5 x c (c1 x c q1)
   ·exact λe=>absurd (bO q) (by rw[<-e];exact Fw.mpr (rW q1))
  have y:p∈(X.pn++ao)++[]:=hp;simpa using y
 have loop:codeAny (model X.prog X.w) X.A (.compLoop (.ListComp elt [⟨tg,iter,ifs,0⟩] scope pos) 0 (.ref it) (.ref s.heap.objs.size) (compEnvC scope fC s3.heap.objs.size X.env)) (R (.ref s.heap.objs.size) s3.heap.objs.size) {s3 with heap:=h1}:=by
  refine zf5 (λn s'=>∃i Z' H',Inv (X.blk scope fC N s3.heap.objs.size s3 H3 fp ao) [] Z' H' s'/\tn i s'.heap/\(∀b∈fp,H' b=none)/\W i n Z' H') ?_ m0 ⟨0,ZY Z,H3,Cw,Jw,λb hb=>(f3 b hb).1,w0⟩;rintro n s5 ⟨i,Z5,H5,jD,tW,wF,w5⟩;rcases turn i n Z5 H5 w5 with ⟨stop,q⟩|⟨go,Nx,hN,step⟩
  ·refine aW (T.done (X.blk scope fC N s3.heap.objs.size s3 H3 fp ao) rfl rfl rfl hc i [] s5 Z5 H5 _ jD (fY wF) tW stop) λr s6 ⟨hr,mR⟩=>?_;subst hr;have JX:=Zc I3 f3 mR;refine k s.heap.objs.size s3.heap.objs.size s6 H5 JX I3.sz mR.free (pR I3.lt) (λx c y z=>?_) (λp hp z=>?_) ?_ q
   ·obtain⟨v,qc⟩:=I3.cell x c y;exact absurd qc.lt (by rw[z];exact pD _)
   ·exact absurd (bO (I3.pin p hp).1) (by rw[z];exact pD _)
   ·obtain⟨m,hm,_⟩:=mR.loc;exact⟨m,hm⟩
  ·refine aW (T.item (X.blk scope fC N s3.heap.objs.size s3 H3 fp ao) rfl rfl rfl hc i [] s5 Z5 H5 _ jD (fY wF) tW go) λr s6 hx=>wB hx λu hr h6=>?_;subst hr;refine aW h6 λ_ s7 ⟨x,H7,uI,r7,y7,uJ,Jx⟩=>?_;have oE:=uI.pinned (fY Jx) (T.obj _ _ uJ);refine aW (P.tgt fC s3.heap.objs.size s3 H3 fp ao _ s7 Z5 H7 x u _ oE r7 (step x H7 y7)) λ_ s8 ⟨Z8,H8,uK,q8⟩=>?_;refine aW (P.Jv fC s3.heap.objs.size s3 H3 fp ao _ s8 Z8 H8 _ uK q8) λok s9 hx=>wB hx λH9 uL q9=>?_;have again:∀{H':Hp} {s':Shared},Inv (X.blk scope fC N s3.heap.objs.size s3 H3 fp ao) ([]++i_ fp s7.heap) Z8 H' s'->Nx Z8 H'->∃m,m<n/\∃i Z' H',Inv (X.blk scope fC N s3.heap.objs.size s3 H3 fp ao) [] Z' H' s'/\tn i s'.heap/\(∀b∈fp,H' b=none)/\W i m Z' H':=λ{H' s'} f9 n'=>by
    obtain⟨m',hm,w'⟩:=hN Z8 H' n';refine⟨m',hm,i+1,Z8,H',f9.b_,T.keep _ _ _ uJ λb hb o e=>(f9.pin (b,o) (lg _ (lg _ (zQ hb e)))).1,λb hb=>?_,w'⟩;obtain⟨o,e,d⟩:=T.obj _ _ uJ b hb;exact(f9.pin (b,o) (lg _ (lg _ (zQ hb e)))).2.1
   cases ok with
   |false=>
    rw[if_neg Tc] at q9 ⊢;exact again uL q9
   |true=>
    rw[if_pos rfl] at q9 ⊢;refine aW (P.el fC s3.heap.objs.size s3 H3 fp ao _ s9 Z8 H9 _ uL q9) λv Ob ⟨y,SM,uM,r10,ys,Cy,hz,SN⟩=>?_;refine aW (R8 (X:=(X.blk scope fC N s3.heap.objs.size s3 H3 fp ao)) _ Ob Z8 SM (.ref s.heap.objs.size) [y] (.ref s.heap.objs.size) [v] (λ_ H'=>Nx Z8 H') uM rfl (.cons r10 .nil) ⟨s.heap.objs.size,ys,y,rfl,rfl,Cy,hz,SN⟩) λ_ Ze hx=>fu hx λ_ Zf oF _ SQ=>again oF SQ
 exact codeAny_compStart_list loop (T.self _ 0 _ _ _ Jw loop)
end
noncomputable def uN(wi:TI)(ZY:St->St)(g:TG)(tt:TT)(te:TE):TE:=λZ H Q=>wi Z H λaZ H1=>Ju ZY g tt te aZ Z H1 Q
section
variable {X:Cx}{elt tg iter:Expr}{ifs:List Expr}{scope:Scope}{pos spos py:Pos}{N:List Str}{ZY:St->St}{wi:TI}{g:TG}{tt:TT}{te:TE}{i:Nat}{y:Str}
theorem SX(I:Inv X ao Z H s)(B:cN X.env.scope scope):∃cl,closureFor scope X.env=pure cl/\(∀x c,cl.lookup x=some c->X.env.cells.lookup x=some c)/\∀x∈scope.names,x.2=.free->∃c,cl.lookup x.1=some c:=
 zeR λx hx hf=>I.ok.has x.1 (B.free x hx hf)
theorem zj4(hc:X.aj=true)(B:cN X.env.scope scope)(hi:PI X tg iter wi)(P:Parts X elt tg ifs scope N g tt te)(hl:∀Z,(ZY Z).length=N.length)
  (hZ:∀(Z:St) (i:Nat) (x:Str) (v:V),N[i]?=some x->(ZY Z)[i]?=some (some v)->scope.names.lookup x=some .free/\∃j:Nat,X.N[j]?=some x/\Z[j]?=some (some v))
  (hs:∀x,foldedSetIterable iter X.env x=pure x:=by intro _;rfl):PE X (.ListComp elt [⟨tg,iter,ifs,0⟩] scope pos) (uN wi ZY g tt te):=by
 intro ao s Z H Q I h;obtain⟨cl,qe,c1,c2⟩:=SX I B;rw[eval_ListComp];refine QB (use:=none) rfl hs qe B.kind B.loc (aW (hi ao s Z H _ I h) λxv s1 h1=>aW h1 λitv s2 h2=>?_);obtain⟨it,fp,tn,aZ,H2,e,I2,T,st2,f2,hq⟩:=h2;subst e;exact Zd hc B P hl hZ I2 T st2 f2 hq c1 c2 (R:=λacc C=>compPost (model X.prog X.w) X.A X.xe none (EP X ao Z Q) acc C) λD C s' H' f9 a b c d e ⟨m,hm⟩ q=>⟨m,hm,λh' sb=>⟨.ref D,H',Sx (Z':=Z) f9 a b c d e sb,rfl,q⟩⟩
theorem zeT(hc:X.aj=true)(hN:X.N.Nodup)(qg:X.N[i]?=some y)(hx:Loc X.env.scope y)(hf:X.fn y=true\/X.env.scope.names.lookup y=some .local)(B:cN X.env.scope scope)(hi:PI X tg iter wi)(P:Parts X elt tg ifs scope N g tt te)(hl:∀Z,(ZY Z).length=N.length)
  (hZ:∀(Z:St) (i:Nat) (x:Str) (v:V),N[i]?=some x->(ZY Z)[i]?=some (some v)->scope.names.lookup x=some .free/\∃j:Nat,X.N[j]?=some x/\Z[j]?=some (some v))
  (uO:swapsWith (.ListComp elt [⟨tg,iter,ifs,0⟩] scope pos) (some (.Name y py)) spos.line X.env=pure true) (hs:∀x,foldedSetIterable iter X.env x=pure x:=by intro _;rfl) :
  PS X (.Assign [.Name y py] (.ListComp elt [⟨tg,iter,ifs,0⟩] scope pos) spos) (xX (uN wi ZY g tt te) (dM i)):=by
 intro ao s Z H D I h;obtain⟨cl,qe,c1,c2⟩:=SX I B;rw[exec_Assign_Name_used _ _ _ _ uO];refine aB (ug (aB ?_));show wpAny _ X.A (do let _ <-comprehension (.ListComp elt [⟨tg,iter,ifs,0⟩] scope pos) scope X.env _ (newList []) false (eval iter X.env) (some (assign (.Name y py) X.env))) _ _ s;refine aB (QB (use:=some (assign (.Name y py) X.env)) rfl hs qe B.kind B.loc (aW (hi ao s Z H _ I h) λxv s1 h1=>aW h1 λitv s2 h2=>?_));obtain⟨it,fp,tn,aZ,H2,e,I2,T,st2,f2,hq⟩:=h2;subst e;refine Zd hc B P hl hZ I2 T st2 f2 hq c1 c2 (R:=λacc C=>compPost (model X.prog X.w) X.A X.xe (some (assign (.Name y py) X.env)) _ acc C) λD' C s' H' f9 a b c d e ⟨m,hm⟩ q=>?_;show wpAny _ _ (assign (.Name y py) X.env (.ref D')) _ _ s';refine wpAny_assign_Name (Q9 (v:=.ref D') f9 hN qg hx rfl (λs5 jD ⟨ad,sb,S5⟩=>?_) hf);have nC:C≠ad:=by
  rcases S5 with z|z
  ·rw[z];exact c
  ·exact(d y ad z).symm
 obtain⟨ol,es,ep,e1,r1⟩:=hm;refine⟨m,⟨ol,es,ep,(sb.2 C nC).trans e1,r1⟩,λh' S6=>aP (aP ⟨_,H',Sx (Z':=Z) jD a b c d e S6,q⟩)⟩
end
theorem zdE(elt target iter:Expr)(ifs:List Expr)(g₁:Comprehension)(scope:Scope)(pos:Pos)(it acc:Value)(env:Env) :
  compTurn (.ListComp elt [g₁,⟨target,iter,ifs,0⟩] scope pos) 1 it acc env=(do
   standAt iter.pos
   match <-pyNext it with
   |none=>pure (.done .next)
   |some v=>
    letOwnedTupleGo target it v
    assign target env v
    let mut ok:=true
    for c in ifs do
     if ok then ok <-isTrue c env (eval c env)
    if ok then
     (do let _ <-call (.builtin "list.append") [acc,<-eval elt env])
    again (.compLoop (.ListComp elt [g₁,⟨target,iter,ifs,0⟩] scope pos) 1 it acc env)):=by rfl
theorem zdl(elt target iter target₂ iter₂:Expr)(ifs ifs₂:List Expr)(scope:Scope)(pos:Pos)(it acc:Value)(env:Env) :
  compTurn (.ListComp elt [⟨target,iter,ifs,0⟩,⟨target₂,iter₂,ifs₂,0⟩] scope pos) 0 it acc env=(do
   standAt iter.pos
   match <-pyNext it with
   |none=>pure (.done .next)
   |some v=>
    letOwnedTupleGo target it v
    assign target env v
    let mut ok:=true
    for c in ifs do
     if ok then ok <-isTrue c env (eval c env)
    if ok then
     let x <-eval iter₂ env
     standAt iter₂.pos
     let x <-foldedSetIterable iter₂ env x
     let _ <-runOwn (.compStart (.ListComp elt [⟨target,iter,ifs,0⟩,⟨target₂,iter₂,ifs₂,0⟩] scope pos) 1 (<-holding [x] (pyIter x)) acc env) env
     again (.compLoop (.ListComp elt [⟨target,iter,ifs,0⟩,⟨target₂,iter₂,ifs₂,0⟩] scope pos) 0 it acc env)
    else
     again (.compLoop (.ListComp elt [⟨target,iter,ifs,0⟩,⟨target₂,iter₂,ifs₂,0⟩] scope pos) 0 it acc env)):=by rfl
theorem zko(V:Nat->Shared->Prop)
  (turn:∀n s,V n s->wpAny (model prog w) A (pyNext it) (λr s₁=>match r with
   |none=>R (.ok .next) s₁
   |some v=>wpAny (model prog w) A (letOwnedTupleGo target it v) (λ_ s₂=>wpAny (model prog w) A (assign target env v) (λ_ s₃=>
     wpAny (model prog w) A (jO ifs env) (λok s₄=>
      if ok=true then wpAny (model prog w) A (eval elt env) (λx s₅=>wpAny (model prog w) A (call (.builtin "list.append") [acc,x]) (λ_ s₆=>∃m,m<n/\V m s₆) (λ_ _=>False) s₅) (λ_ _=>False) s₄
      else ∃m,m<n/\V m s₄) (λ_ _=>False) s₃) (λ_ _=>False) s₂) (λ_ _=>False) s₁) (λ_ _=>False) s)
  (n:Nat) (h:V n s):codeAny (model prog w) A (.compLoop (.ListComp elt [g₁,⟨target,iter,ifs,0⟩] scope pos) 1 it acc env) R s:=by
 refine codeAny_loop rfl V (λn s hV=>?_) n h;show wpAny _ A ((compTurn (.ListComp elt [g₁,⟨target,iter,ifs,0⟩] scope pos) 1 it acc env).onRaise (λx=>do noteFrame x env;theTreesLotGoes x)) _ _ s;refine wpAny_noted ?_;rw[zdE];refine aB (ug (aB (fX (turn n s hV) (λr s₁ h₁=>?_) λ_ _ z=>z.elim)));cases r with
 |none=>exact aP h₁
 |some v=>
  refine aB (fX h₁ (λ_ s₂ h₂=>?_) λ_ _ z=>z.elim);refine aB (fX h₂ (λ_ s₃ h₃=>aB (fX h₃ (λok s₄ h₄=>?_) λ_ _ z=>z.elim)) λ_ _ z=>z.elim);cases ok with
  |true=>
   simp only[if_true] at h₄ ⊢;exact aB (aB (fX h₄ (λx s₅ h₅=>aB (fX h₅ (λ_ s₆ h₆=>aP (aP ⟨rfl,h₆⟩)) λ_ _ z=>z.elim)) λ_ _ z=>z.elim))
  |false=>
   simp only[rR,nO] at h₄ ⊢;exact aP ⟨rfl,h₄⟩
theorem zhO{prog:Program}{w:World}{A:Around}{R:Result->Shared->Prop}{s:Shared}{elt target iter target₂ iter₂:Expr}{ifs ifs₂:List Expr}{scope:Scope}{pos:Pos}{it acc:Value}{env:Env}(V:Nat->Shared->Prop)(hs:∀x,foldedSetIterable iter₂ env x=pure x)
  (turn:∀n s,V n s->wpAny (model prog w) A (pyNext it) (λr s₁=>match r with
   |none=>R (.ok .next) s₁
   |some v=>wpAny (model prog w) A (letOwnedTupleGo target it v) (λ_ s₂=>wpAny (model prog w) A (assign target env v) (λ_ s₃=>
     wpAny (model prog w) A (jO ifs env) (λok s₄=>
      if ok=true then wpAny (model prog w) A (eval iter₂ env) (λx s₅=>wpAny (model prog w) A (pyIter x) (λit₂ s₆=>codeAny (model prog w) A (.compStart (.ListComp elt [⟨target,iter,ifs,0⟩,⟨target₂,iter₂,ifs₂,0⟩] scope pos) 1 it₂ acc env) (λr s₇=>r=.ok .next/\∃m,m<n/\V m s₇) s₆) (λ_ _=>False) s₅) (λ_ _=>False) s₄
      else ∃m,m<n/\V m s₄) (λ_ _=>False) s₃) (λ_ _=>False) s₂) (λ_ _=>False) s₁) (λ_ _=>False) s)
  (n:Nat) (h:V n s):codeAny (model prog w) A (.compLoop (.ListComp elt [⟨target,iter,ifs,0⟩,⟨target₂,iter₂,ifs₂,0⟩] scope pos) 0 it acc env) R s:=by
 refine codeAny_loop rfl V (λn s hV=>?_) n h;show wpAny _ A ((compTurn (.ListComp elt [⟨target,iter,ifs,0⟩,⟨target₂,iter₂,ifs₂,0⟩] scope pos) 0 it acc env).onRaise (λx=>do noteFrame x env;theTreesLotGoes x)) _ _ s;refine wpAny_noted ?_;rw[zdl];refine aB (ug (aB (fX (turn n s hV) (λr s₁ h₁=>?_) λ_ _ z=>z.elim)));cases r with
 |none=>exact aP h₁
 |some v=>
  refine aB (fX h₁ (λ_ s₂ h₂=>?_) λ_ _ z=>z.elim);refine aB (fX h₂ (λ_ s₃ h₃=>aB (fX h₃ (λok s₄ h₄=>?_) λ_ _ z=>z.elim)) λ_ _ z=>z.elim);cases ok with
  |true=>
   simp only[if_true] at h₄ ⊢;refine aB (fX h₄ (λx s₅ h₅=>aB (ug (aB (Fp (hs x) (aB (pQ (fX h₅ (λit₂ s₆ h₆=>aB (wpAny_runOwn (zF h₆ λr s₇ h₇=>?_))) λ_ _ z=>z.elim))))))) λ_ _ z=>z.elim);obtain⟨rfl,h₇⟩:=h₇;exact aP ⟨rfl,h₇⟩
  |false=>
   simp only[rR,nO] at h₄ ⊢;exact aP ⟨rfl,h₄⟩
theorem za3
  (h0:codeAny (model prog w) A (.compLoop (.ListComp elt [g₁,⟨target,iter,ifs,0⟩] scope pos) 1 it acc env) R s)
  (h:wpAny (model prog w) A (pyIter it) (λit' s'=>codeAny (model prog w) A (.compLoop (.ListComp elt [g₁,⟨target,iter,ifs,0⟩] scope pos) 1 it' acc env) R s') (λ_ _=>False) s) :
  codeAny (model prog w) A (.compStart (.ListComp elt [g₁,⟨target,iter,ifs,0⟩] scope pos) 1 it acc env) R s:=by
 refine codeAny_of_tree ?_;show wpAny _ _ ((compStart (.ListComp elt [g₁,⟨target,iter,ifs,0⟩] scope pos) 1 it acc env).onRaise (λx=>do noteFrame x env;standAt theWindowsPlace)) _ _ s;refine wpAny_notedAt ?_;unfold compStart;show wpAny _ _ (ask >>= _) _ _ s;refine aB (wpAny_askSetting (wpAny_ite ?_))
 split
 ·first
   |exact aB (aP (aP (And.intro rfl h0)))
   |exact aP (And.intro rfl h0)
 ·first
   |exact aB (zJ (aB (ug (aB (fX h (λit' s' h'=>aP (And.intro rfl h')) λ_ _ x=>x.elim)))))
   |(refine aB (zJ ?_);show wpAny _ _ (standAt iter.pos >>= _) _ _ s;exact aB (ug (aB (fX h (λit' s' h'=>aP (And.intro rfl h')) λ_ _ x=>x.elim))))
def S7(g:TG)(tt:TT)(te:TE)(D:Addr)(aZ:It)(Z:St)(H:Hp)(Nx:St->Hp->Prop):Prop:=∃W:Nat->Nat->St->Hp->Prop,(∃m,W 0 m Z H)/\∀i m Z' H',W i m Z' H'->
 (aZ.stop i H'/\Nx Z' H')\/(aZ.go i H'/\∃N:St->Hp->Prop,(∀Z2 H2,N Z2 H2->∃m',m'<m/\W (i+1) m' Z2 H2)/\∀x H2,aZ.uD i H' x H2->g x Z' H2 λZ3 H3=>tt Z3 H3 λok H4=>
  if ok=true then te Z3 H4 λy H5=>∃ys,H5 D=some (.lst ys)/\ys.length<sizeLine/\N Z3 (upd H5 D (.lst (ys++[y]))) else N Z3 H4)
theorem zkd{Y:Cx}{elt tg iter:Expr}{ifs:List Expr}{g₁:Comprehension}{scope:Scope}{pos:Pos}{g:TG}{tt:TT}{te:TE}(hc:Y.aj=true)(Oc:Y.xe=λ_ _=>False)(tgt:PG Y tg g)(Jv:FW Y ifs tt)(el:PE Y elt te)
  {ao:List (Addr×Obj)} {s:Shared} {Z:St} {H:Hp} {D it:Addr} {fp:List Addr} {tn:Nat->Heap->Prop} {aZ:It} {Nx:St->Hp->Prop} (I:Inv Y ao Z H s) (T:Turn Y.prog Y.w Y.K tg aZ fp it tn) (st:tn 0 s.heap) (f:∀b∈fp,fK Y ao H b) (h:S7 g tt te D aZ Z H Nx)
  {R:Result->Shared->Prop} (k:∀s' Z' H',Inv Y ao Z' H' s'->Nx Z' H'->R (.ok .next) s') :
  codeAny (model Y.prog Y.w) Y.A (.compStart (.ListComp elt [g₁,⟨tg,iter,ifs,0⟩] scope pos) 1 (.ref it) (.ref D) Y.env) R s:=by
 obtain⟨W,⟨m0,w0⟩,turn⟩:=h;have fY:∀{H':Hp},(∀b∈fp,H' b=none)->∀b∈fp,fK Y ao H' b:=λ{H'} z b hb=>⟨z b hb,(f b hb).2⟩;have loop:codeAny (model Y.prog Y.w) Y.A (.compLoop (.ListComp elt [g₁,⟨tg,iter,ifs,0⟩] scope pos) 1 (.ref it) (.ref D) Y.env) R s:=by
  refine zko (λn s'=>∃i Z' H',Inv Y ao Z' H' s'/\tn i s'.heap/\(∀b∈fp,H' b=none)/\W i n Z' H') ?_ m0 ⟨0,Z,H,I,st,λb hb=>(f b hb).1,w0⟩;rintro n s5 ⟨i,Z5,H5,jD,tW,wF,w5⟩;rcases turn i n Z5 H5 w5 with ⟨stop,q⟩|⟨go,Nn,hN,step⟩
  ·refine aW (T.done Y rfl rfl rfl hc i ao s5 Z5 H5 _ jD (fY wF) tW stop) λr s6 ⟨hr,mR⟩=>?_;subst hr;exact k s6 Z5 H5 mR q
  ·refine aW (T.item Y rfl rfl rfl hc i ao s5 Z5 H5 _ jD (fY wF) tW go) λr s6 ⟨u,hr,h6⟩=>?_;subst hr;refine aW h6 λ_ s7 ⟨x,H7,uI,r7,y7,uJ,Jx⟩=>?_;have oE:=uI.pinned (fY Jx) (T.obj _ _ uJ);have a1:=tgt _ s7 Z5 H7 x u _ oE r7 (step x H7 y7);rw[Oc] at a1;refine aW a1 λ_ s8 ⟨Z8,H8,uK,q8⟩=>?_;have a2:=Jv _ s8 Z8 H8 _ uK q8;rw[Oc] at a2;refine aW a2 λok s9 ⟨H9,uL,q9⟩=>?_;have again:∀{H':Hp} {s':Shared},Inv Y (ao++i_ fp s7.heap) Z8 H' s'->Nn Z8 H'->∃m,m<n/\∃i Z' H',Inv Y ao Z' H' s'/\tn i s'.heap/\(∀b∈fp,H' b=none)/\W i m Z' H':=λ{H' s'} f9 n'=>by
    obtain⟨m',hm,w'⟩:=hN Z8 H' n';refine⟨m',hm,i+1,Z8,H',f9.b_,T.keep _ _ _ uJ λb hb o e=>(f9.pin (b,o) (lg _ (lg _ (zQ hb e)))).1,λb hb=>?_,w'⟩;obtain⟨o,e,d⟩:=T.obj _ _ uJ b hb;exact(f9.pin (b,o) (lg _ (lg _ (zQ hb e)))).2.1
   cases ok with
   |false=>
    rw[if_neg Tc] at q9 ⊢;exact again uL q9
   |true=>
    rw[if_pos rfl] at q9 ⊢;have a3:=el _ s9 Z8 H9 _ uL q9;rw[Oc] at a3;refine aW a3 λv Ob ⟨y,SM,uM,r10,ys,Cy,hz,SN⟩=>?_;have a4:=R8 (X:=Y) _ Ob Z8 SM (.ref D) [y] (.ref D) [v] (λ_ H'=>Nn Z8 H') uM rfl (.cons r10 .nil) ⟨D,ys,y,rfl,rfl,Cy,hz,SN⟩;rw[Oc] at a4;exact aW a4 λ_ Ze ⟨_,Zf,oF,_,SQ⟩=>again oF SQ
 exact za3 loop (T.self _ 0 _ _ _ st loop)
def zU(ZY:St->St)(g₁:TG)(wi₂:TI)(g:TG)(tt:TT)(te:TE)(aZ:It)(Z:St)(H:Hp)(Q:VK):Prop:=∀D,H D=none->∃W:Nat->Nat->St->Hp->Prop,(∃m,W 0 m (ZY Z) (upd H D (.lst [])))/\∀i m Z' H',W i m Z' H'->
 (aZ.stop i H'/\Q (.ref D) H')\/(aZ.go i H'/\∃N:St->Hp->Prop,(∀Z2 H2,N Z2 H2->∃m',m'<m/\W (i+1) m' Z2 H2)/\∀x H2,aZ.uD i H' x H2->g₁ x Z' H2 λZ3 H3=>wi₂ Z3 H3 λaZ₂ H5=>S7 g tt te D aZ₂ Z3 H5 N)
section
variable {X:Cx}{elt tg iter tg₂ iter₂:Expr}{ifs₂:List Expr}{scope:Scope}{pos spos py:Pos}{N:List Str}{ZY:St->St}{wi wi₂:TI}{g g₁:TG}{tt:TT}{te:TE}{i:Nat}{y:Str}
structure qj(X:Cx)(elt tg tg₂ iter₂:Expr)(ifs₂:List Expr)(scope:Scope)(N:List Str)(g₁:TG)(wi₂:TI)(g:TG)(tt:TT)(te:TE):Prop where
 tgt₁:∀cl C s3 H3 fp ao,PG (X.blk scope cl N C s3 H3 fp ao) tg g₁
 it:∀cl C s3 H3 fp ao,PI (X.blk scope cl N C s3 H3 fp ao) tg₂ iter₂ wi₂
 tgt:∀cl C s3 H3 fp ao,PG (X.blk scope cl N C s3 H3 fp ao) tg₂ g
 Jv:∀cl C s3 H3 fp ao,FW (X.blk scope cl N C s3 H3 fp ao) ifs₂ tt
 el:∀cl C s3 H3 fp ao,PE (X.blk scope cl N C s3 H3 fp ao) elt te
theorem zfi(hc:X.aj=true)(B:cN X.env.scope scope)(P:qj X elt tg tg₂ iter₂ ifs₂ scope N g₁ wi₂ g tt te)(hs₂:∀env x,foldedSetIterable iter₂ env x=pure x)(hl:∀Z,(ZY Z).length=N.length)
  (hZ:∀(Z:St) (i:Nat) (x:Str) (v:V),N[i]?=some x->(ZY Z)[i]?=some (some v)->scope.names.lookup x=some .free/\∃j:Nat,X.N[j]?=some x/\Z[j]?=some (some v))
  {ao:List (Addr×Obj)} {s:Shared} {Z:St} {H:Hp} {Q:VK} {it:Addr} {fp:List Addr} {tn:Nat->Heap->Prop} {aZ:It} (I:Inv X ao Z H s) (T:Turn X.prog X.w X.K tg aZ fp it tn) (st:tn 0 s.heap) (f:∀b∈fp,fK X ao H b) (h:zU ZY g₁ wi₂ g tt te aZ Z H Q)
  {cl:List (Str×Addr)} (c1:∀x c,cl.lookup x=some c->X.env.cells.lookup x=some c) (c2:∀x∈scope.names,x.2=.free->∃c,cl.lookup x.1=some c) {R:Value->Addr->Result->Shared->Prop} {E:Value->Shared->Prop}
  (k:∀D C s' H',Inv X ao Z H' s'->X.s₀.heap.objs.size<=C->H' C=none->C≠X.env.locals->(∀x c,X.env.cells.lookup x=some c->c≠C)->(∀p∈X.pn++ao,p.1≠C)->(∃m,s'.heap.Ns C m)->Q (.ref D) H'->R (.ref D) C (.ok .next) s') :
  wpAny (model X.prog X.w) X.A (newList []) (λacc s₃=>wpAny (model X.prog X.w) X.A (newFunctionEnv scope X.env.globals cl [] X.env.qual none .none (some X.env)) (λcenv s₄=>
   codeAny (model X.prog X.w) X.A (.compStart (.ListComp elt [⟨tg,iter,[],0⟩,⟨tg₂,iter₂,ifs₂,0⟩] scope pos) 0 (.ref it) acc {cenv with scope:=relabel scope X.env}) (R acc cenv.locals) s₄) E s₃) E s:=by
 refine tU ?_;have hD:H s.heap.objs.size=none:=I.hok.fresh (bQ _);have I3:Inv X ao Z (upd H s.heap.objs.size (.lst [])) {s with heap:=s.heap.push {cls:=.type "list",dict:=none,data:=.seq ([]:List Value).toArray}}:=
  I.laid (t':=s.toks) (λb u q=>cj _ q) (bQ _) ⟨rY _,[],0,.nil,eN _ rfl⟩
 have f3:∀b∈fp,fK X ao (upd H s.heap.objs.size (.lst [])) b:=λb hb=>by
  obtain⟨a1,a2⟩:=f b hb;obtain⟨o,q,_⟩:=T.obj 0 _ st b hb;exact⟨by rw[bT (cU (bO q))];exact a1,a2⟩
 have st3:tn 0 (s.heap.push {cls:=.type "list",dict:=none,data:=.seq ([]:List Value).toArray}):=T.keep _ _ _ st λb hb o q=>cj _ q;obtain⟨W,⟨m0,w0⟩,turn⟩:=h s.heap.objs.size hD;generalize SJ:({s with heap:=s.heap.push {cls:=.type "list",dict:=none,data:=.seq ([]:List Value).toArray}}:Shared)=s3 at *;have qd:tn 0 s3.heap:=by rw[<-SJ];exact st3
 generalize hH3:upd H s.heap.objs.size (.lst [])=H3 at *;refine Y8 (λx c q=>by obtain⟨v,o,q1,_⟩:=I3.cell x c (c1 x c q);exact bO q1) (λx y c a b=>I3.ok.inj x y c (c1 x c a) (c1 y c b)) λh1 fC hn kp CN=>?_;have Cw:Inv (X.blk scope fC N s3.heap.objs.size s3 H3 fp ao) [] (ZY Z) H3 {s3 with heap:=h1}:=
  Y_ (t:=s3.toks) I3 B c1 c2 f3 (λb hb=>let ⟨o,q,_⟩:=T.obj 0 _ qd b hb;⟨o,q⟩) hn kp CN (hl Z) (hZ Z)
 have Jw:tn 0 h1:=T.keep _ _ _ qd λb hb o q=>kp b o q;have fY:∀{H':Hp},(∀b∈fp,H' b=none)->∀b∈fp,fK (X.blk scope fC N s3.heap.objs.size s3 H3 fp ao) [] H' b:=λ{H'} z b hb=>by
  obtain⟨a1,a2,a3,a4,a5,a6⟩:=f3 b hb;obtain⟨o,q,_⟩:=T.obj 0 _ qd b hb;refine⟨z b hb,cU (bO q),λy=>(jA.mp (I3.jZ b y)).elim a2 a3,.inl hb,λx c y=>?_,λp hp=>a6 p ?_⟩
  ·rcases CN.d1 x c y with ⟨q1,_⟩|⟨_,q1,_⟩
   ·exact a5 x c (c1 x c q1)
   ·exact λe=>absurd (bO q) (by rw[<-e];exact Fw.mpr (rW q1))
  have y:p∈(X.pn++ao)++[]:=hp;simpa using y
 have loop:codeAny (model X.prog X.w) X.A (.compLoop (.ListComp elt [⟨tg,iter,[],0⟩,⟨tg₂,iter₂,ifs₂,0⟩] scope pos) 0 (.ref it) (.ref s.heap.objs.size) (compEnvC scope fC s3.heap.objs.size X.env)) (R (.ref s.heap.objs.size) s3.heap.objs.size) {s3 with heap:=h1}:=by
  refine zhO (λn s'=>∃i Z' H',Inv (X.blk scope fC N s3.heap.objs.size s3 H3 fp ao) [] Z' H' s'/\tn i s'.heap/\(∀b∈fp,H' b=none)/\W i n Z' H') (hs₂ _) ?_ m0 ⟨0,ZY Z,H3,Cw,Jw,λb hb=>(f3 b hb).1,w0⟩;rintro n s5 ⟨i,Z5,H5,jD,tW,wF,w5⟩;rcases turn i n Z5 H5 w5 with ⟨stop,q⟩|⟨go,Nx,hN,step⟩
  ·refine aW (T.done (X.blk scope fC N s3.heap.objs.size s3 H3 fp ao) rfl rfl rfl hc i [] s5 Z5 H5 _ jD (fY wF) tW stop) λr s6 ⟨hr,mR⟩=>?_;subst hr;have JX:=Zc I3 f3 mR;refine k s.heap.objs.size s3.heap.objs.size s6 H5 JX I3.sz mR.free (pR I3.lt) (λx c y z=>?_) (λp hp z=>?_) ?_ q
   ·obtain⟨v,qc⟩:=I3.cell x c y;exact absurd qc.lt (by rw[z];exact pD _)
   ·exact absurd (bO (I3.pin p hp).1) (by rw[z];exact pD _)
   ·obtain⟨m,hm,_⟩:=mR.loc;exact⟨m,hm⟩
  ·refine aW (T.item (X.blk scope fC N s3.heap.objs.size s3 H3 fp ao) rfl rfl rfl hc i [] s5 Z5 H5 _ jD (fY wF) tW go) λr s6 ⟨u,hr,h6⟩=>?_;subst hr;refine aW h6 λ_ s7 ⟨x,H7,uI,r7,y7,uJ,Jx⟩=>?_;have oE:=uI.pinned (fY Jx) (T.obj _ _ uJ);refine aW (P.tgt₁ fC s3.heap.objs.size s3 H3 fp ao _ s7 Z5 H7 x u _ oE r7 (step x H7 y7)) λ_ s8 ⟨Z8,H8,uK,q8⟩=>?_;refine aW (wpAny_tests_nil (env:=compEnvC scope fC s3.heap.objs.size X.env) (Q:=λok s'=>ok=true/\s'=s8) ⟨rfl,rfl⟩) λok s9 ⟨e9,e9'⟩=>?_;subst e9 e9';rw[if_pos rfl];refine aW (P.it fC s3.heap.objs.size s3 H3 fp ao _ s9 Z8 H8 _ uK q8) λxv Ob h10=>aW h10 λitv Ze h11=>?_;obtain⟨it₂,fp₂,tn₂,aZ₂,Zf,S8,oF,T₂,st₂,f₂,hq⟩:=h11;subst S8;refine zkd (Y:=X.blk scope fC N s3.heap.objs.size s3 H3 fp ao) hc rfl (P.tgt fC s3.heap.objs.size s3 H3 fp ao) (P.Jv fC s3.heap.objs.size s3 H3 fp ao) (P.el fC s3.heap.objs.size s3 H3 fp ao) oF T₂ st₂ f₂ hq λs' Z' H' f9 n'=>⟨rfl,?_⟩;obtain⟨m',hm,w'⟩:=hN Z' H' n';refine⟨m',hm,i+1,Z',H',f9.b_,T.keep _ _ _ uJ λb hb o e=>(f9.pin (b,o) (lg _ (lg _ (zQ hb e)))).1,λb hb=>?_,w'⟩;obtain⟨o,e,d⟩:=T.obj _ _ uJ b hb;exact(f9.pin (b,o) (lg _ (lg _ (zQ hb e)))).2.1
 exact codeAny_compStart_list loop (T.self _ 0 _ _ _ Jw loop)
noncomputable def uP(wi:TI)(ZY:St->St)(g₁:TG)(wi₂:TI)(g:TG)(tt:TT)(te:TE):TE:=λZ H Q=>wi Z H λaZ H1=>zU ZY g₁ wi₂ g tt te aZ Z H1 Q
theorem zdA(hc:X.aj=true)(hN:X.N.Nodup)(qg:X.N[i]?=some y)(hx:Loc X.env.scope y)(hf:X.fn y=true\/X.env.scope.names.lookup y=some .local)(B:cN X.env.scope scope)(hi:PI X tg iter wi)(P:qj X elt tg tg₂ iter₂ ifs₂ scope N g₁ wi₂ g tt te)(hs₂:∀env x,foldedSetIterable iter₂ env x=pure x)(hl:∀Z,(ZY Z).length=N.length)
  (hZ:∀(Z:St) (i:Nat) (x:Str) (v:V),N[i]?=some x->(ZY Z)[i]?=some (some v)->scope.names.lookup x=some .free/\∃j:Nat,X.N[j]?=some x/\Z[j]?=some (some v))
  (uO:swapsWith (.ListComp elt [⟨tg,iter,[],0⟩,⟨tg₂,iter₂,ifs₂,0⟩] scope pos) (some (.Name y py)) spos.line X.env=pure true) (hs:∀x,foldedSetIterable iter X.env x=pure x:=by intro _;rfl) :
  PS X (.Assign [.Name y py] (.ListComp elt [⟨tg,iter,[],0⟩,⟨tg₂,iter₂,ifs₂,0⟩] scope pos) spos) (xX (uP wi ZY g₁ wi₂ g tt te) (dM i)):=by
 intro ao s Z H D I h;obtain⟨cl,qe,c1,c2⟩:=SX I B;rw[exec_Assign_Name_used _ _ _ _ uO];refine aB (ug (aB ?_));show wpAny _ X.A (do let _ <-comprehension (.ListComp elt [⟨tg,iter,[],0⟩,⟨tg₂,iter₂,ifs₂,0⟩] scope pos) scope X.env _ (newList []) false (eval iter X.env) (some (assign (.Name y py) X.env))) _ _ s;refine aB (QB (use:=some (assign (.Name y py) X.env)) rfl hs qe B.kind B.loc (aW (hi ao s Z H _ I h) λxv s1 h1=>aW h1 λitv s2 h2=>?_));obtain⟨it,fp,tn,aZ,H2,e,I2,T,st2,f2,hq⟩:=h2;subst e;refine zfi hc B P hs₂ hl hZ I2 T st2 f2 hq c1 c2 (R:=λacc C=>compPost (model X.prog X.w) X.A X.xe (some (assign (.Name y py) X.env)) _ acc C) λD' C s' H' f9 a b c d e ⟨m,hm⟩ q=>?_;show wpAny _ _ (assign (.Name y py) X.env (.ref D')) _ _ s';refine wpAny_assign_Name (Q9 (v:=.ref D') f9 hN qg hx rfl (λs5 jD ⟨ad,sb,S5⟩=>?_) hf);have nC:C≠ad:=by
  rcases S5 with z|z
  ·rw[z];exact c
  ·exact(d y ad z).symm
 obtain⟨ol,es,ep,e1,r1⟩:=hm;refine⟨m,⟨ol,es,ep,(sb.2 C nC).trans e1,r1⟩,λh' S6=>aP (aP ⟨_,H',Sx (Z':=Z) jD a b c d e S6,q⟩)⟩
end
end L2
namespace L2
open PySem PySem.Spec PyProof.Rows PySem.W
noncomputable def bf{α:Type}(lt:Nat->Nat->Option Bool):KasT α->Option α
 |.ret a=>some a
 |.ask i j k=>match lt i j with
  |some b=>bf lt (k b)
  |none=>none
theorem S9{α:Type}{lt:Nat->Nat->Option Bool}{cmp:Nat->Nat->(Bool->Shared->Prop)->Shared->Prop}{Q:α->Shared->Prop}{s:Shared}(hc:∀i j b C,lt i j=some b->C b s->cmp i j C s){a:α}(q:Q a s):∀{t:KasT α},bf lt t=some a->t.kasWp cmp Q s
 |.ret a',h=>by
  unfold bf at h;cases h;exact q
 |.ask i j k,h=>by
  unfold bf at h;cases e:lt i j with
  |none=>rw[e] at h;cases h
  |some b=>
   rw[e] at h;exact hc i j b _ e (S9 hc q h)
noncomputable def dI(vs:List Value)(p:Array Nat):Array Value:=if vs.length<2 then vs.toArray else List.toArray (p.toList.map λi=>vs.getD i Value.none)
section
variable {prog:Program}{w:World}{A:Around}{E:Value->Shared->Prop}{s:Shared}{κ:SortKind}{lt:Nat->Nat->Option Bool}{p:Array Nat}
theorem zcO{a:Addr}{vs:List Value}{n:Nat}{P:PySem.Fin->Shared->Prop}(ho:s.heap.get? a=some (seqObj "list" vs.toArray n))(nA:vs.length<64)
  (hk:2<=vs.length->∀(s':Shared) (Q:SortKind->Shared->Prop),(∀b o,b≠a->s.heap.get? b=some o->s'.heap.get? b=some o)->Q κ s'->wpAny (model prog w) A (keyKind' vs.toArray) Q E s')
  (cH:2<=vs.length->∀(s':Shared) i j b C,(∀b o,b≠a->s.heap.get? b=some o->s'.heap.get? b=some o)->lt i j=some b->C b s'->kas_ask prog w A κ vs i j C s') (hr:2<=vs.length->bf lt (kas_sort vs.length)=some p) (Jy:2<=vs.length->p.size=vs.length)
  (h:P (.done (.ret .none)) {s with heap:=sortedHeap s.heap a vs (dI vs p)}) :
  wpAny (model prog w) A (Builtin.«list.sort» ⟨[.ref a],[]⟩) P E s:=by
 rw[list_sort_plain];have ha:a<s.heap.objs.size:=bO ho;refine aB (listItems_at ho rfl ?_);refine aB (Bp ho rfl ?_ (by rw[fW,wu];lia) (rY _));obtain⟨e1,Cz⟩ : ∃e1,(s.heap.update a (Obj.mapSeq λ_=>#[])).get? a=some (seqObj "list" #[] e1):=⟨_,get?_update_seq ho (λ_=>#[])⟩;refine aB (seqEpoch_at Cz rfl ?_);refine aB (wpAny_newTuple ?_ (by show vs.length<=_;rw[wu];lia));refine aB (HB ?_ (rY _));refine pQ ?_;have keep:∀b o,b≠a->s.heap.get? b=some o->(((s.heap.update a (Obj.mapSeq λ_=>(#[]:Array Value))).push (seqObj "tuple" vs.toArray 0)).push (seqObj "list" #[] 0)).get? b=some o:=λb o nb e=>
  cj _ (cj _ ((zu _ _ _ _ nb).trans e))
 have Od:(((s.heap.update a (Obj.mapSeq λ_=>(#[]:Array Value))).push (seqObj "tuple" vs.toArray 0)).push (seqObj "list" #[] 0)).get? a=some (seqObj "list" #[] e1):=by
  rw[E_ _ _ _ (by rw[size_push',Hw];exact cU (tV ha)),E_ _ _ _ (by rw[Hw];exact cU ha)];exact Cz
 show wpAny (model prog w) A _ P E {s with heap:=((s.heap.update a (Obj.mapSeq λ_=>#[])).push (seqObj "tuple" vs.toArray 0)).push (seqObj "list" #[] 0)};dsimp only;have hsz:vs.toArray.size=vs.length:=by simp
 by_cases h2:vs.toArray.size<2
 ·rw[if_pos h2,if_pos h2];refine aB (aP ?_);rw[StateT.run_pure];refine aB (aP ?_);dsimp only;refine aB (seqEpoch_at Od rfl ?_);refine aB (Bp Od rfl ?_ (rY _) (by rw[Array.size_map];show (pairsOf vs).size<=_;rw[pairsOf_size,wu];lia));simp only[QV,rR,nO];have e:((vs.toArray.zip vs.toArray).map (·.2))=dI vs p:=by
   unfold dI;rw[if_pos (by rw[hsz] at h2;exact h2)];apply Array.toList_inj.mp;simp[List.map_snd_zip]
  refine aP ?_;have h':=h;rw[<-e] at h';exact h'
 ·rw[if_neg h2,if_neg h2];have lR:2<=vs.length:=by lia
  refine aB (hk lR _ _ keep ?_);refine aB (fX (kat_run (κ:=κ) (ks:=vs) (vs:=vs) (G:=λp' s'=>p'=p/\s'={s with heap:=((s.heap.update a (Obj.mapSeq λ_=>#[])).push (seqObj "tuple" vs.toArray 0)).push (seqObj "list" #[] 0)})
   (Q:=λst' s'=>arrOf st'=p.map (kas_item (vs.toArray.zip vs.toArray))/\failedOf st'=none/\s'={s with heap:=((s.heap.update a (Obj.mapSeq λ_=>#[])).push (seqObj "tuple" vs.toArray 0)).push (seqObj "list" #[] 0)})
   rfl lR nA (λp' st' s' a1 a2 a3 a4=>⟨by rw[a2,a4.1],a3,a4.2⟩) (S9 (λi j b C hl hC=>cH lR _ i j b C keep hl hC) ⟨rfl,rfl⟩ (hr lR))) ?_ λ_ _ e=>e)
  rintro⟨⟨⟩,st'⟩ s' ⟨FZ,hf,rfl⟩;dsimp only;have hout:=kat_snds (ks:=vs) (vs:=vs) rfl FZ;have e:List.toArray (p.toList.map λi=>vs.getD i Value.none)=dI vs p:=by
   unfold dI;rw[if_neg gV]
  rw[hout,e];have Zg:(dI vs p).size=vs.length:=by rw[<-e,fW,cR,pC,Jy lR]
  refine aB (seqEpoch_at Od rfl ?_);refine aB (Bp Od rfl ?_ (rY _) (by rw[Zg,wu];lia));rw[hf];simp only[QV,rR,nO];exact aP h
theorem S_(hl:s.heap.IsList l vs.toArray)(nA:vs.length<64)
  (hk:2<=vs.length->∀(s':Shared) (Q:SortKind->Shared->Prop) E,(∀b o,s.heap.get? b=some o->s'.heap.get? b=some o)->Q κ s'->wpAny (model prog w) A.in1.in1 (keyKind' vs.toArray) Q E s')
  (cH:2<=vs.length->∀(s':Shared) i j b C,(∀b o,s.heap.get? b=some o->s'.heap.get? b=some o)->lt i j=some b->C b s'->kas_ask prog w A.in1.in1 κ vs i j C s') (hr:2<=vs.length->bf lt (kas_sort vs.length)=some p) (Jy:2<=vs.length->p.size=vs.length)
  (h:Q (.ref (s.heap.objs.size+1)) {s with heap:=sortedAll s.heap vs (dI vs p)}) :
  wpAny (model prog w) A (call (.builtin "sorted") [.ref l]) Q E s:=by
 refine Calls.call_function_entry kind_sorted plain_sorted entry_sorted (args_sorted1 _) ?_;unfold Builtin.«sorted»;refine aB (m:=checkCount "sorted" 1 1 _) (aP ?_);refine aB (collect_list hl ?_ (by rw[wu];lia));refine aB (HB ?_ (by rw[wu];lia));have hsz:((s.heap.push (seqObj "list" #[] 0)).update s.heap.objs.size (Obj.mapSeq (·++vs.toArray))).objs.size=s.heap.objs.size+1:=by
  rw[Hw,size_push']
 have BL:(((s.heap.push (seqObj "list" #[] 0)).update s.heap.objs.size (Obj.mapSeq (·++vs.toArray))).push (seqObj "list" vs.toArray 0)).get? (s.heap.objs.size+1)=some (seqObj "list" vs.toArray 0):=by
  rw[<-hsz];exact eN _ rfl
 have keep:∀b o,s.heap.get? b=some o->(((s.heap.push (seqObj "list" #[] 0)).update s.heap.objs.size (Obj.mapSeq (·++vs.toArray))).push (seqObj "list" vs.toArray 0)).get? b=some o:=λb o q=>by
  have cH:b<s.heap.objs.size:=bO q;rw[E_ _ _ _ (by rw[hsz];exact cU (tV cH)),zu _ _ _ _ (cU cH),E_ _ _ _ (cU cH)];exact q
 show wpAny _ _ _ _ _ {s with heap:=((s.heap.push (seqObj "list" #[] 0)).update s.heap.objs.size (Obj.mapSeq (·++vs.toArray))).push (seqObj "list" vs.toArray 0)};rw[hsz];have nn:∀b o,s.heap.get? b=some o->b≠s.heap.objs.size+1:=λb o e=>cU (tV (bO e));refine aB (pQ (zA slot_list_sort ⟨_,BL,rfl⟩ entry_list_sort (zcO (κ:=κ) (lt:=lt) (p:=p) BL nA (λh2 s' Q' k q=>hk h2 s' Q' _ (λb o e=>k b o (nn b o e) (keep b o e)) q) (λh2 s' i j b C k e q=>cH h2 s' i j b C (λb o e=>k b o (nn b o e) (keep b o e)) e q) hr Jy ⟨_,rfl,?_⟩) (args_list_sort _)));exact aP ⟨_,rfl,h⟩
end
noncomputable def lF:List V->List V->Option Bool
 |[],ys=>some (decide (0<ys.length))
 |_::_,[]=>some false
 |.int x::xs,.int y::ys=>if x=y then lF xs ys else some (decide (x<y))
 |_::_,_::_=>none
theorem zmt{prog:Program}{w:World}{A:Around}{s:Shared}{fin:Bool}{C:Bool->Shared->Prop}{b:Bool}:∀{us ws:List V} {its jts:List Value} {i:Nat},Vals us its->Vals ws jts->lF us ws=some b->fin=decide (us.length<ws.length)->C b s->KatLex prog w A true fin C (its.zip jts) i s:=by
 intro us ws its jts i r1
 induction r1 generalizing ws jts i with
 |nil=>
  intro _ h hf hc;rw[List.zip_nil_left];unfold lF at h;cases h;rw[hf];exact kat_nil hc
 |@cons x u us its rx ri ih=>
  intro r2 h hf hc;cases r2 with
  |nil=>
   rw[List.zip_nil_right];unfold lF at h;cases h;rw[hf];exact kat_nil (by simpa using hc)
  |@cons y v ws jts ry rj=>
   rw[Hs];cases x with
   |int a=>
    cases y with
    |int c=>
     obtain⟨t,rfl⟩:=rx;obtain⟨t',rfl⟩:=ry;unfold lF at h;refine kat_cons (wpAny_eqBool_int ?_);by_cases e:a=c
     ·rw[if_pos e] at h;subst e;rw[Fd];exact kat_yes (ih rj h (by rw[hf];simp) hc)
     ·rw[if_neg e] at h;cases h;rw[show (a==c)=false by simpa using e];refine kat_no ?_;by_cases hi:i=0
      ·subst hi;exact oneLt_int hc
      ·rw[show (true&&i==0)=false by simpa using hi];exact kat_one _ _ (wpAny_lt_int hc)
    |_=>cases h
   |_=>cases y<;>cases h
def uQ(K:W.Frag)(H:Hp)(ys:List V)(lt:Nat->Nat->Option Bool):Prop:=
 ((∀v∈ys,∃i,v=V.int i)/\∀i j b,lt i j=some b->∃x y,ys[i]?=some (.int x)/\ys[j]?=some (.int y)/\b=decide (x<y)) \/
 ((∀v∈ys,∃a i r,v=.ref a/\gR K H a (.int i::r))/\∀i j b,lt i j=some b->∃a c us ws,ys[i]?=some (.ref a)/\ys[j]?=some (.ref c)/\gR K H a us/\gR K H c ws/\lF us ws=some b)
noncomputable def fP(ys:List V)(p:Array Nat):List V:=if ys.length<2 then ys else p.toList.map λi=>ys.getD i .non
theorem Zh(r:Vals ys its):∀l:List Nat,Vals (l.map λi=>ys.getD i .non) (l.map λi=>its.getD i Value.none)
 |[]=>.nil
 |i::l=>by
  refine .cons ?_ (Zh r l);cases e:ys[i]? with
  |some y=>
   obtain⟨u,e1,e2⟩:=r.get e;show RelV (ys.getD i .non) (its.getD i Value.none);rw[jM,jM,e,e1];exact e2
  |none=>
   have e1:its[i]?=none:=by rw[qJ] at e ⊢;rw[<-r.length];exact e
   show RelV (ys.getD i .non) (its.getD i Value.none);rw[jM,jM,e,e1];rfl
theorem Zi{ys:List V}{its:List Value}(r:Vals ys its)(p:Array Nat):Vals (fP ys p) (dI its p).toList:=by
 unfold fP dI;rw[r.length];by_cases h:its.length<2
 ·rw[if_pos h,if_pos h];exact r
 ·rw[if_neg h,if_neg h];exact Zh r p.toList
theorem zhW{ys:List V}{its:List Value}(r:Vals ys its):∀u∈its,∃v∈ys,RelV v u:=by
 induction r with
 |nil=>intro u hu;cases hu
 |cons h t ih=>
  intro u hu;rcases jA.mp hu with rfl|hu
  ·exact⟨_,lA,h⟩
  ·obtain⟨v,a,b⟩:=ih u hu;exact⟨v,iI _ a,b⟩
section
variable {X:Cx}
theorem Zj{prog:Program}{w:World}{A:Around}{E:Value->Shared->Prop}{s:Shared}{its:List Value}{Q:SortKind->Shared->Prop}(h2:2<=its.length)(hi:∀u∈its,∃i t,u=Value.int i t)(q:Q oneType' s):wpAny (model prog w) A (keyKind' its.toArray) Q E s:=
 kas_kind (T:=.type "int") h2 (λv hv=>by obtain⟨i,t,rfl⟩:=hi v hv;exact .of_pure rfl) Tc Tc q
theorem ziL{K:W.Frag}{ao:List (Addr×Obj)}{s:Shared}{Z:St}{H:Hp}(I:Inv X ao Z H s){h':Heap}(k:∀b o,s.heap.get? b=some o->h'.get? b=some o):∀{ys:List V} {its:List Value},Vals ys its->(∀v∈ys,∃a i r,v=.ref a/\gR X.K H a (.int i::r))->∃fs:List Value,fs.length=its.length/\(∀f∈fs,∃i t,f=Value.int i t)/\KatTups h' its fs:=by
 intro ys its r0
 induction r0 with
 |nil=>exact λ_=>⟨[],rfl,(λf hf=>by cases hf),trivial⟩
 |@cons v u ys its r rs ih=>
  intro h;obtain⟨a,i,r',rfl,hq⟩:=h _ lA;obtain⟨fs,l,hf,kt⟩:=ih λv hv=>h v (iI _ hv);obtain⟨its',rv,⟨o,ho,hc,n,hd⟩,_⟩:=I.tuple hq;cases (show u=Value.ref a from r);cases rv with
  |cons ri rr=>
   obtain⟨t,rfl⟩:=ri;refine⟨Value.int i t::fs,by simp[l],λf hf'=>?_,KatTups.cons (k _ _ ho) hc hd Zaa kt⟩;rcases jA.mp hf' with rfl|z
   ·exact⟨i,t,rfl⟩
   ·exact hf f z
theorem zgx{prog:Program}{w:World}{A:Around}{E:Value->Shared->Prop}{s:Shared}{its fs:List Value}{Q:SortKind->Shared->Prop}(h2:2<=its.length)(hl:fs.length=its.length)(hi:∀u∈fs,∃i t,u=Value.int i t)(kt:KatTups s.heap its fs)(q:Q (tuples' true) s):wpAny (model prog w) A (keyKind' its.toArray) Q E s:=
 kat_kind (T:=.type "int") kt gV (λv hv=>by obtain⟨i,t,rfl⟩:=hi v hv;exact .of_pure rfl) Tc q
theorem Ga{its:List Value}{i:Nat}{u:Value}(h:its[i]?=some u):its.getD i Value.none=u:=by rw[jM,h];rfl
theorem zdH:cW X (.builtin "sorted") (λxs H Q=>∃l ys lt p,xs=[.ref l]/\cV X.K H l ys/\ys.length<64/\(2<=ys.length->uQ X.K H ys lt/\bf lt (kas_sort ys.length)=some p/\p.size=ys.length)/\∀r,H r=none->Q (.ref r) (upd H r (.lst (fP ys p)))):=by
 intro ao s Z H xs us Q I r h;obtain⟨l,ys,lt,p,rfl,hq,nA,hs,q⟩:=h;obtain⟨u,rfl,rx⟩:=vals1 r;cases rx;obtain⟨its,rv,pl,hz⟩:=I.list hq;have hlen:=rv.length;have fin:EP X ao Z Q (.ref (s.heap.objs.size+1)) {s with heap:=sortedAll s.heap its (dI its p)}:=by
  obtain⟨e,he⟩:=sortedAll_at s.heap its (dI its p);have hn:H (s.heap.objs.size+1)=none:=I.hok.fresh (xH _);refine⟨.ref (s.heap.objs.size+1),_,I.laid (t':=s.toks) (λb u q=>sortedAll_old q) (xH _) (show bF X.prog X.w _ _ _ (.lst (fP ys p)) from ⟨?_,(dI its p).toList,e,Zi rv p,by rw[QL];exact he⟩),rfl,q _ hn⟩;unfold fP;by_cases h2:ys.length<2
  ·rw[if_pos h2];exact hz
  ·rw[if_neg h2,cR,pC,(hs gV).2.2];exact hz
 by_cases h2:2<=ys.length
 ·obtain⟨hS,hr,hp⟩:=hs h2;rcases hS with ⟨hI,cH⟩|⟨hT,cH⟩
  ·refine S_ (κ:=oneType') (lt:=lt) (p:=p) pl.isList gV (λlR s' Q' E' k q'=>Zj lR (λu hu=>?_) q') (λ_ s' i j b C k e hC=>?_) (λ_=>by rw[<-hlen];exact hr) (λ_=>by lia) fin
   ·obtain⟨v,hv,rr⟩:=zhW rv u hu;obtain⟨i,rfl⟩:=hI v hv;obtain⟨t,rfl⟩:=rr;exact⟨i,t,rfl⟩
   ·obtain⟨x,y,e1,e2,rfl⟩:=cH i j b e;obtain⟨u1,f1,g1⟩:=rv.get e1;obtain⟨u2,f2,g2⟩:=rv.get e2;obtain⟨t1,rfl⟩:=g1;obtain⟨t2,rfl⟩:=g2;show wpAny _ _ (keyLt' oneType' (its.getD i Value.none) (its.getD j Value.none)) C _ s';rw[Ga f1,Ga f2];exact kat_lt_int hC
  ·refine S_ (κ:=tuples' true) (lt:=lt) (p:=p) pl.isList gV (λlR s' Q' E' k q'=>?_) (λ_ s' i j b C k e hC=>?_) (λ_=>by rw[<-hlen];exact hr) (λ_=>by lia) fin
   ·obtain⟨fs,l1,hf,kt⟩:=ziL (K:=X.K) I k rv hT;exact zgx lR l1 hf kt q'
   ·obtain⟨a,c,us,ws,e1,e2,q1,q2,e3⟩:=cH i j b e;obtain⟨u1,f1,g1⟩:=rv.get e1;obtain⟨u2,f2,g2⟩:=rv.get e2;cases (show u1=Value.ref a from g1);cases (show u2=Value.ref c from g2);obtain⟨i1,r1,⟨o1,Cz,hc1,n1,hd1⟩,_⟩:=I.tuple q1;obtain⟨i2,r2,⟨o2,p7,nu,n2,hd2⟩,_⟩:=I.tuple q2;show wpAny _ _ (keyLt' (tuples' true) (its.getD i Value.none) (its.getD j Value.none)) C _ s';rw[Ga f1,Ga f2];refine kat_lt (k _ _ Cz) hd1 (k _ _ p7) hd2 (zmt r1 r2 e3 ?_ hC);rw[r1.length,r2.length];simp
 ·exact S_ (κ:=oneType') (lt:=lt) (p:=p) pl.isList gV (λlR=>absurd lR gV) (λlR=>absurd lR gV) (λlR=>absurd lR gV) (λlR=>absurd lR gV) fin
end
end L2
namespace L2
open PySem PySem.Spec PyProof.Rows PySem.W PySem.Calls PySem.Builtin PySem.Builtin.ObjectAttr
end L2
namespace L2
open PySem PySem.Spec PyProof.Rows PySem.W PySem.Calls
end L2
namespace PySem
open Sem (wp)
end PySem
namespace L2
open PySem PySem.Spec PyProof.Rows PySem.W PySem.Calls
theorem Zk{α:Type}:∀{l:List (Str×α)} {f:Str} {u:α},(l.map (·.1)).Nodup->(f,u)∈l->l.lookup f=some u
 |(g,v)::r,f,u,hn,hm=>by
  rw[jV,xu] at hn;rw[pN];rcases jA.mp hm with e|hm
  ·cases e;simp
  ·have:f≠g:=λz=>hn.1 (by rw[<-z];exact nJ.mpr ⟨(f,u),hm,rfl⟩);rw[show (f==g)=false by simpa using this];exact Zk hn.2 hm
theorem zjO{α:Type}{fs:List Str}{us:List α}{i:Nat}{f:Str}{u:α}(h1:fs[i]?=some f)(h2:us[i]?=some u):(f,u)∈fs.zip us:=by
 refine eG (i:=i) ?_;exact(List.getElem?_zip_eq_some (z:=(f,u))).mpr ⟨h1,h2⟩
structure XF(K:Frag)(C:Addr)(f:Str):Prop where
 ga:findIn K (.ref C) "__getattribute__"=some (some (.builtin "BaseException.__getattribute__"))
 gn:findIn K (.ref C) "__getattr__"=some none
 mb:mroIn K C (.type "BaseException")=some true
 no:findIn K (.ref C) f=some none
 hd:hasDictIn K C=true
end L2
namespace L2
open PySem PySem.Spec PyProof.Rows
section
variable {X:Cx}{ao:List (Addr×Obj)}{Z:St}{H:Hp}{s:Shared}{h':Heap}
theorem Inv.lU{t':Nat}{ch:List Addr}{a:Addr}{o:HO}(I:Inv X ao Z H s)(k:∀b u,b∉ch->s.heap.get? b=some u->h'.get? b=some u)(hf:∀b∈ch,fK X ao H b)(ha:s.heap.objs.size<=a)(new:bF X.prog X.w (upd H a o) h' a o) :
  Inv X ao Z (upd H a o) {s with heap:=h',toks:=t'}:=by
 have zO:∀b u,H b=some u->b∉ch:=λb u e z=>by rw[(hf b z).1] at e;cases e
 have hn:H a=none:=I.hok.fresh ha;have na:∀b u,H b=some u->b≠a:=λb u e z=>by rw[z,hn] at e;cases e
 have la:∀b u,s.heap.get? b=some u->b≠a:=λb u e=>cU (fV (bO e) ha);refine I.step (g':=s.gens) (d':=s.drawn) (ch:=ch) (λb hb=>?_) (λb o _ _ hc e _=>k b o hc e) (λb o _ _ hc e _=>⟨o.slots,k b o hc e⟩) (λb o' _ e n=>by rw[bT (la b o' e)];exact n)
  (λb o hc e=>⟨o,k b o hc e⟩) (λb xs e=>by rw[bT (na b _ e)];exact e) (λb o u e=>by rw[bT (na b _ e)];exact e) (λb ps e=>⟨#[],by rw[bT (na b _ e),e];simp,.nil⟩) (λm hm=>?_) (λb u e=>?_) I.bare
 ·obtain⟨f0,f1,f2,f3,f4,f5⟩:=hf b hb;exact⟨f3.imp id λz=>Ep z,f1,f4,f5⟩
 ·obtain⟨o,es,ep,ho,r⟩:=hm;exact⟨o,es,ep,k _ o (λz=>(hf _ z).2.1 rfl) ho,r⟩
 ·by_cases z:b=a
  ·subst z;rw[iJ] at e;cases e;exact new
  ·rw[bT z] at e;refine(I.hok b u e).stay (λc v hc q=>k c v ?_ q) (λc q=>by rw[bT (na c _ q)];exact q) λc _ q=>by rw[bT (na c _ q)];exact q
   rcases hc with y|y
   ·rw[y];exact zO b u e
   ·exact zO c _ y
theorem Inv.qZ{t':Nat}{ch:List Addr}(I:Inv X ao Z H s)(k:∀b u,b∉ch->s.heap.get? b=some u->h'.get? b=some u)(hf:∀b∈ch,fK X ao H b):Inv X ao Z H {s with heap:=h',toks:=t'}:=by
 have zO:∀b u,H b=some u->b∉ch:=λb u e z=>by rw[(hf b z).1] at e;cases e
 refine I.step (g':=s.gens) (d':=s.drawn) (ch:=ch) (λb hb=>?_) (λb o _ _ hc e _=>k b o hc e) (λb o _ _ hc e _=>⟨o.slots,k b o hc e⟩) (λ_ _ _ _ n=>n)
  (λb o hc e=>⟨o,k b o hc e⟩) (λ_ _ e=>e) (λ_ _ _ e=>e) (λb ps e=>⟨#[],by rw[e];simp,.nil⟩) (λm hm=>?_) (λb u e=>?_) I.bare
 ·obtain⟨f0,f1,f2,f3,f4,f5⟩:=hf b hb;exact⟨f3.imp id λz=>Ep z,f1,f4,f5⟩
 ·obtain⟨o,es,ep,ho,r⟩:=hm;exact⟨o,es,ep,k _ o (λz=>(hf _ z).2.1 rfl) ho,r⟩
 ·refine(I.hok b u e).stay (λc v hc q=>k c v ?_ q) (λ_ q=>q) λ_ _ q=>q;rcases hc with y|y
  ·rw[y];exact zO b u e
  ·exact zO c _ y
end
structure lV(prog:Program)(w:World)(it src:Addr)(st:Nat->Heap->Prop)(its:Array Value):Prop where
 item:∀(A:Around) (E:Value->Shared->Prop) (s:Shared) (i:Nat) (x:Value) (Q:Value->Shared->Prop),st i s.heap->its[i]?=some x->(∀h',st (i+1) h'->Heap.SameBut it s.heap h'->Q x {s with heap:=h'})->wpAny (model prog w) A (Builtin.SmallTypes.nextOf (.ref it)) Q E s
 fin:∀(A:Around) (E:Value->Shared->Prop) (s:Shared) (i:Nat) (Q:Value->Shared->Prop),A.handled=none->st i s.heap->its[i]?=none->(∀h' e,Heap.ExtBut it s.heap h'->(∃o,h'.get? e=some o/\o.cls=.type "StopIteration")->E (.ref e) {s with heap:=h'})->wpAny (model prog w) A (Builtin.SmallTypes.nextOf (.ref it)) Q E s
 keep:∀i h h',st i h->(∀b o,b=it\/b=src->h.get? b=some o->h'.get? b=some o)->st i h'
theorem lV.list(hne:l≠it):lV prog w it l (λi h=>h.IsListIter it l i/\h.IsList l its) its where
 item:=λA E s i x Q ⟨h1,h2⟩ hx q=>wpAny_nextOf_list_item h1 h2 hx λh' a sb=>q h' ⟨a,h2.at λo e=>(sb.2 l hne).trans e⟩ sb
 fin:=λA E s i Q hh ⟨h1,h2⟩ hx q=>wpAny_nextOf_list_end hh h1 h2 hx q
 keep:=λi h h' ⟨h1,h2⟩ k=>⟨h1.at λo e=>k it o (.inl rfl) e,h2.at λo e=>k l o (.inr rfl) e⟩
theorem Zm(l:Addr):¬((Value.ref l==Value.none)=true):=λz=>by cases (show false=true from z)
theorem IsTupleIter.at'{h h':Heap}{it l:Addr}{i:Nat}(x:h.IsTupleIter it l i)(k:∀o,h.get? it=some o->h'.get? it=some o):h'.IsTupleIter it l i:=by
 obtain⟨o,e,r⟩:=x;exact⟨o,k o e,r⟩
theorem IsTuple.at'{h h':Heap}{l:Addr}{xs:Array Value}(x:h.IsTuple l xs)(k:∀o,h.get? l=some o->h'.get? l=some o):h'.IsTuple l xs:=by
 obtain⟨o,e,r⟩:=x;exact⟨o,k o e,r⟩
section
variable {prog:Program}{w:World}{A:Around}{E:Value->Shared->Prop}{s:Shared}{it l:Addr}{i:Nat}{its:Array Value}
theorem zeS{x:Value}{Q:Value->Shared->Prop}(hi:s.heap.IsTupleIter it l i)(hl:s.heap.IsTuple l its)(hx:its[i]?=some x)(q:∀h',h'.IsTupleIter it l (i+1)->Heap.SameBut it s.heap h'->Q x {s with heap:=h'}) :
  wpAny (model prog w) A (Builtin.SmallTypes.nextOf (.ref it)) Q E s:=by
 obtain⟨oi,ei,ci,di⟩:=id hi;obtain⟨ol,el,_,nl,dl⟩:=hl;unfold Builtin.SmallTypes.nextOf;refine aB (Az (name:=Str.ofString "__next__") hi.typeIs Mx (zA Mx hi.typeIs F.entry_tuple_iterator_next ?_ (F.args_tuple_iterator_next_1 _)));show wpAny _ A.in1 (field (.ref it) 0 >>= _) _ E s;refine aB (mF ei di (x:=.ref l) rfl ?_);show wpAny _ A.in1 (if (Value.ref l==Value.none)=true then _ else _) _ E s;rw[if_neg (Zm l)];show wpAny _ A.in1 (field (.ref it) 1 >>= _) _ E s;refine aB (mF ei di (x:=.int i 0) rfl ?_);show wpAny _ A.in1 (seqItems? (.ref l) >>= _) _ E s;refine aB (rT el dl ?_);simp only[pL,hx];refine aB (Hz ei di Zaa (aP ⟨x,rfl,aP (q _ ⟨_,A_ _ ei (MK (zy di _)),(Obj.cls_mapFields ..).trans ci,?_⟩ (Heap.SameBut.update ..))⟩));rw[zy di];simp[rawInt]
theorem zfC{Q:Value->Shared->Prop}(hh:A.handled=none)(hi:s.heap.IsTupleIter it l i)(hl:s.heap.IsTuple l its)(hx:its[i]?=none)(q:∀h' e,Heap.ExtBut it s.heap h'->(∃o,h'.get? e=some o/\o.cls=.type "StopIteration")->E (.ref e) {s with heap:=h'}) :
  wpAny (model prog w) A (Builtin.SmallTypes.nextOf (.ref it)) Q E s:=by
 obtain⟨oi,ei,ci,di⟩:=id hi;obtain⟨ol,el,_,nl,dl⟩:=hl;unfold Builtin.SmallTypes.nextOf;refine aB (Az (name:=Str.ofString "__next__") hi.typeIs Mx (zA Mx hi.typeIs F.entry_tuple_iterator_next ?_ (F.args_tuple_iterator_next_1 _)));show wpAny _ A.in1 (field (.ref it) 0 >>= _) _ E s;refine aB (mF ei di (x:=.ref l) rfl ?_);show wpAny _ A.in1 (if (Value.ref l==Value.none)=true then _ else _) _ E s;rw[if_neg (Zm l)];show wpAny _ A.in1 (field (.ref it) 1 >>= _) _ E s;refine aB (mF ei di (x:=.int i 0) rfl ?_);show wpAny _ A.in1 (seqItems? (.ref l) >>= _) _ E s;refine aB (rT el dl ?_);simp only[pL,hx];refine aB (zJ (aB (Hz ei di Zaa ?_)));show wpAny _ A.in1 (newExc (.type "StopIteration") [] >>= _) _ E _;refine aB ?_;simp only[newExc,newTuple];refine aB (tU (aB (m:=firstArgMember _ _) (Fp (a:=Value.none) (by first|rfl|(simp only[firstArgMember];rfl)) (tU ?_ (by size_fits)))) (by size_fits));simp only[raiseNew];refine aB (wpAny_handled ?_);rw[show A.in1.handled=none from hh];exact aB (aP (wpAny_throw (q _ _ (((Heap.SameBut.update ..).extBut.push _).push _) ⟨_,eN _ rfl,rfl⟩)))
end
theorem lV.tuple{prog:Program}{w:World}{it l:Addr}{its:Array Value}(hne:l≠it):lV prog w it l (λi h=>h.IsTupleIter it l i/\h.IsTuple l its) its where
 item:=λA E s i x Q ⟨h1,h2⟩ hx q=>zeS h1 h2 hx λh' a sb=>q h' ⟨a,IsTuple.at' h2 λo e=>(sb.2 l hne).trans e⟩ sb
 fin:=λA E s i Q hh ⟨h1,h2⟩ hx q=>zfC hh h1 h2 hx q
 keep:=λi h h' ⟨h1,h2⟩ k=>⟨IsTupleIter.at' h1 λo e=>k it o (.inl rfl) e,IsTuple.at' h2 λo e=>k l o (.inr rfl) e⟩
structure mU(z TI TO i1 i2 l1 l2:Addr):Prop where
 zs:z≠TI/\z≠TO/\z≠i1/\z≠i2/\z≠l1/\z≠l2
 os:TO≠TI/\TO≠i1/\TO≠i2/\TO≠l1/\TO≠l2
 is:TI≠i1/\TI≠i2/\i1≠i2/\i1≠l1/\i1≠l2/\i2≠l1/\i2≠l2
section
variable {prog:Program}{w:World}{A:Around}{E:Value->Shared->Prop}{s:Shared}{z TI TO i1 i2 l1 l2:Addr}{st1 st2:Nat->Heap->Prop}{xs ys:Array Value}{k:Nat}{a b:Value}
theorem zg4(N1:lV prog w i1 l1 st1 xs)(N2:lV prog w i2 l2 st2 ys)(D:mU z TI TO i1 i2 l1 l2)(hz:IsZip s.heap z TI TO .none)(Td:IsPair s.heap TI (.ref i1) (.ref i2))(Te:IsPair s.heap TO a b)
  (h1:st1 k s.heap) (h2:st2 k s.heap) (hx:xs[k]?=some x) (hy:ys[k]?=some y)
  (q:∀h',IsZip h' z TI TO (rawInt s.heap.objs.size)->IsPair h' TO x y->st1 (k+1) h'->st2 (k+1) h'->IsPair h' s.heap.objs.size x y->h'.objs.size=s.heap.objs.size+1->(∀c o,c≠z->c≠TO->c≠i1->c≠i2->s.heap.get? c=some o->h'.get? c=some o)->Q (some (.ref s.heap.objs.size)) {s with heap:=h'}) :
  wpAny (model prog w) A (pyNext (.ref z)) Q E s:=by
 obtain⟨⟨z1,z2,z3,z4,z5,z6⟩,⟨t1,t2,t3,t4,t5⟩,⟨j1,j2,j3,j4,j5,j6,j7⟩⟩:=D;have hT:s.TypeIs (.ref z) "zip":=⟨_,hz,rfl⟩;unfold pyNext;refine aB (Fl (Az (name:=Str.ofString "__next__") hT M_ (zA M_ hT F.entry_zip_next ?_ (F.args_zip_next_1 _))));show wpAny _ A.in1 (field (.ref z) 2 >>= _) _ _ s;refine aB (mF hz rfl (x:=.bool false) rfl ?_);show wpAny _ A.in1 (field (.ref z) 3 >>= _) _ _ s;refine aB (mF hz rfl (x:=.ref TI) rfl (aB (rT Td rfl ?_)));show wpAny _ A.in1 (Builtin.SmallTypes.ownedTupleIsFree (.ref z) >>= _) _ _ s;refine aB ?_;unfold Builtin.SmallTypes.ownedTupleIsFree;refine aB (mF hz rfl (x:=.none) rfl (aP ?_));simp only[if_true];refine aB (zJ (aB (mF hz rfl (x:=.ref TO) rfl (aB (Ey hz Zaa λha za sa=>aB ?_)))))
 replace za:IsZip ha z TI TO .ellipsis:=za
 simp only[List.zipIdx_cons,List.zipIdx_nil,Fj,Nf];refine aB (aB (wpAny_onRaise ?_));show wpAny _ A.in1 (Builtin.SmallTypes.nextOf (.ref i1) >>= _) _ _ _;refine aB (N1.item _ _ {s with heap:=ha} k x _ (N1.keep _ _ _ h1 λc o hc e=>sa.extBut c o (by rcases hc with rfl|rfl;exact z3.symm;exact z5.symm) e) hx λhb Zn sb=>aP ?_);have tb:IsPair hb TO a b:=sb.extBut _ _ t2 (sa.extBut _ _ z2.symm Te);refine aB (rT tb rfl (aB (QM tb λhc tc sc=>aB (zG (aP ?_)))))
 replace tc:IsPair hc TO x b:=tc
 refine aB (aB (wpAny_onRaise ?_));show wpAny _ A.in1 (Builtin.SmallTypes.nextOf (.ref i2) >>= _) _ _ _;have k2:st2 k hc:=N2.keep _ _ _ h2 λc o lD e=>by
  rcases lD with rfl|rfl
  ·exact sc.extBut _ _ t3.symm (sb.extBut _ _ j3.symm (sa.extBut _ _ z4.symm e))
  ·exact sc.extBut _ _ t5.symm (sb.extBut _ _ j5.symm (sa.extBut _ _ z6.symm e))
 have k1:st1 (k+1) hc:=N1.keep _ _ _ Zn λc o lD e=>by
  rcases lD with rfl|rfl
  ·exact sc.extBut _ _ t2.symm e
  ·exact sc.extBut _ _ t4.symm e
 refine aB (N2.item _ _ {s with heap:=hc} k y _ k2 hy λhd sd2 sd=>aP ?_);have td:IsPair hd TO x b:=sd.extBut _ _ t3 tc;refine aB (rT td rfl (aB (QM td λhe te se=>aB (zG (aP (aP ?_))))))
 replace te:IsPair he TO x y:=te
 refine aB (rT te rfl (aB (wpAny_newTuple ?_)));have size:he.objs.size=s.heap.objs.size:=by rw[se.1,sd.1,sc.1,sb.1,sa.1]
 have ze:IsZip he z TI TO .ellipsis:=se.extBut _ _ z2 (sd.extBut _ _ z4 (sc.extBut _ _ z2 (sb.extBut _ _ z3 za)));have kept:∀c o,c≠z->c≠TO->c≠i1->c≠i2->s.heap.get? c=some o->he.get? c=some o:=λc o c1 c2 c3 c4 e=>se.extBut _ _ c2 (sd.extBut _ _ c4 (sc.extBut _ _ c2 (sb.extBut _ _ c3 (sa.extBut _ _ c1 e))));have e1:st1 (k+1) he:=N1.keep _ _ _ k1 λc o lD e=>by
  rcases lD with rfl|rfl
  ·exact se.extBut _ _ t2.symm (sd.extBut _ _ j3 e)
  ·exact se.extBut _ _ t4.symm (sd.extBut _ _ j6.symm e)
 have e2:st2 (k+1) he:=N2.keep _ _ _ sd2 λc o lD e=>by
  rcases lD with rfl|rfl
  ·exact se.extBut _ _ t3.symm e
  ·exact se.extBut _ _ t5.symm e
 show wpAny _ A.in1 (Builtin.SmallTypes.ownedTupleHandOut (.ref z) (.ref he.objs.size) >>= _) _ _ _;refine aB ?_;unfold Builtin.SmallTypes.ownedTupleHandOut;have zf:IsZip (he.push {cls:=.type "tuple",data:=.seq #[x,y]}) z TI TO .ellipsis:=cj _ ze;refine aB (Ey zf Zaa λhg zg sg=>Ey zg Zaa λhh zh sh=>aP ⟨_,rfl,aP ?_⟩)
 replace zh:IsZip hh z TI TO (rawInt he.objs.size):=zh
 have up:∀c o,c≠z->he.get? c=some o->hh.get? c=some o:=λc o c1 e=>sh.extBut _ _ c1 (sg.extBut _ _ c1 (cj _ e));have lz:z<he.objs.size:=bO ze;have tn:IsPair hh he.objs.size x y:=sh.extBut _ _ (pR lz) (sg.extBut _ _ (pR lz) (eN _ rfl));have sz:hh.objs.size=he.objs.size+1:=by rw[sh.1,sg.1,wj]
 rw[size] at zh tn sz;show Q (some (.ref he.objs.size)) _;rw[size];exact q hh zh (up _ _ z2.symm te) (N1.keep _ _ _ e1 λc o lD e=>up c o (by rcases lD with rfl|rfl;exact z3.symm;exact z5.symm) e) (N2.keep _ _ _ e2 λc o lD e=>up c o (by rcases lD with rfl|rfl;exact z4.symm;exact z6.symm) e) tn sz λc o c1 c2 c3 c4 e=>up c o c1 (kept c o c1 c2 c3 c4 e)
theorem zjX(hn:A.handled=none)(N1:lV prog w i1 l1 st1 xs)(N2:lV prog w i2 l2 st2 ys)(D:mU z TI TO i1 i2 l1 l2)(hz:IsZip s.heap z TI TO .none)(Td:IsPair s.heap TI (.ref i1) (.ref i2))(Te:IsPair s.heap TO a b)
  (h1:st1 k s.heap) (h2:st2 k s.heap) (hx:xs[k]?=none\/ys[k]?=none) (q:∀h',(∀c o,c≠z->c≠TO->c≠i1->c≠i2->s.heap.get? c=some o->h'.get? c=some o)->Q none {s with heap:=h'}):wpAny (model prog w) A (pyNext (.ref z)) Q E s:=by
 obtain⟨⟨z1,z2,z3,z4,z5,z6⟩,⟨t1,t2,t3,t4,t5⟩,⟨j1,j2,j3,j4,j5,j6,j7⟩⟩:=D;have hT:s.TypeIs (.ref z) "zip":=⟨_,hz,rfl⟩;have stop:∀(h':Heap) (e:Addr),(∀c o,c≠z->c≠TO->c≠i1->c≠i2->s.heap.get? c=some o->h'.get? c=some o)->(∃o,h'.get? e=some o/\o.cls=.type "StopIteration")->
   wpAny (model prog w) A (do if <-isInstance (.ref e) (.type "StopIteration") then pure none else throw (.ref e):Sem (Option Value)) Q E {s with heap:=h'}:=λh' e kp ⟨o,ho,hc⟩=>
  aB (M9 (T:="StopIteration") (b:=true) ⟨o,ho,hc⟩ isSubtype_stop (aP (q h' kp)))
 unfold pyNext;refine aB (Fl (Az (name:=Str.ofString "__next__") hT M_ (zA M_ hT F.entry_zip_next ?_ (F.args_zip_next_1 _))));show wpAny _ A.in1 (field (.ref z) 2 >>= _) _ _ s;refine aB (mF hz rfl (x:=.bool false) rfl ?_);show wpAny _ A.in1 (field (.ref z) 3 >>= _) _ _ s;refine aB (mF hz rfl (x:=.ref TI) rfl (aB (rT Td rfl ?_)));show wpAny _ A.in1 (Builtin.SmallTypes.ownedTupleIsFree (.ref z) >>= _) _ _ s;refine aB ?_;unfold Builtin.SmallTypes.ownedTupleIsFree;refine aB (mF hz rfl (x:=.none) rfl (aP ?_));simp only[if_true];refine aB (zJ (aB (mF hz rfl (x:=.ref TO) rfl (aB (Ey hz Zaa λha za sa=>aB ?_)))))
 replace za:IsZip ha z TI TO .ellipsis:=za
 simp only[List.zipIdx_cons,List.zipIdx_nil,Fj,Nf];refine aB (aB (wpAny_onRaise ?_));show wpAny _ A.in1 (Builtin.SmallTypes.nextOf (.ref i1) >>= _) _ _ _;have ka:st1 k ha:=N1.keep _ _ _ h1 λc o hc e=>sa.extBut c o (by rcases hc with rfl|rfl;exact z3.symm;exact z5.symm) e;cases ex:xs[k]? with
 |none=>
  refine aB (N1.fin _ _ {s with heap:=ha} k _ hn ka ex λhb e sb se=>?_);obtain⟨oe,ho,hc⟩:=se;have zb:IsZip hb z TI TO .ellipsis:=sb _ _ z3 za;have ne:e≠z:=λy=>by subst y;rw[zb] at ho;cases ho;simp at hc
  exact Ey zb Zaa λhd _ sd=>stop hd e (λc o c1 _ c3 _ y=>sd.extBut _ _ c1 (sb _ _ c3 (sa.extBut _ _ c1 y))) ⟨oe,sd.extBut _ _ ne ho,hc⟩
 |some x=>
  have ey:ys[k]?=none:=by
   rcases hx with y|y
   ·rw[ex] at y;cases y
   ·exact y
  refine aB (N1.item _ _ {s with heap:=ha} k x _ ka ex λhb Zn sb=>aP ?_);have tb:IsPair hb TO a b:=sb.extBut _ _ t2 (sa.extBut _ _ z2.symm Te);refine aB (rT tb rfl (aB (QM tb λhc tc sc=>aB (zG (aP ?_)))));refine aB (aB (wpAny_onRaise ?_));show wpAny _ A.in1 (Builtin.SmallTypes.nextOf (.ref i2) >>= _) _ _ _;have k2:st2 k hc:=N2.keep _ _ _ h2 λc o lD e=>by
   rcases lD with rfl|rfl
   ·exact sc.extBut _ _ t3.symm (sb.extBut _ _ j3.symm (sa.extBut _ _ z4.symm e))
   ·exact sc.extBut _ _ t5.symm (sb.extBut _ _ j5.symm (sa.extBut _ _ z6.symm e))
  refine aB (N2.fin _ _ {s with heap:=hc} k _ hn k2 ey λhd e sd se=>?_);obtain⟨oe,ho,qe⟩:=se;have zd:IsZip hd z TI TO .ellipsis:=sd _ _ z4 (sc.extBut _ _ z2 (sb.extBut _ _ z3 za));have ne:e≠z:=λy=>by subst y;rw[zd] at ho;cases ho;simp at qe
  exact Ey zd Zaa λhf _ sf=>stop hf e (λc o c1 c2 c3 c4 y=>sf.extBut _ _ c1 (sd _ _ c4 (sc.extBut _ _ c2 (sb.extBut _ _ c3 (sa.extBut _ _ c1 y))))) ⟨oe,sf.extBut _ _ ne ho,qe⟩
end
noncomputable def Ck:Bool->Heap->Addr->Array Value->Prop
 |true,h,l,xs=>h.IsList l xs
 |false,h,l,xs=>h.IsTuple l xs
noncomputable def Rk:Bool->Addr->Addr->Nat->Heap->Prop
 |true,it,l,i,h=>h.IsListIter it l i
 |false,it,l,i,h=>h.IsTupleIter it l i
noncomputable def Sk:Bool->W.Frag->Hp->Addr->List V->Prop
 |true,K,H,l,xs=>cV K H l xs
 |false,K,H,l,xs=>gR K H l xs
noncomputable def gJ:Bool->Addr->Obj
 |true,l=>{cls:=.type "list_iterator",data:=.fields #[.ref l,.int 0 0]}
 |false,l=>{cls:=.type "tuple_iterator",data:=.fields #[.ref l,.int 0 0]}
theorem lV.of(kd:Bool)(hne:l≠it):lV prog w it l (λi h=>Rk kd it l i h/\Ck kd h l its) its:=by
 cases kd
 ·exact lV.tuple hne
 ·exact lV.list hne
theorem Ck.keep(x:Ck kd h l xs)(k:∀o,h.get? l=some o->h'.get? l=some o):Ck kd h' l xs:=by
 cases kd
 ·exact IsTuple.at' x k
 ·exact Heap.IsList.at x k
theorem Rk.keep(x:Rk kd it l i h)(k:∀o,h.get? it=some o->h'.get? it=some o):Rk kd it l i h':=by
 cases kd
 ·exact IsTupleIter.at' x k
 ·exact Heap.IsListIter.at x k
theorem Rk.obj(x:Rk kd it l i h):∃o,h.get? it=some o/\∀v,o.data≠.cell v:=by
 cases kd
 ·obtain⟨o,e,c,d⟩:=x;exact⟨o,e,λv z=>by rw[d] at z;cases z⟩
 ·obtain⟨o,e,c,d⟩:=x;exact⟨o,e,λv z=>by rw[d] at z;cases z⟩
theorem Ck.lt(x:Ck kd h l xs):l<h.objs.size:=by
 cases kd
 ·obtain⟨o,e,_⟩:=x;exact bO e
 ·obtain⟨o,e,_⟩:=x;exact bO e
section
variable {prog:Program}{w:World}{A:Around}{E:Value->Shared->Prop}{s:Shared}
theorem Oe(c:Ck kd s.heap l xs)(q:Q (.ref s.heap.objs.size) {s with heap:=s.heap.push (gJ kd l)}):wpAny (model prog w) A (pyIter (.ref l)) Q E s:=by
 cases kd
 ·exact wpAny_pyIter_tuple c q
 ·exact M6 c q
end
noncomputable def zH(h:Heap)(k1 k2:Bool)(l1 l2:Addr):Heap:=((((h.push (gJ k1 l1)).push (gJ k2 l2)).push {cls:=.type "tuple",data:=.seq #[.ref h.objs.size,.ref (h.push (gJ k1 l1)).objs.size]}).push {cls:=.type "tuple",data:=.seq #[.none,.none]}).push
 {cls:=.type "zip",data:=.fields #[.none,.bool false,.bool false,.ref ((h.push (gJ k1 l1)).push (gJ k2 l2)).objs.size,.ref (((h.push (gJ k1 l1)).push (gJ k2 l2)).push {cls:=.type "tuple",data:=.seq #[.ref h.objs.size,.ref (h.push (gJ k1 l1)).objs.size]}).objs.size]}
theorem zhu(k1 k2:Bool)(l1 l2:Addr)(xs ys:Array Value):Meets (Builtin.«zip.__new__» ⟨[.type "zip",.ref l1,.ref l2],[]⟩) (λ_ R s=>Ck k1 s.heap l1 xs/\Ck k2 s.heap l2 ys /\
   R (.ok (.ret (.ref ((((s.heap.push (gJ k1 l1)).push (gJ k2 l2)).push {cls:=.type "tuple",data:=.seq #[.ref s.heap.objs.size,.ref (s.heap.push (gJ k1 l1)).objs.size]}).push {cls:=.type "tuple",data:=.seq #[.none,.none]}).objs.size))) {s with heap:=zH s.heap k1 k2 l1 l2}):=
 .of_wp λprog w A R s h=>by
  obtain⟨hp,g,d,tk,os⟩:=s;obtain⟨c1,c2,h⟩:=h;have hsub:=sub_zip;have C1:Ck k1 (Shared.heap ⟨hp,g,d,tk,os⟩) l1 xs:=c1;have C2:Ck k2 (Shared.heap ⟨hp.push (gJ k1 l1),g,d,tk,os⟩) l2 ys:=c2.keep λo e=>cj _ e
  wp_walk using Oe C1,Oe C2
  exact⟨_,rfl,h⟩
section
variable {prog:Program}{w:World}{A:Around}{E:Value->Shared->Prop}{s:Shared}
theorem zi1(c1:Ck k1 s.heap l1 xs)(c2:Ck k2 s.heap l2 ys)
  (h:∀h',IsZip h' (s.heap.objs.size+4) (s.heap.objs.size+2) (s.heap.objs.size+3) .none->IsPair h' (s.heap.objs.size+2) (.ref s.heap.objs.size) (.ref (s.heap.objs.size+1))->IsPair h' (s.heap.objs.size+3) .none .none->
   Rk k1 s.heap.objs.size l1 0 h'->Rk k2 (s.heap.objs.size+1) l2 0 h'->(∀c o,s.heap.get? c=some o->h'.get? c=some o)->Q (.ref (s.heap.objs.size+4)) {s with heap:=h'}) :
  wpAny (model prog w) A (call (.type "zip") [.ref l1,.ref l2]) Q E s:=by
 refine callType_new F.called_zip Tc (F.typeCall_zip_2 _ _) (F.newCall_zip_2 _ _) (λobj=>F.args_object_init_3 obj _ _) F.entry_zip_new (zhu k1 k2 l1 l2 xs ys) ⟨c1,c2,?_⟩;have n1:(s.heap.push (gJ k1 l1)).objs.size=s.heap.objs.size+1:=wj ..;have n2:((s.heap.push (gJ k1 l1)).push (gJ k2 l2)).objs.size=s.heap.objs.size+2:=by rw[wj,n1]
 have fr:∀kd l,(gJ kd l).isFreed=false:=λkd l=>by cases kd<;>rfl
 have rk:∀{h:Heap} {a:Addr} {kd:Bool} {l:Addr},h.get? a=some (gJ kd l)->Rk kd a l 0 h:=λ{h a kd l} e=>by
  cases kd
  ·exact⟨_,e,rfl,rfl⟩
  ·exact⟨_,e,rfl,rfl⟩
 have o1:(s.heap.push (gJ k1 l1)).get? s.heap.objs.size=some (gJ k1 l1):=eN _ (fr _ _);have o2:((s.heap.push (gJ k1 l1)).push (gJ k2 l2)).get? (s.heap.objs.size+1)=some (gJ k2 l2):=by
  have:=eN (s.heap.push (gJ k1 l1)) (o:=gJ k2 l2) (fr _ _);rw[n1] at this;exact this
 generalize hA:(s.heap.push (gJ k1 l1)).push (gJ k2 l2)=Og at *;have eH:zH s.heap k1 k2 l1 l2=((Og.push {cls:=.type "tuple",data:=.seq #[.ref s.heap.objs.size,.ref (s.heap.objs.size+1)]}).push {cls:=.type "tuple",data:=.seq #[.none,.none]}).push {cls:=.type "zip",data:=.fields #[.none,.bool false,.bool false,.ref (s.heap.objs.size+2),.ref (s.heap.objs.size+3)]}:=by
  unfold zH;rw[hA,n1,n2,wj,n2]
 have n3:(Og.push {cls:=.type "tuple",data:=.seq #[.ref s.heap.objs.size,.ref (s.heap.objs.size+1)]}).objs.size=s.heap.objs.size+3:=by rw[wj,n2]
 have n4:((Og.push {cls:=.type "tuple",data:=.seq #[.ref s.heap.objs.size,.ref (s.heap.objs.size+1)]}).push {cls:=.type "tuple",data:=.seq #[.none,.none]}).objs.size=s.heap.objs.size+4:=by rw[wj,n3]
 rw[n1,n4];have g5:(zH s.heap k1 k2 l1 l2).get? (s.heap.objs.size+4)=some {cls:=.type "zip",data:=.fields #[.none,.bool false,.bool false,.ref (s.heap.objs.size+2),.ref (s.heap.objs.size+3)]}:=by
  rw[eH,<-n4];exact eN _ rfl
 have g4:(zH s.heap k1 k2 l1 l2).get? (s.heap.objs.size+3)=some {cls:=.type "tuple",data:=.seq #[.none,.none]}:=by
  rw[eH,<-n3];exact cj _ (eN _ rfl)
 have g3:(zH s.heap k1 k2 l1 l2).get? (s.heap.objs.size+2)=some {cls:=.type "tuple",data:=.seq #[.ref s.heap.objs.size,.ref (s.heap.objs.size+1)]}:=by
  rw[eH,<-n2];exact cj _ (cj _ (eN _ rfl))
 have up:∀c o,Og.get? c=some o->(zH s.heap k1 k2 l1 l2).get? c=some o:=λc o e=>by rw[eH];exact cj _ (cj _ (cj _ e))
 refine⟨⟨_,g5,rfl⟩,h _ g5 g3 g4 (rk (up _ _ ?_)) (rk (up _ _ o2)) λc o e=>up _ _ ?_⟩
 ·rw[<-hA];exact cj _ o1
 ·rw[<-hA];exact cj _ (cj _ e)
end
noncomputable def Tf(K:W.Frag)(k1 k2:Bool)(l1 l2:Addr):It:=
 ⟨λi H=>∃xs ys x y,Sk k1 K H l1 xs/\Sk k2 K H l2 ys/\xs[i]?=some x/\ys[i]?=some y,
  λi H v H'=>∃a x y,H a=none/\v=.ref a/\H'=upd H a (.tup [x,y])/\(∀xs,Sk k1 K H l1 xs->xs[i]?=some x)/\∀ys,Sk k2 K H l2 ys->ys[i]?=some y,
  λi H=>∃xs ys,Sk k1 K H l1 xs/\Sk k2 K H l2 ys/\(xs.length<=i\/ys.length<=i)⟩
section
variable {X:Cx}{ao:List (Addr×Obj)}{Z:St}{H:Hp}{s:Shared}{kd:Bool}{l:Addr}{xs ys:List V}
theorem Inv.row(I:Inv X ao Z H s)(h:Sk kd X.K H l xs):∃its:List Value,Vals xs its/\Ck kd s.heap l its.toArray:=by
 cases kd
 ·obtain⟨its,rv,p,hz⟩:=I.tuple h;exact⟨its,rv,p⟩
 ·obtain⟨its,rv,p,hz⟩:=I.list h;exact⟨its,rv,p.isList⟩
theorem Inv.mV(I:Inv X ao Z H s)(h:Sk kd X.K H l xs)(h':Sk kd X.K H l ys):xs=ys:=by
 cases kd
 ·exact I.lQ h h'
 ·exact I.nZ h h'
end
theorem zh2{P:Program}{w:World}{K:W.Frag}{elts:List Expr}{kk:Nat}{pos:Pos}{k1 k2:Bool}{l1 l2 z TI TO i1 i2:Addr}(D:mU z TI TO i1 i2 l1 l2) :
  Turn P w K (.Tuple elts kk pos) (Tf K k1 k2 l1 l2) [z,TI,TO,i1,i2] z (λi h=>IsZip h z TI TO .none/\IsPair h TI (.ref i1) (.ref i2)/\(∃a b,IsPair h TO a b)/\Rk k1 i1 l1 i h/\Rk k2 i2 l2 i h) where
 mem:=by simp
 obj:=λi h ⟨a1,a2,⟨p,q,a3⟩,a4,a5⟩ b hb=>by
  have:b=z\/b=TI\/b=TO\/b=i1\/b=i2:=by simpa using hb
  rcases this with rfl|rfl|rfl|rfl|rfl
  ·exact⟨_,a1,λv y=>by cases y⟩
  ·exact⟨_,a2,λv y=>by cases y⟩
  ·exact⟨_,a3,λv y=>by cases y⟩
  ·exact a4.obj
  ·exact a5.obj
 keep:=λi h h' ⟨a1,a2,⟨p,q,a3⟩,a4,a5⟩ k=>⟨k z Zaa _ a1,k TI Zaa _ a2,⟨p,q,k TO Zaa _ a3⟩,a4.keep λo e=>k i1 Zaa o e,a5.keep λo e=>k i2 Zaa o e⟩
 item:=by
  intro X hP hw hK hc i ao s Z H E I hf ⟨a1,a2,⟨p,q,a3⟩,a4,a5⟩ hg;subst hP hw hK;obtain⟨xs,ys,x,y,Gb,hq2,hx,hy⟩:=hg;obtain⟨Zo,Oh,c1⟩:=I.row Gb;obtain⟨Jz,Oi,c2⟩:=I.row hq2;obtain⟨u,hu,ru⟩:=Oh.get hx;obtain⟨v,hv,rv⟩:=Oi.get hy;have D':=D;obtain⟨⟨z1,z2,z3,z4,z5,z6⟩,⟨t1,t2,t3,t4,t5⟩,⟨j1,j2,j3,j4,j5,j6,j7⟩⟩:=D';refine zg4 (lV.of k1 j4.symm) (lV.of k2 j7.symm) D a1 a2 a3 ⟨a4,c1⟩ ⟨a5,c2⟩ (x:=u) (y:=v) (by simpa using hu) (by simpa using hv) λh1 b1 b2 b3 b4 b5 b6 kp=>?_;refine⟨_,rfl,wpAny_letOwnedTupleGo_zip (s:={s with heap:=h1}) b1 λh2 e2 sb=>?_⟩;have Ti:IsPair h2 s.heap.objs.size u v:=(sb.2 _ (pR (bO a1))).trans b5;have kk:∀b o,b∉[z,TI,TO,i1,i2]->s.heap.get? b=some o->h2.get? b=some o:=λb o hb e=>(sb.2 b λy=>hb (by simp[y])).trans (kp b o (λy=>hb (by simp[y])) (λy=>hb (by simp[y])) (λy=>hb (by simp[y])) (λy=>hb (by simp[y])) e);have I2:=I.lU (t':=s.toks) (a:=s.heap.objs.size) (o:=.tup [x,y]) kk (λb hb=>hf b hb) (bQ _) (show bF X.prog X.w _ h2 _ (.tup [x,y]) from ⟨by show 2<=sizeLine;decide,[u,v],.cons ru (.cons rv .nil),⟨_,Ti,rfl,_,rfl⟩⟩);have hn:H s.heap.objs.size=none:=I.hok.fresh (bQ _);refine⟨.ref s.heap.objs.size,_,I2,rfl,⟨_,x,y,hn,rfl,rfl,λzs hz=>by rw[I.mV hz Gb];exact hx,λzs hz=>by rw[I.mV hz hq2];exact hy⟩,⟨e2,(sb.2 _ z1.symm).trans (kp _ _ z1.symm t1.symm j1 j2 a2),⟨_,_,(sb.2 _ z2.symm).trans b2⟩,b3.1.keep λo e=>(sb.2 _ z3.symm).trans e,b4.1.keep λo e=>(sb.2 _ z4.symm).trans e⟩,λb hb=>?_⟩;have nb:b≠s.heap.objs.size:=by
   have:b=z\/b=TI\/b=TO\/b=i1\/b=i2:=by simpa using hb
   rcases this with rfl|rfl|rfl|rfl|rfl
   ·exact cU (bO a1)
   ·exact cU (bO a2)
   ·exact cU (bO a3)
   ·obtain⟨o,e,_⟩:=a4.obj;exact cU (bO e)
   ·obtain⟨o,e,_⟩:=a5.obj;exact cU (bO e)
  rw[bT nb];exact(hf b hb).1
 done:=by
  intro X hP hw hK hc i ao s Z H E I hf ⟨a1,a2,⟨p,q,a3⟩,a4,a5⟩ hg;subst hP hw hK;obtain⟨xs,ys,Gb,hq2,hx⟩:=hg;obtain⟨Zo,Oh,c1⟩:=I.row Gb;obtain⟨Jz,Oi,c2⟩:=I.row hq2;have n1:=Oh.length;have n2:=Oi.length;refine zjX (I.ok.hd hc) (lV.of k1 D.is.2.2.2.1.symm) (lV.of k2 D.is.2.2.2.2.2.2.symm) D a1 a2 a3 ⟨a4,c1⟩ ⟨a5,c2⟩ ?_ λh' kp=>⟨rfl,I.qZ (t':=s.toks) (ch:=[z,TI,TO,i1,i2]) (λb o hb e=>kp b o (λy=>hb (by simp[y])) (λy=>hb (by simp[y])) (λy=>hb (by simp[y])) (λy=>hb (by simp[y])) e) λb hb=>hf b hb⟩;rcases hx with y|y
  ·exact .inl (by simp;lia)
  ·exact .inr (by simp;lia)
 self:=λ_ _ _ _ _ ⟨a1,_⟩ h=>wpAny_pyIter_zip a1 h
section
variable {X:Cx}
noncomputable def Tj(K:W.Frag)(ta:TA):TI:=λZ H R=>ta Z H λvs H1=>∃k1 k2 l1 l2 xs ys,vs=[.ref l1,.ref l2]/\Sk k1 K H1 l1 xs/\Sk k2 K H1 l2 ys/\R (Tf K k1 k2 l1 l2) H1
theorem zhp:bootBuiltins "zip"=some (.type "zip"):=by decide +kernel
theorem zlI{a b:Expr}{ta:TA}{p pos tpos:Pos}{elts:List Expr}{kk:Nat}(hg:Gl X "zip")(hm:X.mg "zip"=none)(ha:PA X [a,b] ta)(hs:starEach [a,b] X.env=[(false,eval a X.env),(false,eval b X.env)]:=by rfl)(zP:starEach [b] X.env=[(false,eval b X.env)]:=by rfl) :
  PI X (.Tuple elts kk tpos) (.Call (.Name "zip" p) [a,b] [] pos) (Tj X.K ta):=by
 intro ao s Z H R I h;refine Call_ (wD I hg hm zhp (Ax (aW (ha pos ao s Z H _ I h) λus s1 ⟨vs,H1,I1,r1,q1⟩=>?_) (by rw[hs,zP]) (by rw[zP];rfl)));obtain⟨k1,k2,l1,l2,xs,ys,e,Gb,hq2,q⟩:=q1;subst e;cases r1 with
 |cons r rr=>
  cases rr with
  |cons r' rr=>
   cases rr;cases r;cases r';obtain⟨Zo,Oh,c1⟩:=I1.row Gb;obtain⟨Jz,Oi,c2⟩:=I1.row hq2;have m1:=c1.lt;have m2:=c2.lt;refine zi1 c1 c2 λh' b1 b2 b3 b4 b5 kp=>?_;refine wpAny_pyIter_zip b1 ?_;have ne:∀{u v:Nat},u<v->u≠v:=λh=>cU h;have D:mU (s1.heap.objs.size+4) (s1.heap.objs.size+2) (s1.heap.objs.size+3) s1.heap.objs.size (s1.heap.objs.size+1) l1 l2:=
    ⟨⟨(ne gV).symm,(ne gV).symm,(ne gV).symm,(ne gV).symm,(ne (fV m1 gV)).symm,(ne (fV m2 gV)).symm⟩,
     ⟨(ne gV).symm,(ne gV).symm,(ne gV).symm,(ne (fV m1 gV)).symm,(ne (fV m2 gV)).symm⟩,
     ⟨(ne gV).symm,(ne gV).symm,ne gV,(ne m1).symm,(ne m2).symm,(ne (fV m1 gV)).symm,(ne (fV m2 gV)).symm⟩⟩
   refine⟨s1.heap.objs.size+4,[s1.heap.objs.size+4,s1.heap.objs.size+2,s1.heap.objs.size+3,s1.heap.objs.size,s1.heap.objs.size+1],_,_,H1,rfl,I1.kept (t':=s1.toks) kp,zh2 D,⟨b1,b2,⟨_,_,b3⟩,b4,b5⟩,λb hb=>?_,q⟩;have:s1.heap.objs.size<=b:=by
    have:b=s1.heap.objs.size+4\/b=s1.heap.objs.size+2\/b=s1.heap.objs.size+3\/b=s1.heap.objs.size\/b=s1.heap.objs.size+1:=by simpa using hb
    rcases this with rfl|rfl|rfl|rfl|rfl<;>lia
   exact I1.uE this (I1.hok.fresh this)
end
noncomputable def Ite(K:W.Frag)(kd:Bool)(l:Addr):It:=
 ⟨λi H=>∃xs x,Sk kd K H l xs/\xs[i]?=some x,λi H v H'=>∃a x,H a=none/\v=.ref a/\H'=upd H a (.tup [.int i,x])/\∀xs,Sk kd K H l xs->xs[i]?=some x,λi H=>∃xs,Sk kd K H l xs/\xs.length<=i⟩
theorem CG{prog:Program}{w:World}{A:Around}(hh:A.handled=none)(kd:Bool){it l:Addr}(hne:l≠it)(its:Array Value):Draws prog w A it [it,l] its.size (λi v=>its[i]?=some v) (λi h=>Rk kd it l i h/\Ck kd h l its) where
 live:=λ_ _ st=>let ⟨o,e,_⟩:=st.1.obj;⟨o,e⟩
 frame:=λ_ _ _ st k=>⟨st.1.keep λo e=>k it Zaa o e,st.2.keep λo e=>k l Zaa o e⟩
 item:=λi s Q E hi st q=>(lV.of kd hne).item A E s i its[i] Q st (by simp[hi]) λh' a b=>q _ h' s.toks (by simp[hi]) a b
 done:=λs Q E st q=>(lV.of kd hne).fin A E s its.size Q hh st Zaa q
theorem zhI(kd:Bool)(l:Addr)(xs:Array Value):Meets (Builtin.«enumerate.__new__» ⟨[.type "enumerate",.ref l],[]⟩) (λ_ R s=>Ck kd s.heap l xs /\
   R (.ok (.ret (.ref (s.heap.push (gJ kd l)).objs.size))) {s with heap:=(s.heap.push (gJ kd l)).push {cls:=.type "enumerate",data:=.fields #[.none,.bool false,.ref s.heap.objs.size,rawInt 0,.none,.none]}}):=
 .of_wp λprog w A R s h=>by
  obtain⟨hp,g,d,tk,os⟩:=s;obtain⟨c1,h⟩:=h;have hsub:=sub_enumerate;have C1:Ck kd (Shared.heap ⟨hp,g,d,tk,os⟩) l xs:=c1;obtain⟨ol,el⟩ : ∃o,hp.get? l=some o:=by
   cases kd
   ·obtain⟨o,e,_⟩:=c1;exact⟨o,e⟩
   ·obtain⟨o,e,_⟩:=c1;exact⟨o,e⟩
  wp_walk using MF el
  refine wpAny_stack_any λst=>aP ?_
  split
  ·rename_i c _ _ _ _ _;cases (c==Value.type "enumerate")<;>(wp_walk using MF el,Oe C1;exact⟨_,rfl,h⟩)
  ·wp_walk using MF el,Oe C1
   exact⟨_,rfl,h⟩
theorem zh1{prog:Program}{w:World}{A:Around}{E:Value->Shared->Prop}{s:Shared}{e it l:Addr}{its:Array Value}{st:Nat->Heap->Prop}{i:Nat}{old:Value}{Q:Option Value->Shared->Prop}(hh:A.handled=none)(N:lV prog w it l st its)(he:IsEnum s.heap e it i old)(BW:st i s.heap)(hx:its[i]?=none)
  (q:∀h',Heap.ExtBut it s.heap h'->Q none {s with heap:=h'}):wpAny (model prog w) A (pyNext (.ref e)) Q E s:=by
 have ty:s.TypeIs (.ref e) "enumerate":=⟨_,he,rfl⟩;have body:∀{E':Value->Shared->Prop},(∀h' x,Heap.ExtBut it s.heap h'->(∃o,h'.get? x=some o/\o.cls=.type "StopIteration")->E' (.ref x) {s with heap:=h'})->wpAny (model prog w) A.in1 (Builtin.«enumerate.__next__» ⟨[.ref e],[]⟩) (λ_ _=>False) E' s:=λk=>by
  show wpAny _ A.in1 (field (.ref e) 2 >>= _) _ _ _;exact aB (mF he rfl (x:=.ref it) rfl (aB (N.fin A.in1 _ s i _ hh BW hx k)))
 unfold pyNext;refine aB (Fl (Az (name:=Str.ofString "__next__") ty F.slot_enumerate_next (zA F.slot_enumerate_next ty F.entry_enumerate_next (fX (body λh' x a b=>?_) (λ_ _ z=>z.elim) λ_ _ z=>z) (F.args_enumerate_next_1 _))));obtain⟨o,a1,a2⟩:=b;exact aB (M9 (T:="StopIteration") (b:=true) ⟨o,a1,a2⟩ isSubtype_stop (aP (q h' a)))
theorem zgL{P:Program}{w:World}{K:W.Frag}{elts:List Expr}{kk:Nat}{pos:Pos}{kd:Bool}{l e it:Addr}(Tn:e≠it)(Zq:l≠it)(hle:l≠e) :
  Turn P w K (.Tuple elts kk pos) (Ite K kd l) [e,it] e (λi h=>(∃old,IsEnum h e it i old)/\Rk kd it l i h) where
 mem:=by simp
 obj:=λi h ⟨⟨old,he⟩,st⟩ b hb=>by
  have:b=e\/b=it:=by simpa using hb
  rcases this with rfl|rfl
  ·exact⟨_,he,λv z=>by cases z⟩
  ·exact st.obj
 keep:=λi h h' ⟨⟨old,he⟩,st⟩ k=>⟨⟨old,k e Zaa _ he⟩,st.keep λo e=>k it Zaa o e⟩
 item:=by
  intro X hP hw hK hc i ao s Z H E I hf ⟨⟨old,he⟩,st⟩ hg;subst hP hw hK;obtain⟨xs,x,hq,hx⟩:=hg;obtain⟨its,rv,p⟩:=I.row hq;obtain⟨u,hu,ru⟩:=rv.get hx;have cH:i<its.toArray.size:=by simpa using (dW.mp hu).1
  refine wpAny_pyNext_enum_itemD (CG (A:=X.A.in1) (I.ok.hd hc) kd Zq its.toArray) he ⟨st,p⟩ cH Tn (by simp[Tn,hle.symm]) λu' h1 tk hP ho Tq hT hsz hk=>?_;have eu:u'=u:=by
   have:its[i]?=some u':=by simpa using hP
   rw[hu] at this;cases this;rfl
  subst eu;refine⟨_,rfl,wpAny_letOwnedTupleGo_enum (s:={s with heap:=h1,toks:=tk+1}) ho λh2 he2 sb=>?_⟩;have Ti:h2.get? s.heap.objs.size=some {cls:=.type "tuple",data:=.seq #[.int i tk,u']}:=(sb.2 _ (pR (bO he))).trans hT;have kk:∀b o,b∉[e,it]->s.heap.get? b=some o->h2.get? b=some o:=λb o hb q=>(sb.2 b λz=>hb (by simp[z])).trans (hk b o (λz=>hb (by simp[z])) (λz=>hb (by simp[z])) q);have I2:=I.lU (t':=tk+1) (a:=s.heap.objs.size) (o:=.tup [.int i,x]) kk (λb hb=>hf b hb) (bQ _) (show bF X.prog X.w _ h2 _ (.tup [.int i,x]) from ⟨by show 2<=sizeLine;decide,[.int i tk,u'],.cons ⟨_,rfl⟩ (.cons ru .nil),⟨_,Ti,rfl,_,rfl⟩⟩);have hn:H s.heap.objs.size=none:=I.hok.fresh (bQ _);refine⟨.ref s.heap.objs.size,_,I2,rfl,⟨_,x,hn,rfl,rfl,λys hy=>by rw[I.mV hy hq];exact hx⟩,⟨⟨_,by simpa using he2⟩,Tq.1.keep λo q=>(sb.2 it Tn.symm).trans q⟩,λb hb=>?_⟩;have nb:b≠s.heap.objs.size:=by
   have:b=e\/b=it:=by simpa using hb
   rcases this with rfl|rfl
   ·exact cU (bO he)
   ·obtain⟨o,q,_⟩:=st.obj;exact cU (bO q)
  rw[bT nb];exact(hf b hb).1
 done:=by
  intro X hP hw hK hc i ao s Z H E I hf ⟨⟨old,he⟩,st⟩ hg;subst hP hw hK;obtain⟨xs,hq,hx⟩:=hg;obtain⟨its,rv,p⟩:=I.row hq;have hl:=rv.length;exact zh1 (I.ok.hd hc) (lV.of kd Zq) he ⟨st,p⟩ (by simp;lia) λh' eb=>⟨rfl,I.qZ (t':=s.toks) (ch:=[e,it]) (λb o hb q=>eb b o (λz=>hb (by simp[z])) q) λb hb=>hf b hb⟩
 self:=λ_ _ _ _ _ ⟨⟨old,he⟩,_⟩ h=>wpAny_pyIter_enum he h
section
variable {X:Cx}
noncomputable def JD(K:W.Frag)(ta:TA):TI:=λZ H R=>ta Z H λvs H1=>∃kd l xs,vs=[.ref l]/\Sk kd K H1 l xs/\R (Ite K kd l) H1
theorem zf1:bootBuiltins "enumerate"=some (.type "enumerate"):=by decide +kernel
theorem zj8{a:Expr}{ta:TA}{p pos tpos:Pos}{elts:List Expr}{kk:Nat}(hg:Gl X "enumerate")(hm:X.mg "enumerate"=none)(ha:PA X [a] ta)(hs:starEach [a] X.env=[(false,eval a X.env)]:=by rfl):PI X (.Tuple elts kk tpos) (.Call (.Name "enumerate" p) [a] [] pos) (JD X.K ta):=by
 intro ao s Z H R I h;refine Call_ (wD I hg hm zf1 (Ax (aW (ha pos ao s Z H _ I h) λus s1 ⟨vs,H1,I1,r1,q1⟩=>?_) hs rfl));obtain⟨kd,l,xs,e,hq,q⟩:=q1;subst e;cases r1 with
 |cons r rr=>
  cases rr;cases r;obtain⟨its,rv,p⟩:=I1.row hq;have hl:l<s1.heap.objs.size:=p.lt;refine callType_new F.called_enumerate Tc (F.typeCall_enumerate_1 _) (F.newCall_enumerate_1 _) (λobj=>F.args_object_init_2 obj _) F.entry_enumerate_new (zhI kd l its.toArray) ⟨p,?_⟩;have n1:(s1.heap.push (gJ kd l)).objs.size=s1.heap.objs.size+1:=wj ..;have he:IsEnum ((s1.heap.push (gJ kd l)).push {cls:=.type "enumerate",data:=.fields #[.none,.bool false,.ref s1.heap.objs.size,rawInt 0,.none,.none]}) (s1.heap.objs.size+1) s1.heap.objs.size 0 .none:=by
   have:=eN (s1.heap.push (gJ kd l)) (o:={cls:=.type "enumerate",data:=.fields #[.none,.bool false,.ref s1.heap.objs.size,rawInt 0,.none,.none]}) rfl;rw[n1] at this;exact this
  show _/\_;rw[n1];refine⟨⟨_,he,rfl⟩,wpAny_pyIter_enum (s:={s1 with heap:=(s1.heap.push (gJ kd l)).push {cls:=.type "enumerate",data:=.fields #[.none,.bool false,.ref s1.heap.objs.size,rawInt 0,.none,.none]}}) he ?_⟩;have rk:Rk kd s1.heap.objs.size l 0 ((s1.heap.push (gJ kd l)).push {cls:=.type "enumerate",data:=.fields #[.none,.bool false,.ref s1.heap.objs.size,rawInt 0,.none,.none]}):=by
   cases kd
   ·exact⟨_,cj _ (eN _ rfl),rfl,rfl⟩
   ·exact⟨_,cj _ (eN _ rfl),rfl,rfl⟩
  refine⟨s1.heap.objs.size+1,[s1.heap.objs.size+1,s1.heap.objs.size],_,_,H1,rfl,I1.kept (t':=s1.toks) λb o x=>cj _ (cj _ x),zgL (kd:=kd) (l:=l) (Nat.succ_ne_self _) (cU hl) (cU (tV hl)),⟨⟨_,he⟩,rk⟩,λb hb=>?_,q⟩;have:s1.heap.objs.size<=b:=by
   have:b=s1.heap.objs.size+1\/b=s1.heap.objs.size:=by simpa using hb
   rcases this with rfl|rfl
   ·exact xH _
   ·exact bQ _
  exact I1.uE this (I1.hok.fresh this)
end
end L2
set_option genSizeOf false
set_option genInjectivity false
namespace Mi
open PySem
inductive D where
 |non|bl (b:Bool)|int (i:Int)|str (s:Str)|tup (xs:List D)|fl (xs:List D)|fd (ks vs:List D)|exc (c:Nat) (fs:List D)|ob (c:Nat) (fs:List D)|any
inductive Xv where
 |d (x:D)|l (n:Nat)
inductive Kx where
 |non|int (i:Int)|row (is:List Int)
deriving DecidableEq
inductive SO where
 |lst (xs:List D)
 |dct (kvs:List (List Kx×D))
noncomputable abbrev S:=List SO
inductive Rs (α:Type) where
 |ok (a:α)|er (c:Nat) (fs:List D)
noncomputable abbrev M(α:Type):=S->Option (Rs α×S)
noncomputable def M.ret{α:Type}(a:α):M α:=λs=>some (.ok a,s)
noncomputable def M.bd{α β:Type}(m:M α)(k:α->M β):M β:=λs=>match m s with
 |some (.ok a,s')=>k a s'
 |some (.er c f,s')=>some (.er c f,s')
 |none=>none
noncomputable def M.qt{α:Type}(m:M α):M α:=λs=>match m s with
 |some (.ok a,s')=>some (.ok a,s')
 |_=>none
noncomputable def M.no{α:Type}:M α:=λ_=>none
noncomputable def M.opt{α:Type}:Option α->M α
 |some a=>M.ret a
 |none=>M.no
inductive Rz where
 |dat (d:D)|nw (xs:List D)
inductive Pr where
 |add|aq|mul|fdiv|mod|pow|neg
 |eq|ne|lt|le|gt|ge|inn|nin
 |wH|sH
 |len|abs|max2|min2|JF|JM|sI|Gd|yx|divmod|all|sum|list|tuple|sorted|q_|CJ|str1
 |ix|rev|Zr|JV|mult|zV
 |count|index|repr
inductive Kd where
 |int|bool|str|tuple|list|dict|cls (c:Nat)|sJ
mutual
inductive E where
 |c (d:D)
 |v (i:Nat)
 |pr (fz:Bool) (p:Pr) (xs:Es)
 |zW (p q:Pr) (a b c:E)
 |ch3 (p q r:Pr) (a b c d:E)
 |and (a b:E)
 |or (a b:E)
 |not (a:E)
 |ite (c a b:E)
 |tup (xs:Es)
 |lst (fz:Bool) (xs:Es)
 |JZ (k:Str) (i:Int)
 |call (f:Nat) (xs:Es)
 |rm (a:E) (k:Kd)
 |sl (fz:Bool) (a:E) (lo hi:Eo)
 |meth (fz:Bool) (p:Pr) (k:Kd) (o:E) (xs:Es)
 |push (o a:E)
 |pop (o:E)
 |comp (fz:Bool) (elt:E) (tg:List Nat) (it:Wk) (fr:List Nat) (many:Nat) (cond:Eo)
 |oG (fz:Bool) (elt:E) (tg:List Nat) (it:Wk) (Zu:List Nat) (Jz:Wk) (fr:List Nat) (many:Nat) (cond:Eo)
 |fld (o:E) (cs:List Nat) (i:Nat)
 |of (o:E) (c i:Nat)
 |mk (c f:Nat) (xs:Es)
 |cm (c f:Nat) (o:E) (xs:Es)
 |sO
 |CK (b:Bool) (k d:E)
 |ql (d k:E)
 |Gf (a:E)
 |rz (fz:Bool) (a:E) (b:E)
 |orv (a b:E)
 |ins (o i a:E)
 |no
inductive Wk where
 |seq (e:E)
 |rg (a b:E)
 |zip (a b:E)
 |enum (a:E)
 |rrg (a:E)
inductive Es where
 |nil
 |cons (a:E) (r:Es)
inductive Eo where
 |no
 |yes (a:E)
end
noncomputable abbrev Ea(a:E):Es:=.cons a .nil
noncomputable abbrev Eb(a b:E):Es:=.cons a (.cons b .nil)
noncomputable abbrev Ec(a b c:E):Es:=.cons a (.cons b (.cons c .nil))
noncomputable abbrev Ei(a b:E):E:=.pr true .ix (.cons a (.cons b .nil))
noncomputable abbrev Ci(i:Int):E:=.c (.int i)
noncomputable def Es.len:Es->Nat
 |.nil=>0
 |.cons _ r=>r.len+1
inductive Tg where
 |nm (i:Nat)
 |tp (is:List Nat)
 |aq (o i:E)
mutual
inductive St where
 |pass
 |ex (e:E)
 |asg (t:Tg) (e:E)
 |par (i j:Nat) (a b:E)
 |aug (i:Nat) (e:E)
 |ret (e:E)
 |rise (c:Nat) (kp:Bool) (xs:Es)
 |iff (c:E) (t e:bZ)
 |wh (c:E) (b:bZ)
 |fr (t:Tg) (w:Wk) (b:bZ)
 |Tr (b:bZ) (d:Nat) (i:Nat) (h:bZ)
 |dput (d k v:E)
 |no
inductive bZ where
 |nil
 |cons (a:St) (r:bZ)
end
noncomputable def dR(eq:D->D->Option Bool):List D->List D->Option Bool
 |[],[]=>some true
 |[],_::_=>some false
 |_::_,[]=>some false
 |x::xs,y::ys=>match eq x y,dR eq xs ys with
  |some a,some b=>some (a&&b)
  |_,_=>none
noncomputable def kq:D->Option Nat
 |.non=>some 0
 |.bl _=>some 1
 |.int _=>some 1
 |.str _=>some 2
 |.tup _=>some 3
 |.fl _=>some 4
 |_=>none
noncomputable def dF:Nat->D->D->Option Bool
 |n+1,.tup xs,.tup ys=>dR (dF n) xs ys
 |n+1,.fl xs,.fl ys=>dR (dF n) xs ys
 |_,.non,.non=>some true
 |_,.bl a,.bl b=>some (a==b)
 |_,.int a,.int b=>some (a==b)
 |_,.str a,.str b=>some (a==b)
 |_,.bl a,.int b=>some ((if a then 1 else 0)==b)
 |_,.int a,.bl b=>some (a==(if b then 1 else 0))
 |_,a,b=>match kq a,kq b with
  |some i,some j=>if i=j then none else some false
  |_,_=>none
noncomputable def cC:List D->Option (List Int)
 |[]=>some []
 |.int i::r=>(cC r).map (i::·)
 |_=>none
noncomputable def ltI:List Int->List Int->Bool
 |_,[]=>false
 |[],_::_=>true
 |x::xs,y::ys=>if x=y then ltI xs ys else decide (x<y)
noncomputable def dY:List D->Option (List Bool)
 |[]=>some []
 |.bl b::r=>(dY r).map (b::·)
 |_=>none
noncomputable def cut{α:Type}(xs:List α)(lo hi:Option Int):List α:=(xs.drop (HT.bW xs.length 0 lo)).take (HT.bW xs.length xs.length hi-HT.bW xs.length 0 lo)
noncomputable def mW:D->Option (List D)
 |.tup xs=>some xs
 |.fl xs=>some xs
 |_=>none
noncomputable def cutD(x:D)(lo hi:Option Int):Option Rz:=match x with
 |.tup xs=>some (.dat (.tup (cut xs lo hi)))
 |.fl xs=>some (.nw (cut xs lo hi))
 |_=>none
noncomputable def memD(d:D):List D->Option Bool
 |[]=>some false
 |x::r=>match dF 50 x d,memD d r with
  |some a,some b=>some (a||b)
  |_,_=>none
noncomputable def CP:Kd->D->Bool
 |.list,.fl _=>true
 |.str,.str _=>true
 |.dict,.fd _ _=>true
 |_,_=>false
noncomputable def c7(f:Int->Int->Option D):List D->Option Rz
 |[.int i,.int j]=>(f i j).map .dat
 |_=>none
noncomputable def rA(f:Int->D):List D->Option Rz
 |[.int i]=>some (.dat (f i))
 |_=>none
noncomputable def sS(f:List D->Option Rz):List D->Option Rz
 |[a]=>(mW a).bind f
 |_=>none
noncomputable def CQ:List D->Option Rz
 |[.int i,.int j]=>some (.dat (.int (i+j)))
 |[.tup xs,.tup ys]=>if xs.length+ys.length<=sizeLine then some (.dat (.tup (xs++ys))) else none
 |[.fl xs,.fl ys]=>if xs.length+ys.length<=sizeLine then some (.nw (xs++ys)) else none
 |[.str x,.str y]=>if x.length+y.length<=sizeLine then some (.dat (.str (x++y))) else none
 |_=>none
noncomputable def J0:List D->Option Rz
 |[.int i,.int j]=>some (.dat (.bl (decide (i<j))))
 |[.tup xs,.tup ys]=>match cC xs,cC ys with
  |some a,some b=>some (.dat (.bl (ltI a b)))
  |_,_=>none
 |_=>none
noncomputable def CT(f:Bool->Bool):List D->Option Rz
 |[a,b]=>(dF 50 a b).map λk=>.dat (.bl (f k))
 |_=>none
noncomputable def Gg(f:Bool->Bool):List D->Option Rz
 |[a,b]=>((mW b).bind (memD a)).map λk=>.dat (.bl (f k))
 |_=>none
noncomputable def D.oH:D->Bool
 |.non=>true
 |_=>false
noncomputable def CV(f:Bool->Bool):List D->Option Rz
 |[a]=>some (.dat (.bl (f a.oH)))
 |_=>none
noncomputable def J1:List D->Option Rz
 |[.int i]=>some (.dat (.int i))
 |[.bl k]=>some (.dat (.int (if k then 1 else 0)))
 |_=>none
noncomputable def CW:List D->Option Rz
 |[.fl xs]=>(dY xs).map λbs=>.dat (.bl (bs.all id))
 |_=>none
noncomputable def mX:List D->Option (List Int)
 |[]=>some []
 |.int i::r=>(mX r).map (i::·)
 |_=>none
noncomputable def best(bt:Int->Int->Bool)(i:Int)(is:List Int):Int:=is.foldl (λm j=>if bt j m then j else m) i
noncomputable def J2(bt:Int->Int->Bool):Option (List Int)->Option Rz
 |some (i::is)=>some (.dat (.int (best bt i is)))
 |_=>none
noncomputable def zX(bt:Int->Int->Bool):List D->Option Rz
 |[a]=>(mW a).bind λxs=>J2 bt (mX xs)
 |_=>none
noncomputable def okR(i j:Int):Bool:=decide (-(2^62)<=i/\i<2^62/\-(2^62)<=j/\j<2^62/\(j-i).toNat<=65536)
noncomputable def J3(i:Int)(n:Nat):List D:=(List.range n).map λk=>.int (i+(k:Nat))
noncomputable def Tt:List D->Option Rz
 |[.int j]=>if okR 0 j then some (.nw (J3 0 (j-0).toNat)) else none
 |[.int i,.int j]=>if okR i j then some (.nw (J3 i (j-i).toNat)) else none
 |_=>none
noncomputable def CZ:List D->Option Rz
 |[.int j]=>if okR 0 j then some (.dat (.tup (J3 0 (j-0).toNat))) else none
 |_=>none
noncomputable def qm:List D->Option Rz
 |[a]=>(mW a).map λxs=>.dat (.tup xs)
 |_=>none
noncomputable def Tv:List D->Option Rz
 |[a,.int i]=>((mW a).bind λxs=>L2.n8 xs i).map .dat
 |_=>none
noncomputable def oJ:List D->List D->Option Bool
 |[],ys=>some (decide (0<ys.length))
 |_::_,[]=>some false
 |.int x::xs,.int y::ys=>if x=y then oJ xs ys else some (decide (x<y))
 |_::_,_::_=>none
noncomputable def wI(xs:List D)(i j:Nat):Option Bool:=match xs[i]?,xs[j]? with
 |some (.int x),some (.int y)=>some (decide (x<y))
 |some (.tup us),some (.tup ws)=>oJ us ws
 |_,_=>none
noncomputable def gb(b:List Int):List (List Int)->List Int
 |[]=>b
 |x::r=>gb (if ltI x b=true then x else b) r
noncomputable def j_:List D->Option (List (List Int))
 |[]=>some []
 |.tup xs::r=>match cC xs,j_ r with
  |some a,some b=>some (a::b)
  |_,_=>none
 |_=>none
noncomputable def oM:List D->Option Rz
 |[.fl xs]=>match j_ xs with
  |some (x::r)=>some (.dat (.tup ((gb x r).map .int)))
  |_=>none
 |_=>none
noncomputable def jf:D->Bool
 |.int _=>true
 |_=>false
noncomputable def iw:D->Bool
 |.tup (.int _::_)=>true
 |_=>false
noncomputable def iR(lt:Nat->Nat->Option Bool)(xs:List D):Option (List D):=if xs.length<2 then some xs else if xs.length<64 then (match L2.bf lt (PySem.W.kas_sort xs.length) with
  |some p=>if p.size=xs.length then some (p.toList.map λi=>xs.getD i .non) else none
  |none=>none) else none
noncomputable def uR(xs:List D):Option (List D):=if xs.all jf||xs.all iw then iR (wI xs) xs else none
noncomputable def mY:List D->Option Rz
 |[.fl xs]=>(uR xs).map .nw
 |_=>none
noncomputable def zY(ks:List Int)(i j:Nat):Option Bool:=match ks[i]?,ks[j]? with
 |some x,some y=>some (decide (x<y))
 |_,_=>none
noncomputable def Tw:List D->Option Rz
 |[.tup xs]=>some (.dat (.tup xs.reverse))
 |_=>none
noncomputable def C_:List D->Option Rz
 |[.fl xs,.bl b]=>(dY xs).map λbs=>.dat (.int (bs.count b))
 |_=>none
noncomputable def Dg:List D->Option Rz
 |[.fl xs,.bl b]=>((dY xs).bind λbs=>bs.idxOf? b).map λ(i:Nat)=>.dat (.int i)
 |_=>none
noncomputable def Tz:List D->Option Rz
 |[.int i]=>if i.natAbs<2^62 then some (.dat (.str (Str.ofString (toString i)))) else none
 |_=>none
noncomputable def TF(f:D->Option PyData):List D->Option (List PyData)
 |[]=>some []
 |x::r=>match f x,TF f r with
  |some a,some b=>some (a::b)
  |_,_=>none
noncomputable def pd:Nat->D->Option PyData
 |n+1,.tup xs=>(TF (pd n) xs).map .tuple
 |n+1,.fl xs=>(TF (pd n) xs).map .list
 |_,.non=>some .none
 |_,.bl b=>some (.bool b)
 |_,.int i=>some (.int i)
 |_,.str x=>some (.str x)
 |_,_=>none
noncomputable def pdT:D->Option PyData
 |.fd [.str k] [.int i]=>some (.dict [(.str k,.int i)])
 |x=>pd 40 x
noncomputable def shw(d:PyData):Option Rz:=if d.showable=true/\d.shown.length<=sizeLine then some (.dat (.str d.shown)) else none
noncomputable def J5:List D->Option Rz
 |[x]=>(pdT x).bind shw
 |_=>none
noncomputable def zZ:List (Int×Int):=[(0,1),(0,2),(0,3),(0,4),(0,5),(0,6),(0,7),(1,2),(1,3),(1,4),(1,5),(1,6),(1,7),(2,3),(2,4),(2,5),(2,6),(2,7),(3,4),(3,5),(3,6),(3,7),(4,5),(4,6),(4,7),(5,6),(5,7),(6,7)]
noncomputable def ss(ts:List (Int×Int)):List (Int×Int):=zZ.filter λt=>ts.contains t
noncomputable def TJ:D->Option (Int×Int)
 |.tup [.int a,.int b]=>if 0<=a/\a<b/\b<8 then some (a,b) else none
 |_=>none
noncomputable def z_:List D->Option (List (Int×Int))
 |[]=>some []
 |x::r=>match TJ x,z_ r with
  |some a,some b=>some (a::b)
  |_,_=>none
noncomputable def pSs:List D->Option Rz
 |[.tup xs]=>(z_ xs).map λts=>.nw ((ss ts).map λp=>.tup [.int p.1,.int p.2])
 |_=>none
noncomputable def J6(is:List Int):Bool:=decide (is.length<=1000)&&is.all λi=>decide (-1000000<=i/\i<=1000000)
noncomputable def TQ(is:List Int):Option Rz:=match J6 is with
 |true=>some (.dat (.int is.sum))
 |false=>none
noncomputable def TV:List D->Option Rz
 |[a]=>(mW a).bind λxs=>(mX xs).bind TQ
 |_=>none
noncomputable def mZ:List Int->List Int
 |[]=>[]
 |x::r=>if r.contains x then mZ r else x::mZ r
noncomputable def J7:List D->Option Rz
 |[.tup xs]=>(mX xs).map λis=>.dat (.int (mZ is).length)
 |_=>none
noncomputable def rep{α:Type}(xs:List α)(n:Nat):List α:=(List.replicate n xs).flatten
noncomputable def J8:List D->Option Rz
 |[.fl xs,.int n]=>if 0<=n/\n<=1000/\xs.length<=1000 then some (.nw (rep xs n.toNat)) else none
 |_=>none
noncomputable def Dh:List D->Option Rz
 |[.tup xs]=>if xs.all jf=true then (uR xs).map .nw else none
 |_=>none
noncomputable def J9:List D->Option Rz
 |[.tup xs,.int n]=>if 1<=n/\n<=1000/\1<=xs.length/\xs.length<=1000 then some (.dat (.tup (rep xs n.toNat))) else none
 |_=>none
noncomputable def yC:D->Option Bool
 |.non=>some false
 |.bl b=>some b
 |.int i=>some (i != 0)
 |.tup xs=>some (!xs.isEmpty)
 |.fl xs=>some (!xs.isEmpty)
 |_=>none
noncomputable def prim:Pr->List D->Option Rz
 |.add=>CQ
 |.aq=>c7 λi j=>some (.int (i-j))
 |.mul=>c7 λi j=>if (-(2^64)<i/\i<2^64)\/(-(2^64)<j/\j<2^64) then some (.int (i*j)) else none
 |.fdiv=>c7 λi j=>if 0<j/\j<1073741824 then some (.int (i/j)) else none
 |.mod=>c7 λi j=>if 0<j then some (.int (i%j)) else none
 |.pow=>c7 λi j=>if 0<=j/\j<=1000000/\i.natAbs<2^64 then some (.int (i^j.toNat)) else none
 |.neg=>rA λi=>.int (-i)
 |.eq=>CT id
 |.ne=>CT not
 |.lt=>J0
 |.le=>c7 λi j=>some (.bl (decide (i<=j)))
 |.gt=>c7 λi j=>some (.bl (decide (j<i)))
 |.ge=>c7 λi j=>some (.bl (decide (j<=i)))
 |.inn=>Gg id
 |.nin=>Gg not
 |.wH=>CV id
 |.sH=>CV not
 |.len=>sS λxs=>some (.dat (.int xs.length))
 |.abs=>rA λi=>.int (if i<0 then -i else i)
 |.max2=>c7 λi j=>some (.int (if j>i then j else i))
 |.min2=>c7 λi j=>some (.int (if j<i then j else i))
 |.yx=>J1
 |.divmod=>c7 λi j=>if 0<j/\j<1073741824 then some (.tup [.int (i/j),.int (i%j)]) else none
 |.all=>CW
 |.Zr=>Tt
 |.JF=>zX λa b=>decide (a>b)
 |.JM=>zX λa b=>decide (a<b)
 |.sI=>oM
 |.Gd=>CZ
 |.list=>sS λxs=>some (.nw xs)
 |.tuple=>qm
 |.ix=>Tv
 |.rev=>Tw
 |.sorted=>mY
 |.q_=>pSs
 |.JV=>J8
 |.mult=>J9
 |.zV=>Dh
 |.sum=>TV
 |.CJ=>J7
 |.count=>C_
 |.index=>Dg
 |.repr=>J5
 |.str1=>Tz
noncomputable def lW(aq:Nat->Nat->Bool):D->Kd->Option Bool
 |.exc c _,.cls e=>some (aq c e)
 |.exc _ _,.sJ=>some true
 |.exc _ _,_=>none
 |.ob _ _,_=>none
 |.any,_=>none
 |_,.cls _=>none
 |_,.sJ=>none
 |.bl _,.bool=>some true
 |.bl _,.int=>some true
 |.bl _,_=>some false
 |.int _,.int=>some true
 |.int _,_=>some false
 |.non,_=>some false
 |.str _,.str=>some true
 |.str _,_=>some false
 |.tup _,.tuple=>some true
 |.tup _,_=>some false
 |.fl _,.list=>some true
 |.fl _,_=>some false
 |.fd _ _,.dict=>some true
 |.fd _ _,_=>some false
noncomputable def rd(x:Xv):M D:=λs=>match x with
 |.d v=>some (.ok v,s)
 |.l n=>match s[n]? with
  |some (.lst xs)=>some (.ok (.fl xs),s)
  |_=>none
noncomputable def iy:List Xv->M (List D)
 |[]=>M.ret []
 |x::r=>M.bd (rd x) λd=>M.bd (iy r) λds=>M.ret (d::ds)
noncomputable def dat(x:Xv):M D:=match x with
 |.d v=>M.ret v
 |.l _=>M.no
noncomputable def cJ:List Xv->M (List D)
 |[]=>M.ret []
 |x::r=>M.bd (dat x) λd=>M.bd (cJ r) λds=>M.ret (d::ds)
noncomputable def bool(x:Xv):M Bool:=match x with
 |.d (.bl b)=>M.ret b
 |_=>M.no
noncomputable def int(x:Xv):M Int:=match x with
 |.d (.int b)=>M.ret b
 |_=>M.no
noncomputable def newL(fz:Bool)(xs:List D):M Xv:=match fz with
 |true=>M.ret (.d (.fl xs))
 |false=>λs=>some (.ok (.l s.length),s++[.lst xs])
noncomputable def cD(fz:Bool)(o:Option Rz):M Xv:=match o with
 |some (.dat d)=>M.ret (.d d)
 |some (.nw xs)=>newL fz xs
 |none=>M.no
noncomputable def cX(x:Xv):M (Nat×List D):=λs=>match x with
 |.l n=>match s[n]? with
  |some (.lst xs)=>some (.ok (n,xs),s)
  |_=>none
 |_=>none
noncomputable def putL(n:Nat)(xs:List D):M Unit:=λs=>some (.ok (),s.set n (.lst xs))
noncomputable def uU:D->Option Kx
 |.non=>some .non
 |.int i=>some (.int i)
 |.tup xs=>(cC xs).map .row
 |_=>none
noncomputable def Di:List D->Option (List Kx)
 |[]=>some []
 |x::r=>match uU x,Di r with
  |some a,some b=>some (a::b)
  |_,_=>none
noncomputable def kOf:D->Option (List Kx)
 |.tup xs=>Di xs
 |_=>none
noncomputable abbrev iV:=List (List Kx×D)
noncomputable def cg(k:List Kx):iV->Option D
 |[]=>none
 |p::r=>if p.1=k then some p.2 else cg k r
noncomputable def jE(k:List Kx)(d:D)(r:iV):iV:=if (cg k r).isSome=true then r.map λp=>if p.1=k then (p.1,d) else p else r++[(k,d)]
noncomputable def gj(x:Xv):M (Nat×iV):=λs=>match x with
 |.l n=>match s[n]? with
  |some (.dct kvs)=>some (.ok (n,kvs),s)
  |_=>none
 |_=>none
noncomputable def putD(n:Nat)(kvs:iV):M Unit:=λs=>some (.ok (),s.set n (.dct kvs))
noncomputable def key(x:Xv):M (List Kx):=match x with
 |.d v=>M.opt (kOf v)
 |.l _=>M.no
noncomputable def enumFrom:Nat->List D->List D
 |_,[]=>[]
 |i,x::r=>.tup [.int i,x]::enumFrom (i+1) r
inductive Src where
 |fix (xs:List D)|live (n:Nat)|lX (n:Nat)
noncomputable def Src.at(c:Src)(i:Nat)(s:S):Option (Option D):=match c with
 |.fix xs=>some xs[i]?
 |.live n=>match s[n]? with
  |some (.lst xs)=>some xs[i]?
  |_=>none
 |.lX n=>match s[n]? with
  |some (.lst xs)=>some (xs[i]?.map λx=>.tup [.int i,x])
  |_=>none
noncomputable def oN(x:Xv):M (Src×Nat):=λs=>match x with
 |.d (.tup xs)=>some (.ok (.fix (enumFrom 0 xs),(enumFrom 0 xs).length),s)
 |.d (.fl xs)=>some (.ok (.fix (enumFrom 0 xs),(enumFrom 0 xs).length),s)
 |.l n=>match s[n]? with
  |some (.lst xs)=>some (.ok (.lX n,xs.length),s)
  |_=>none
 |_=>none
noncomputable def src(x:Xv):M (Src×Nat):=λs=>match x with
 |.d (.tup xs)=>some (.ok (.fix xs,xs.length),s)
 |.d (.fl xs)=>some (.ok (.fix xs,xs.length),s)
 |.l n=>match s[n]? with
  |some (.lst xs)=>some (.ok (.live n,xs.length),s)
  |_=>none
 |_=>none
noncomputable def qp(x:Xv):M (List D):=match x with
 |.d (.tup xs)=>M.ret xs
 |.d (.fl xs)=>M.ret xs
 |_=>M.no
noncomputable def jF(a b:Int):List D:=(List.range (b-a).toNat).map λ(i:Nat)=>.int (a+i)
noncomputable def gq(a:Int):Bool:=decide (-(2^62)<a)&&decide (a<2^62)
noncomputable def walk(c:Src)(f:D->List D->M (List D)):Nat->Nat->List D->M (List D)
 |0,_,_=>M.no
 |k+1,i,acc=>λs=>match c.at i s with
  |none=>none
  |some none=>some (.ok acc,s)
  |some (some x)=>M.bd (f x acc) (λacc'=>walk c f k (i+1) acc') s
noncomputable def kh(f:D->M Xv):List D->Option (List Int)
 |[]=>some []
 |x::r=>match f x [] with
  |some (.ok (.d (.int k)),[])=>(kh f r).map (k::·)
  |_=>none
noncomputable abbrev Vs:=List (Option Xv)
noncomputable abbrev Fn:=Nat->List Xv->M Xv
noncomputable def locs:List Xv->List Nat
 |[]=>[]
 |.d _::r=>locs r
 |.l n::r=>n::locs r
noncomputable def dN:Nat->List Xv->List Xv
 |_,[]=>[]
 |k,.d v::r=>.d v::dN k r
 |k,.l _::r=>.l k::dN (k+1) r
noncomputable def jG(s:S):List Nat->Option S
 |[]=>some []
 |n::r=>match s[n]?,jG s r with
  |some o,some q=>some (o::q)
  |_,_=>none
noncomputable def dh(s:S):List Nat->S->S
 |n::r,o::q=>dh (s.set n o) r q
 |_,_=>s
noncomputable def cO(F:List Xv->M Xv)(xs:List Xv):M Xv:=λs=>
 if (locs xs).Nodup then match jG s (locs xs) with
  |none=>none
  |some s0=>match F (dN 0 xs) s0 with
   |none=>none
   |some (.er c fs,s1)=>some (.er c fs,dh s (locs xs) s1)
   |some (.ok (.d v),s1)=>some (.ok (.d v),dh s (locs xs) s1)
   |some (.ok (.l n),s1)=>match (locs xs)[n]? with
    |some m=>some (.ok (.l m),dh s (locs xs) s1)
    |none=>match s1[n]? with
     |some o=>some (.ok (.l s.length),dh s (locs xs) s1++[o])
     |none=>none
 else none
noncomputable def TX(F:List Xv->M Xv)(c:Nat)(vs:List Xv):M Xv:=λs=>
 if locs vs=[] then match F (.d .any::vs) [] with
  |some (.ok (.d (.tup ds)),_)=>some (.ok (.d (.ob c ds)),s)
  |_=>none
 else none
noncomputable def sU(c:Nat)(x:Xv):M (List D):=match x with
 |.d (.ob e fs)=>if e=c then M.ret fs else M.no
 |_=>M.no
noncomputable def gw{α:Type}:List Nat->List α->List (Option α)->Option (List (Option α))
 |[],[],J=>some J
 |i::is,d::ds,J=>gw is ds (J.set i (some d))
 |_,_,_=>none
noncomputable def kj:D->Option (List D)
 |.tup xs=>some xs
 |_=>none
noncomputable def dZ(tg:List Nat)(x:D)(J:Vs):Option Vs:=match tg with
 |[i]=>some (J.set i (some (.d x)))
 |is=>(kj x).bind λds=>gw is (ds.map .d) J
noncomputable def blk(many:Nat)(fr:List Nat)(J:Vs):Vs:=List.replicate many none++fr.map λj=>J[j]?.join
section
variable (aq:Nat->Nat->Bool)(aj:Bool)(F:Fn)
mutual
noncomputable def ev:E->Vs->M Xv
 |.c d,_=>M.ret (.d d)
 |.v i,J=>M.opt (J[i]?.join)
 |.pr fz p xs,J=>M.bd (evs xs J) λvs=>M.bd (iy vs) λds=>cD fz (prim p ds)
 |.zW p q a b c,J=>M.bd (ev a J) λx=>M.bd (ev b J) λy=>M.bd (iy [x,y]) λds=>M.bd (cD true (prim p ds)) λt=>M.bd (bool t) λk=>
   if k=true then M.bd (ev c J) λz=>M.bd (iy [y,z]) λds=>cD true (prim q ds) else M.ret (.d (.bl false))
 |.ch3 p q r a b c d,J=>M.bd (ev a J) λx=>M.bd (ev b J) λy=>M.bd (iy [x,y]) λds=>M.bd (cD true (prim p ds)) λt=>M.bd (bool t) λk=>
   if k=true then M.bd (ev c J) λz=>M.bd (iy [y,z]) λds=>M.bd (cD true (prim q ds)) λt=>M.bd (bool t) λk2=>
    if k2=true then M.bd (ev d J) λw=>M.bd (iy [z,w]) λds=>cD true (prim r ds) else M.ret (.d (.bl false))
   else M.ret (.d (.bl false))
 |.and a b,J=>M.bd (ev a J) λx=>M.bd (bool x) λk=>if k=true then ev b J else M.ret (.d (.bl false))
 |.or a b,J=>M.bd (ev a J) λx=>M.bd (bool x) λk=>if k=true then M.ret (.d (.bl true)) else ev b J
 |.not a,J=>M.bd (ev a J) λx=>M.bd (bool x) λk=>M.ret (.d (.bl (!k)))
 |.ite c a b,J=>M.bd (ev c J) λx=>M.bd (bool x) λk=>if k=true then ev a J else ev b J
 |.tup xs,J=>M.bd (evs xs J) λvs=>M.bd (cJ vs) λds=>M.ret (.d (.tup ds))
 |.lst fz xs,J=>M.bd (evs xs J) λvs=>M.bd (cJ vs) λds=>newL fz ds
 |.JZ k i,_=>M.ret (.d (.fd [.str k] [.int i]))
 |.call f xs,J=>M.bd (evs xs J) λvs=>cO (F f) vs
 |.rm a k,J=>M.bd (ev a J) λx=>M.bd (rd x) λd=>M.bd (M.opt (lW aq d k)) λb=>M.ret (.d (.bl b))
 |.sl fz a lo hi,J=>M.bd (ev a J) λx=>M.bd (yD lo J) λl=>M.bd (yD hi J) λh=>M.bd (rd x) λd=>cD fz (cutD d l h)
 |.meth fz p k o xs,J=>M.bd (ev o J) λx=>M.bd (rd x) λd=>if CP k d=true then M.bd (evs xs J) λys=>M.bd (iy (x::ys)) λds=>cD fz (prim p ds) else M.no
 |.push o a,J=>M.bd (ev o J) λx=>M.bd (cX x) λ_=>M.bd (ev a J) λy=>M.bd (dat y) λd=>M.bd (cX x) λnx=>if nx.2.length<sizeLine then M.bd (putL nx.1 (nx.2++[d])) λ_=>M.ret (.d .non) else M.no
 |.pop o,J=>M.bd (ev o J) λx=>M.bd (cX x) λnx=>match nx.2.getLast? with
   |some d=>M.bd (putL nx.1 nx.2.dropLast) λ_=>M.ret (.d d)
   |none=>M.no
 |.comp fz elt tg it fr many cond,J=>if aj=true then M.bd (jg it J) λcn=>
   M.bd (walk cn.1 (λd acc=>M.bd (M.opt (dZ tg d (blk many fr J))) λJ'=>M.bd (M.qt (oO cond J')) λok=>
    if ok=true then M.bd (M.qt (ev elt J')) λy=>M.bd (dat y) λe=>if acc.length<sizeLine then M.ret (acc++[e]) else M.no else M.ret acc) (cn.2+1) 0 []) λxs=>newL fz xs
  else M.no
 |.oG fz elt tg it Zu Jz fr many cond,J=>if aj=true then M.bd (jg it J) λcn=>
   M.bd (walk cn.1 (λd acc=>M.bd (M.opt (dZ tg d (blk many fr J))) λJ'=>M.bd (M.qt (jg Jz J')) λqu=>
    walk qu.1 (λd2 acc=>M.bd (M.opt (dZ Zu d2 J')) λZv=>M.bd (M.qt (oO cond Zv)) λok=>
     if ok=true then M.bd (M.qt (ev elt Zv)) λy=>M.bd (dat y) λe=>if acc.length<sizeLine then M.ret (acc++[e]) else M.no else M.ret acc) (qu.2+1) 0 acc) (cn.2+1) 0 []) λxs=>newL fz xs
  else M.no
 |.fld o cs i,J=>M.bd (ev o J) λx=>match x with
   |.d (.exc c fs)=>if cs.contains c=true then M.opt (fs[i]?.map .d) else M.no
   |_=>M.no
 |.of o c i,J=>M.bd (ev o J) λx=>M.bd (sU c x) λfs=>M.opt (fs[i]?.map .d)
 |.mk c f xs,J=>M.bd (evs xs J) λvs=>TX (F f) c vs
 |.cm c f o xs,J=>M.bd (ev o J) λx=>M.bd (sU c x) λ_=>M.bd (evs xs J) λvs=>M.qt (cO (F f) (x::vs))
 |.sO,_=>λs=>some (.ok (.l s.length),s++[.dct []])
 |.CK b k d,J=>M.bd (ev k J) λx=>M.bd (ev d J) λy=>M.bd (key x) λkx=>M.bd (gj y) λnk=>M.ret (.d (.bl ((cg kx nk.2).isSome==b)))
 |.ql d k,J=>M.bd (ev d J) λy=>M.bd (ev k J) λx=>M.bd (key x) λkx=>M.bd (gj y) λnk=>M.opt ((cg kx nk.2).map .d)
 |.Gf a,J=>M.bd (ev a J) λx=>M.bd (rd x) λd=>M.bd (M.opt (yC d)) λk=>M.ret (.d (.bl k))
 |.rz fz a b,J=>if aj=true then M.bd (ev a J) λx=>match x with
   |.d (.fl xs)=>M.bd (M.opt (kh (λd=>ev b [some (.d d)]) xs)) λks=>M.bd (M.opt (iR (zY ks) xs)) λys=>newL fz ys
   |_=>M.no else M.no
 |.orv a b,J=>M.bd (ev a J) λx=>M.bd (rd x) λd=>M.bd (M.opt (yC d)) λk=>if k=true then M.ret x else ev b J
 |.ins o i a,J=>M.bd (ev o J) λx=>M.bd (cX x) λ_=>M.bd (ev i J) λz=>M.bd (int z) λj=>M.bd (ev a J) λy=>M.bd (dat y) λd=>M.bd (cX x) λnx=>if 0<=j/\j<=nx.2.length/\nx.2.length<sizeLine then M.bd (putL nx.1 (nx.2.take j.toNat++d::nx.2.drop j.toNat)) λ_=>M.ret (.d .non) else M.no
 |.no,_=>M.no
noncomputable def jg:Wk->Vs->M (Src×Nat)
 |.seq e,J=>M.bd (ev e J) src
 |.rg a b,J=>M.bd (ev a J) λx=>M.bd (ev b J) λy=>M.bd (int x) λi=>M.bd (int y) λj=>if gq i&&gq j then M.ret (.fix (jF i j),(jF i j).length) else M.no
 |.zip a b,J=>M.bd (ev a J) λx=>M.bd (ev b J) λy=>M.bd (qp x) λxs=>M.bd (qp y) λys=>M.ret (.fix (List.zipWith (λp q=>.tup [p,q]) xs ys),(List.zipWith (λ(p q:D)=>D.tup [p,q]) xs ys).length)
 |.enum a,J=>M.bd (ev a J) oN
 |.rrg a,J=>M.bd (ev a J) λx=>M.bd (int x) λi=>if gq i then M.ret (.fix (jF 0 i).reverse,(jF 0 i).length) else M.no
noncomputable def yD:Eo->Vs->M (Option Int)
 |.no,_=>M.ret none
 |.yes a,J=>M.bd (ev a J) λx=>M.bd (int x) λi=>M.ret (some i)
noncomputable def oO:Eo->Vs->M Bool
 |.no,_=>M.ret true
 |.yes a,J=>M.bd (ev a J) bool
noncomputable def evs:Es->Vs->M (List Xv)
 |.nil,_=>M.ret []
 |.cons a r,J=>M.bd (ev a J) λx=>M.bd (evs r J) λxs=>M.ret (x::xs)
end
end
inductive Out where
 |nx (J:Vs)|rt (x:Xv)|bk (J:Vs)|ct (J:Vs)|er (c:Nat) (fs:List D) (J:Vs)
noncomputable abbrev MS:=S->Option (Out×S)
noncomputable def ofM{α:Type}(m:M α)(J:Vs)(k:α->MS):MS:=λs=>match m s with
 |some (.ok a,s')=>k a s'
 |some (.er c fs,s')=>some (.er c fs J,s')
 |none=>none
noncomputable def cP(m:MS)(k:Vs->MS):MS:=λs=>match m s with
 |some (.nx J,s')=>k J s'
 |r=>r
section
variable (aq:Nat->Nat->Bool)
noncomputable def store(aj:Bool)(F:Fn)(t:Tg)(x:Xv)(J:Vs):MS:=match t with
 |.nm i=>λs=>some (.nx (J.set i (some x)),s)
 |.tp is=>if aj=true then ofM (M.bd (dat x) λd=>M.opt ((kj d).bind λds=>gw is (ds.map .d) J)) J (λJ' s=>some (.nx J',s)) else λ_=>none
 |.aq o i=>ofM (M.bd (dat x) λd=>M.bd (ev aq aj F o J) λy=>M.bd (ev aq aj F i J) λz=>M.bd (int z) λj=>M.bd (cX y) λnx=>
   match L2.pF nx.2.length j with
   |some q=>putL nx.1 (nx.2.set q d)
   |none=>M.no) J (λ_ s=>some (.nx J,s))
noncomputable def iz(c:Vs->M Bool)(b:Vs->MS):Nat->Vs->MS
 |0,_=>λ_=>none
 |k+1,J=>ofM (c J) J λok=>if ok=true then λs=>match b J s with
   |some (.nx J',s')=>iz c b k J' s'
   |some (.ct J',s')=>iz c b k J' s'
   |some (.bk J',s')=>some (.nx J',s')
   |r=>r
  else λs=>some (.nx J,s)
noncomputable def dU(c:Src)(b:D->Vs->MS):Nat->Nat->Vs->MS
 |0,_,_=>λ_=>none
 |k+1,i,J=>λs=>match c.at i s with
  |none=>none
  |some none=>some (.nx J,s)
  |some (some d)=>match b d J s with
   |some (.nx J',s')=>dU c b k (i+1) J' s'
   |some (.ct J',s')=>dU c b k (i+1) J' s'
   |some (.bk J',s')=>some (.nx J',s')
   |r=>r
noncomputable def goes(i:Nat):Out->Out
 |.nx J=>.nx (J.set i none)
 |.bk J=>.bk (J.set i none)
 |.ct J=>.ct (J.set i none)
 |r=>r
noncomputable def oR:Nat:=1000000000000
mutual
noncomputable def ex(aj:Bool)(F:Bool->Fn):St->Vs->MS
 |.pass,J=>λs=>some (.nx J,s)
 |.ex e,J=>ofM (ev aq aj (F aj) e J) J λ_ s=>some (.nx J,s)
 |.asg t e,J=>ofM (ev aq aj (F aj) e J) J λx=>store aq aj (F aj) t x J
 |.par i j a b,J=>if aj=true then ofM (M.bd (ev aq aj (F aj) a J) λx=>M.bd (ev aq aj (F aj) b J) λy=>M.ret (x,y)) J λxy s=>some (.nx ((J.set i (some xy.1)).set j (some xy.2)),s) else λ_=>none
 |.aug i e,J=>ofM (M.bd (M.opt (J[i]?.join)) λx=>M.bd (ev aq aj (F aj) e J) λy=>M.bd (int x) λp=>M.bd (int y) λq=>M.ret (p+q)) J λr s=>some (.nx (J.set i (some (.d (.int r)))),s)
 |.ret e,J=>ofM (ev aq aj (F aj) e J) J λx s=>some (.rt x,s)
 |.rise c kp xs,J=>if aj=true then ofM (M.bd (evs aq aj (F aj) xs J) cJ) J λds s=>some (.er c (if kp=true then ds else []) J,s) else λ_=>none
 |.iff c t e,J=>ofM (M.bd (ev aq aj (F aj) c J) bool) J λb=>if b=true then exs aj F t J else exs aj F e J
 |.wh c b,J=>iz (λJ=>M.bd (ev aq aj (F aj) c J) bool) (λJ=>exs aj F b J) oR J
 |.fr t w b,J=>if aj=true then ofM (jg aq aj (F aj) w J) J λcn=>dU cn.1 (λd J=>cP (store aq aj (F aj) t (.d d) J) λJ'=>exs aj F b J') (cn.2+1) 0 J else λ_=>none
 |.Tr b d i h,J=>if aj=true then λs=>match exs aj F b J s with
   |some (.er c fs J',s')=>if aq c d=true then (match exs false F h (J'.set i (some (.d (.exc c fs)))) s' with
    |some (r,s'')=>(match r with
     |.er _ _ _=>none
     |r=>some (goes i r,s''))
    |none=>none) else none
   |r=>r
  else λ_=>none
 |.dput d k v,J=>ofM (M.bd (ev aq aj (F aj) v J) λz=>M.bd (dat z) λw=>M.bd (ev aq aj (F aj) d J) λy=>M.bd (ev aq aj (F aj) k J) λx=>M.bd (key x) λkx=>M.bd (gj y) λnk=>if nk.2.length<sizeLine then putD nk.1 (jE kx w nk.2) else M.no) J (λ_ s=>some (.nx J,s))
 |.no,_=>λ_=>none
noncomputable def exs(aj:Bool)(F:Bool->Fn):bZ->Vs->MS
 |.nil,J=>λs=>some (.nx J,s)
 |.cons a r,J=>cP (ex aj F a J) λJ'=>exs aj F r J'
end
structure Df where
 many:Nat
 iB:Nat
 body:bZ
noncomputable def call(T:Nat->Option Df):Nat->Bool->Fn
 |0,_,_,_=>M.no
 |k+1,aj,f,xs=>match T f with
  |none=>M.no
  |some d=>if xs.length=d.iB then λs=>match exs aq aj (λc=>call T k c) d.body (xs.map some++List.replicate (d.many-d.iB) none) s with
    |some (.nx _,s')=>some (.ok (.d .non),s')
    |some (.rt v,s')=>some (.ok v,s')
    |some (.er c fs _,s')=>some (.er c fs,s')
    |_=>none
   else M.no
end
end Mi
namespace Mi
open PySem L2
structure Ph where
 z:Addr->Prop
 l:List Addr
structure Cl where
 a:Nat->Addr
 f:Nat->List Str
 b:Nat->Addr
 g:Nat->List Str
section
variable (K:W.Frag)(cA:Cl)
def KT(a:Addr)(vs:List V):Prop:=gR K (λ_=>none) a vs
def KL(a:Addr)(vs:List V):Prop:=cV K (λ_=>none) a vs
def TupAt(U:Ph)(H:Hp)(a:Addr)(vs:List V):Prop:=(Rd H a (.tup vs)/\¬U.z a)\/KT K a vs
def LstAt(U:Ph)(H:Hp)(a:Addr)(vs:List V):Prop:=(Rd H a (.lst vs)/\¬U.z a)\/KL K a vs
def ExcAt(U:Ph)(H:Hp)(a:Addr)(c:Nat)(vs:List V):Prop:=¬U.z a/\((cA.f c=[]/\vs=[]/\H a=some (yw a (cA.a c) none))\/∃dx,H a=some (yw a (cA.a c) (some dx))/\¬U.z dx/\H dx=some (.xd ((cA.f c).zip vs))/\(cA.f c).length=vs.length)
def qw(U:Ph)(H:Hp)(a:Addr)(c:Nat)(vs:List V):Prop:=¬U.z a/\∃dx,H a=some (.ins (cA.b c) dx ((cA.g c).zip vs))/\(cA.g c).length=vs.length
mutual
inductive Rep (U:Ph) (H:Hp):D->V->Prop where
 |non:Rep U H .non .non
 |bl (b:Bool):Rep U H (.bl b) (.bl b)
 |int (i:Int):Rep U H (.int i) (.int i)
 |str (x:Str):Rep U H (.str x) (.str x)
 |tup {a:Addr} {xs:List D} {vs:List V} (h:TupAt K U H a vs) (r:aC U H xs vs):Rep U H (.tup xs) (.ref a)
 |fl {a:Addr} {xs:List D} {vs:List V} (h:LstAt K U H a vs) (r:aC U H xs vs):Rep U H (.fl xs) (.ref a)
 |fd {a:Addr} {k:Str} {i:Int} (h:H a=some (.dK [(.inr k,.int i)])) (n:¬U.z a):Rep U H (.fd [.str k] [.int i]) (.ref a)
 |exc {a:Addr} {c:Nat} {xs:List D} {vs:List V} (h:ExcAt cA U H a c vs) (r:aC U H xs vs):Rep U H (.exc c xs) (.ref a)
 |ob {a:Addr} {c:Nat} {xs:List D} {vs:List V} (h:qw cA U H a c vs) (r:aC U H xs vs):Rep U H (.ob c xs) (.ref a)
 |any (a:Addr):Rep U H .any (.ref a)
inductive aC (U:Ph) (H:Hp):List D->List V->Prop where
 |nil:aC U H [] []
 |cons {d:D} {v:V} {ds:List D} {vs:List V} (h:Rep U H d v) (r:aC U H ds vs):aC U H (d::ds) (v::vs)
end
inductive aU (U:Ph) (H:Hp):Xv->V->Prop where
 |d {x:D} {v:V} (h:Rep K cA U H x v):aU U H (.d x) v
 |l {n:Nat} {a:Addr} (h:U.l[n]?=some a):aU U H (.l n) (.ref a)
inductive aQ (U:Ph) (H:Hp):List Xv->List V->Prop where
 |nil:aQ U H [] []
 |cons {d:Xv} {v:V} {ds:List Xv} {vs:List V} (h:aU K cA U H d v) (r:aQ U H ds vs):aQ U H (d::ds) (v::vs)
noncomputable def TY:Kx->Int
 |.non=>reduceHash 0xFCA86420
 |.int i=>hashInt i
 |.row is=>reduceHash (Builtin.Tuple.tupleHashOf (is.map hashInt))
noncomputable def rB(k:List Kx):Int:=reduceHash (Builtin.Tuple.tupleHashOf (k.map TY))
noncomputable def sV:Kx->D
 |.non=>.non
 |.int i=>.int i
 |.row is=>.tup (is.map .int)
noncomputable def jh(k:List Kx):D:=.tup (k.map sV)
noncomputable abbrev m5:=List (List Kx×Addr×Value)
noncomputable def uV(a:Addr)(xs:m5):HO:=.ext λh=>(a==sysModules)=false/\xs.length<=sizeLine/\∃o es ep,h.get? a=some o/\o.ExactDict/\o.data=.dict es ep/\es.toList=xs.map (λx=>⟨rB x.1,.ref x.2.1,x.2.2⟩)/\(xs.map (·.1)).Nodup
inductive jr (U:Ph) (H:Hp):iV->m5->Prop where
 |nil:jr U H [] []
 |cons {k:List Kx} {d:D} {ka:Addr} {u:Value} {v:V} {r:iV} {xs:m5} (hk:Rep K cA U H (jh k) (.ref ka)) (hu:RelV v u) (hv:Rep K cA U H d v) (q:jr U H r xs):jr U H ((k,d)::r) ((k,ka,u)::xs)
noncomputable def lq(U:Ph)(H:Hp)(a:Addr):SO->Prop
 |.lst xs=>∃vs,H a=some (.lst vs)/\aC K cA U H xs vs
 |.dct kvs=>∃xs,H a=some (uV a xs)/\jr K cA U H kvs xs
structure aD(U:Ph)(H:Hp)(s:S):Prop where
 len:U.l.length=s.length
 obj:∀(n:Nat) o a,s[n]?=some o->U.l[n]?=some a->lq K cA U H a o
 uniq:U.l.Nodup
 lz:∀a∈U.l,U.z a
 zt:∀a,U.z a->∃o,H a=some o
noncomputable def NT:HO->Prop
 |.lN _=>False
 |_=>True
structure Ext(U:Ph)(H:Hp)(U':Ph)(H':Hp):Prop where
 more:∃r,U'.l=U.l++r/\∀b∈r,H b=none
 qx:∀a,U.z a->U'.z a
 kE:∀a,U'.z a->U.z a\/H a=none
 frame:∀a o,H a=some o->NT o->a∉U.l->H' a=some o
 stay:∀a o,H a=some o->∃o',H' a=some o'
def aX(U:Ph)(H:Hp)(Z:L2.St)(J:Vs):Prop:=Z.length=J.length/\∀(i:Nat) (x:Xv),J[i]?=some (some x)->∃v,Z[i]?=some (some v)/\aU K cA U H x v
end
section
variable {K:W.Frag}{cA:Cl}{U U' kI:Ph}{H H' m6:Hp}{s:S}{Z:L2.St}{J:Vs}
theorem Ext.refl:Ext U H U H:=⟨⟨[],by simp,by simp⟩,λ_ h=>h,λ_ h=>.inl h,λ_ _ h _ _=>h,λ_ o h=>⟨o,h⟩⟩
theorem Ext.lY(x:Ext U H U' H'){a:Addr}(h:H' a=none):H a=none:=by
 cases e:H a with
 |none=>rfl
 |some o=>obtain⟨o',q⟩:=x.stay a o e;rw[h] at q;cases q
theorem Ext.trans(x:Ext U H U' H')(y:Ext U' H' kI m6):Ext U H kI m6:=by
 obtain⟨r,e,hr⟩:=x.more;obtain⟨r',e',Aa⟩:=y.more;refine⟨⟨r++r',by rw[e',e,M7],λb hb=>?_⟩,λa h=>y.qx a (x.qx a h),λa h=>?_,λa o h t n=>y.frame a o (x.frame a o h t n) t ?_,λa o h=>?_⟩
 ·rcases mC.mp hb with z|z
  ·exact hr b z
  ·exact x.lY (Aa b z)
 ·rcases y.kE a h with z|z
  ·exact x.kE a z
  ·exact .inr (x.lY z)
 ·rw[e];intro z;rcases mC.mp z with z|z
  ·exact n z
  ·rw[hr a z] at h;cases h
 ·obtain⟨o',q⟩:=x.stay a o h;exact y.stay a o' q
theorem Ext.get(x:Ext U H U' H'){n:Nat}{a:Addr}(h:U.l[n]?=some a):U'.l[n]?=some a:=by
 obtain⟨r,e,_⟩:=x.more;rw[e,pB (dW.mp h).1];exact h
theorem Ext.out(x:Ext U H U' H')(hz:∀a∈U.l,U.z a){a:Addr}{o:HO}(h:H a=some o)(n:¬U.z a)(t:NT o:=by exact trivial):H' a=some o/\¬U'.z a:=
 ⟨x.frame a o h t λz=>n (hz a z),λz=>by
  rcases x.kE a z with y|y
  ·exact n y
  ·rw[h] at y;cases y⟩
theorem TupAt.mono(x:Ext U H U' H')(hz:∀a∈U.l,U.z a){a:Addr}{vs:List V}(h:TupAt K U H a vs):TupAt K U' H' a vs:=by
 rcases h with ⟨h|⟨o,h⟩,n⟩|h
 ·obtain⟨p,q⟩:=x.out hz h n;exact .inl ⟨.inl p,q⟩
 ·obtain⟨p,q⟩:=x.out hz h n;exact .inl ⟨.inr ⟨o,p⟩,q⟩
 ·exact .inr h
theorem LstAt.mono(x:Ext U H U' H')(hz:∀a∈U.l,U.z a){a:Addr}{vs:List V}(h:LstAt K U H a vs):LstAt K U' H' a vs:=by
 rcases h with ⟨h|⟨o,h⟩,n⟩|h
 ·obtain⟨p,q⟩:=x.out hz h n;exact .inl ⟨.inl p,q⟩
 ·obtain⟨p,q⟩:=x.out hz h n;exact .inl ⟨.inr ⟨o,p⟩,q⟩
 ·exact .inr h
theorem ExcAt.mono(x:Ext U H U' H')(hz:∀a∈U.l,U.z a){a:Addr}{c:Nat}{vs:List V}(h:ExcAt cA U H a c vs):ExcAt cA U' H' a c vs:=by
 obtain⟨n,⟨e1,e2,h⟩|⟨dx,h,n2,h2,h3⟩⟩:=h
 ·obtain⟨p,q⟩:=x.out hz h n;exact⟨q,.inl ⟨e1,e2,p⟩⟩
 ·obtain⟨p,q⟩:=x.out hz h n;obtain⟨p2,q2⟩:=x.out hz h2 n2;exact⟨q,.inr ⟨dx,p,q2,p2,h3⟩⟩
theorem qw.mono(x:Ext U H U' H')(hz:∀a∈U.l,U.z a){a:Addr}{c:Nat}{vs:List V}(h:qw cA U H a c vs):qw cA U' H' a c vs:=by
 obtain⟨n,dx,h,h3⟩:=h;obtain⟨p,q⟩:=x.out hz h n;exact⟨q,dx,p,h3⟩
theorem Rep.mono(x:Ext U H U' H')(hz:∀a∈U.l,U.z a){d:D}{v:V}(h:Rep K cA U H d v):Rep K cA U' H' d v:=
 Rep.rec (motive_1:=λd v _=>Rep K cA U' H' d v) (motive_2:=λd v _=>aC K cA U' H' d v) .non .bl .int .str (λh _ i=>.tup (h.mono x hz) i) (λh _ i=>.fl (h.mono x hz) i) (λh n=>.fd (x.out hz h n).1 (x.out hz h n).2) (λh _ i=>.exc (h.mono x hz) i) (λh _ i=>.ob (h.mono x hz) i) .any .nil (λ_ _ i j=>.cons i j) h
theorem aC.mono(x:Ext U H U' H')(hz:∀a∈U.l,U.z a){d:List D}{v:List V}(h:aC K cA U H d v):aC K cA U' H' d v:=
 aC.rec (motive_1:=λd v _=>Rep K cA U' H' d v) (motive_2:=λd v _=>aC K cA U' H' d v) .non .bl .int .str (λh _ i=>.tup (h.mono x hz) i) (λh _ i=>.fl (h.mono x hz) i) (λh n=>.fd (x.out hz h n).1 (x.out hz h n).2) (λh _ i=>.exc (h.mono x hz) i) (λh _ i=>.ob (h.mono x hz) i) .any .nil (λ_ _ i j=>.cons i j) h
theorem aC.map(m:∀d v,Rep K cA U H d v->Rep K cA U' H' d v):∀{d:List D} {v:List V},aC K cA U H d v->aC K cA U' H' d v
 |_,_,.nil=>.nil
 |_,_,.cons h r=>.cons (m _ _ h) (aC.map m r)
theorem jr.map(m:∀d v,Rep K cA U H d v->Rep K cA U' H' d v){d:iV}{v:m5}(h:jr K cA U H d v):jr K cA U' H' d v:=by
 induction h with
 |nil=>exact .nil
 |cons a b c _ ih=>exact .cons (m _ _ a) b (m _ _ c) ih
theorem lq.map{a:Addr}{o:SO}(h:lq K cA U H a o)(e:∀u,NT u->H a=some u->H' a=some u)(m:∀d v,Rep K cA U H d v->Rep K cA U' H' d v):lq K cA U' H' a o:=by
 cases o with
 |lst xs=>obtain⟨vs,q,r⟩:=h;exact⟨vs,e _ trivial q,r.map m⟩
 |dct xs=>obtain⟨vs,q,r⟩:=h;exact⟨vs,e _ trivial q,r.map m⟩
theorem aU.mono(x:Ext U H U' H')(hz:∀a∈U.l,U.z a){d:Xv}{v:V}(h:aU K cA U H d v):aU K cA U' H' d v:=by
 cases h with
 |d h=>exact .d (h.mono x hz)
 |l h=>exact .l (x.get h)
theorem aQ.mono(x:Ext U H U' H')(hz:∀a∈U.l,U.z a):∀{ds:List Xv} {vs:List V},aQ K cA U H ds vs->aQ K cA U' H' ds vs
 |_,_,.nil=>.nil
 |_,_,.cons h r=>.cons (h.mono x hz) (aQ.mono x hz r)
theorem aX.mono(x:Ext U H U' H')(hz:∀a∈U.l,U.z a)(h:aX K cA U H Z J):aX K cA U' H' Z J:=⟨h.1,λi d e=>let ⟨v,a,b⟩:=h.2 i d e;⟨v,a,b.mono x hz⟩⟩
theorem aC.len:∀{ds:List D} {vs:List V},aC K cA U H ds vs->ds.length=vs.length
 |_,_,.nil=>rfl
 |_,_,.cons _ r=>by rw[h_,h_,aC.len r]
theorem aQ.len:∀{ds:List Xv} {vs:List V},aQ K cA U H ds vs->ds.length=vs.length
 |_,_,.nil=>rfl
 |_,_,.cons _ r=>by rw[h_,h_,aQ.len r]
theorem aC.get:∀{ds:List D} {vs:List V} {i:Nat} {d:D},aC K cA U H ds vs->ds[i]?=some d->∃v,vs[i]?=some v/\Rep K cA U H d v
 |_,_,_,_,.nil,e=>by simp at e
 |_,_,0,_,.cons h _,e=>by simp at e;subst e;exact⟨_,rfl,h⟩
 |_,_,i+1,d,.cons _ r,e=>by
  obtain⟨v,a,b⟩:=aC.get (i:=i) (d:=d) r (by simpa using e);exact⟨v,by simpa using a,b⟩
theorem aQ.get:∀{ds:List Xv} {vs:List V} {i:Nat} {d:Xv},aQ K cA U H ds vs->ds[i]?=some d->∃v,vs[i]?=some v/\aU K cA U H d v
 |_,_,_,_,.nil,e=>by simp at e
 |_,_,0,_,.cons h _,e=>by simp at e;subst e;exact⟨_,rfl,h⟩
 |_,_,i+1,d,.cons _ r,e=>by
  obtain⟨v,a,b⟩:=aQ.get (i:=i) (d:=d) r (by simpa using e);exact⟨v,by simpa using a,b⟩
theorem aC.none:∀{ds:List D} {vs:List V} {i:Nat},aC K cA U H ds vs->ds[i]?=none->vs[i]?=none:=λ{ds vs i} r e=>by
 have:=r.len;have h2:ds.length<=i:=qJ.mp e;exact qJ.mpr gV
theorem aC.app:∀{ds es:List D} {vs us:List V},aC K cA U H ds vs->aC K cA U H es us->aC K cA U H (ds++es) (vs++us)
 |_,_,_,_,.nil,s=>s
 |_,_,_,_,.cons h r,s=>.cons h (aC.app r s)
theorem aC.take:∀{ds:List D} {vs:List V} (n:Nat),aC K cA U H ds vs->aC K cA U H (ds.take n) (vs.take n)
 |_,_,0,_=>by simp;exact .nil
 |_,_,n+1,.nil=>by simp;exact .nil
 |_,_,n+1,.cons h r=>by simp only[List.take_succ_cons];exact .cons h (aC.take n r)
theorem aC.drop:∀{ds:List D} {vs:List V} (n:Nat),aC K cA U H ds vs->aC K cA U H (ds.drop n) (vs.drop n)
 |_,_,0,r=>r
 |_,_,n+1,.nil=>by simp;exact .nil
 |_,_,n+1,.cons _ r=>by simp only[List.drop_succ_cons];exact aC.drop n r
theorem aC.set{d:D}{v:V}(h:Rep K cA U H d v):∀{ds:List D} {vs:List V} (i:Nat),aC K cA U H ds vs->aC K cA U H (ds.set i d) (vs.set i v)
 |_,_,_,.nil=>.nil
 |_,_,0,.cons _ r=>.cons h r
 |_,_,i+1,.cons q r=>.cons q (aC.set h i r)
theorem aC.cut{ds:List D}{vs:List V}{l h:Option Int}(r:aC K cA U H ds vs):aC K cA U H (Mi.cut ds l h) (mO vs l h):=by
 unfold Mi.cut mO;rw[<-r.len];exact(r.drop _).take _
def bC(H H':Hp):Prop:=∀a o,H a=some o->H' a=some o
theorem bC.refl:bC H H:=λ_ _ h=>h
theorem bC.trans(x:bC H H')(y:bC H' m6):bC H m6:=λa o h=>y a o (x a o h)
theorem bC.new{p:Addr}{o:HO}(hp:H p=none):bC H (upd H p o):=λa u h=>by rw[bT (xR h hp)];exact h
theorem bC.ext(g:bC H H'):Ext U H U H':=⟨⟨[],by simp,by simp⟩,λ_ h=>h,λ_ h=>.inl h,λa o h _ _=>g a o h,λa o h=>⟨o,g a o h⟩⟩
theorem lq.grow{a:Addr}{o:SO}(g:bC H H')(hz:∀a∈U.l,U.z a)(h:lq K cA U H a o):lq K cA U H' a o:=h.map (λu _=>g _ u) λ_ _ r=>r.mono g.ext hz
theorem aD.grow(g:bC H H')(h:aD K cA U H s):aD K cA U H' s:=
 ⟨h.len,λn o a e1 e2=>(h.obj n o a e1 e2).grow g h.lz,h.uniq,h.lz,λa z=>let ⟨o,e⟩:=h.zt a z;⟨o,g _ _ e⟩⟩
theorem aD.nz(h:aD K cA U H s){p:Addr}(hp:H p=none):¬U.z p:=λz=>by obtain⟨o,e⟩:=h.zt p z;rw[hp] at e;cases e
noncomputable def Ph.add(U:Ph)(p:Addr):Ph:=⟨λa=>U.z a\/a=p,U.l++[p]⟩
theorem Ext.add{p:Addr}{o:HO}(hp:H p=none):Ext U H (U.add p) (upd H p o):=
 ⟨⟨[p],rfl,by simpa using hp⟩,λ_ h=>.inl h,λa h=>h.imp id λe=>by rw[e];exact hp,λa u h _ _=>bC.new hp a u h,λa u h=>⟨u,bC.new hp a u h⟩⟩
theorem aD.J_{p:Addr}{so:SO}{ho:HO}(h:aD K cA U H s)(hp:H p=none)(hr:lq K cA (U.add p) (upd H p ho) p so):aD K cA (U.add p) (upd H p ho) (s++[so]):=by
 have pn:p∉U.l:=λz=>h.nz hp (h.lz p z);refine⟨by show (U.l++[p]).length=_;rw[mj,mj,h.len];rfl,λn o a e1 e2=>?_,?_,λa ha=>?_,λa ha=>?_⟩
 ·have e2:(U.l++[p])[n]?=some a:=e2;by_cases hn:n<s.length
  ·rw[pB hn] at e1;rw[pB (by rw[h.len];exact hn)] at e2;exact(h.obj n o a e1 e2).map (λu _=>bC.new hp _ u) λ_ _ r=>r.mono (Ext.add hp) h.lz
  ·have hl:n=s.length:=by
    have z:=(dW.mp e1).1;rw[mj] at z;simp at z
    lia
   subst hl;rw[pK (bQ _)] at e1;rw[pK (by rw[h.len];exact bQ _)] at e2;simp at e1;simp[h.len] at e2;subst e1 e2;exact hr
 ·show (U.l++[p]).Nodup;rw[Hu];refine⟨h.uniq,by simp,λa ha b hb e=>?_⟩;simp at hb;subst hb e;exact pn ha
 ·have ha:a∈U.l++[p]:=ha;rcases mC.mp ha with z|z
  ·exact .inl (h.lz a z)
  ·simp at z;exact .inr z
 ·rcases ha with z|z
  ·obtain⟨o,e⟩:=h.zt a z;exact⟨o,bC.new hp _ _ e⟩
  ·subst z;exact⟨_,iJ⟩
theorem aD.add{p:Addr}{xs:List D}{vs:List V}(h:aD K cA U H s)(hp:H p=none)(r:aC K cA U H xs vs):aD K cA (U.add p) (upd H p (.lst vs)) (s++[.lst xs]):=h.J_ hp ⟨vs,iJ,r.mono (Ext.add hp) h.lz⟩
theorem Ext.write{n:Nat}{p:Addr}{o:HO}(hp:U.l[n]?=some p)(hv:∃u,H p=some u):Ext U H U (upd H p o):=by
 have hm:p∈U.l:=eG hp;refine⟨⟨[],by simp,by simp⟩,λ_ h=>h,λ_ h=>.inl h,λa u h _ n=>by
  have ne:a≠p:=λe=>n (by rw[e];exact hm);rw[bT ne];exact h,λa u h=>?_⟩
 by_cases e:a=p
 ·subst e;exact⟨o,iJ⟩
 ·exact⟨u,by rw[bT e];exact h⟩
theorem aD.uW{n:Nat}{p:Addr}{so:SO}{ho:HO}(h:aD K cA U H s)(hl:n<s.length)(hp:U.l[n]?=some p)(hr:lq K cA U (upd H p ho) p so):aD K cA U (upd H p ho) (s.set n so):=by
 have hv:=h.zt p (h.lz p (eG hp));have x:Ext U H U (upd H p ho):=Ext.write hp hv;refine⟨by rw[pP];exact h.len,λm o a e1 e2=>?_,h.uniq,h.lz,λa ha=>?_⟩
 ·by_cases hm:n=m
  ·subst hm;rw[zp hl] at e1;cases e1;rw[hp] at e2;cases e2;exact hr
  ·rw[qK hm] at e1;have ne:a≠p:=λy=>by
    subst y;exact hm ((QW (dW.mp hp).1 h.uniq).mp (hp.trans e2.symm))
   exact(h.obj m o a e1 e2).map (λ_ _ q=>by rw[bT ne];exact q) λ_ _ r=>r.mono x h.lz
 ·obtain⟨o,e⟩:=h.zt a ha;obtain⟨o',e'⟩:=x.stay a o e;exact⟨o',e'⟩
theorem aD.write{n:Nat}{p:Addr}{xs ys:List D}{us:List V}(h:aD K cA U H s)(hn:s[n]?=some (.lst xs))(hp:U.l[n]?=some p)(r:aC K cA U H ys us):aD K cA U (upd H p (.lst us)) (s.set n (.lst ys)):=
 h.uW (dW.mp hn).1 hp ⟨us,iJ,r.mono (Ext.write hp (h.zt p (h.lz p (eG hp)))) h.lz⟩
theorem aX.set{i:Nat}{d:Xv}{v:V}(hL:aX K cA U H Z J)(r:aU K cA U H d v):aX K cA U H (Z.set i (some v)) (J.set i (some d)):=by
 refine⟨by rw[pP,pP];exact hL.1,λj e h=>?_⟩;by_cases qU:i=j
 ·subst qU;by_cases hl:i<J.length
  ·rw[zp hl] at h;cases h;exact⟨v,by rw[zp (by rw[hL.1];exact hl)],r⟩
  ·rw[List.getElem?_eq_none (by rw[pP];lia)] at h;cases h
 ·rw[qK qU] at h;obtain⟨u,a,b⟩:=hL.2 j e h;exact⟨u,by rw[qK qU];exact a,b⟩
theorem TupAt.jH{a:Addr}{vs:List V}(h:TupAt K U H a vs):gR K H a vs:=by
 rcases h with ⟨h,_⟩|(h|h)
 ·exact .inl h
 ·rcases h with h|⟨o,h⟩<;>cases h
 ·exact .inr h
theorem LstAt.sW{a:Addr}{vs:List V}(h:LstAt K U H a vs):cV K H a vs:=by
 rcases h with ⟨h,_⟩|(h|h)
 ·exact .inl h
 ·rcases h with h|⟨o,h⟩<;>cases h
 ·exact .inr h
theorem TupAt.new{p:Addr}{vs:List V}(hz:¬U.z p):TupAt K U (upd H p (.tup vs)) p vs:=.inl ⟨.inl iJ,hz⟩
theorem LstAt.new{p:Addr}{vs:List V}(hz:¬U.z p):LstAt K U (upd H p (.lst vs)) p vs:=.inl ⟨.inl iJ,hz⟩
end
end Mi
namespace Mi
open PySem PySem.Spec PyProof.Rows L2
theorem un{α β γ:Type}{A B C:α->β->γ->Prop}{R:Prop}(h:∃a b c,A a b c/\B a b c/\C a b c)(f:∀a b c,A a b c->B a b c->C a b c->R):R:=by
 obtain⟨a,b,c,x,y,z⟩:=h;exact f a b c x y z
section
variable (K:W.Frag)(cA:Cl)
def Run{α:Type}(m:M α)(U:Ph)(H:Hp)(s:S)(P:α->S->Ph->Hp->Prop)(Ee:Nat->List D->S->Ph->Hp->Prop):Prop:=
 match m s with
 |some (.ok a,s')=>∀U' H',Ext U H U' H'->aD K cA U' H' s'->P a s' U' H'
 |some (.er c f,s')=>∀U' H',Ext U H U' H'->aD K cA U' H' s'->Ee c f s' U' H'
 |none=>False
def kJ(U:Ph)(H:Hp)(c:Nat)(fs:List D)(dx:Option Addr):Prop:=
 (cA.f c=[]/\fs=[]/\dx=none)\/∃d vs,dx=some d/\¬U.z d/\H d=some (.xd ((cA.f c).zip vs))/\(cA.f c).length=vs.length/\aC K cA U H fs vs
noncomputable def eX(EX:XS)(Z:L2.St):Nat->List D->S->Ph->Hp->Prop:=λc fs _ U' H'=>∀dx,kJ K cA U' H' c fs dx->EX Z (.ref (cA.a c)) dx H'
noncomputable def tE(EX:XS)(m:Vs->M Xv):TE:=λZ H Q=>∃U J s,aX K cA U H Z J/\aD K cA U H s/\Run K cA (m J) U H s (λd _ U' H'=>∀v,aU K cA U' H' d v->Q v H') (eX K cA EX Z)
noncomputable def T3(EX:XS)(m:Vs->M (List Xv)):TA:=λZ H Q=>∃U J s,aX K cA U H Z J/\aD K cA U H s/\Run K cA (m J) U H s (λd _ U' H'=>∀v,aQ K cA U' H' d v->Q v H') (eX K cA EX Z)
noncomputable def rC(EX:XS)(m:Vs->M Bool):TT:=λZ H Q=>∃U J s,aX K cA U H Z J/\aD K cA U H s/\Run K cA (m J) U H s (λd _ U' H'=>Q d H') (eX K cA EX Z)
def Rv(U:Ph)(H:Hp)(d:D)(v:V):Prop:=match d with
 |.fl xs=>∃a vs,v=.ref a/\cV K H a vs/\aC K cA U H xs vs
 |d=>Rep K cA U H d v
inductive yE (U:Ph) (H:Hp):List D->List V->Prop where
 |nil:yE U H [] []
 |cons {d:D} {v:V} {ds:List D} {vs:List V} (h:Rv K cA U H d v) (r:yE U H ds vs):yE U H (d::ds) (v::vs)
def bL(U:Ph)(H:Hp)(o:Option Rz)(Q:VK):Prop:=match o with
 |none=>False
 |some (.dat d)=>∀H' v,bC H H'->Rep K cA U H' d v->Q v H'
 |some (.nw xs)=>∀p vs,H p=none->aC K cA U H xs vs->Q (.ref p) (upd H p (.lst vs))
structure Zt(U:Ph)(H:Hp):Prop where
 lz:∀a∈U.l,U.z a
 zt:∀a,U.z a->∃o,H a=some o
def bG(p:Pr)(r:List V->Hp->VK->Prop):Prop:=∀(U:Ph) (H:Hp) (ds:List D) (vs:List V) (Q:VK),Zt U H->yE K cA U H ds vs->bL K cA U H (prim p ds) Q->r vs H Q
end
section
variable {K:W.Frag}{cA:Cl}{U U':Ph}{H H':Hp}{s:S}{Z:L2.St}{J:Vs}{EX:XS}
theorem aD.zs(h:aD K cA U H s):Zt U H:=⟨h.lz,h.zt⟩
theorem Zt.nz(h:Zt U H)(hp:H p=none):¬U.z p:=λz=>by obtain⟨o,e⟩:=h.zt p z;rw[hp] at e;cases e
theorem Rep.rv{d:D}{v:V}(h:Rep K cA U H d v):Rv K cA U H d v:=by
 cases h with
 |fl h r=>exact⟨_,_,rfl,h.sW,r⟩
 |non=>exact .non
 |bl b=>exact .bl b
 |int b=>exact .int b
 |str b=>exact .str b
 |tup h r=>exact .tup h r
 |fd h n=>exact .fd h n
 |exc h r=>exact .exc h r
 |ob h r=>exact .ob h r
 |any v=>exact .any v
theorem Run.bd{α β:Type}{m:M α}{k:α->M β}{P:β->S->Ph->Hp->Prop}{Ee:Nat->List D->S->Ph->Hp->Prop}(h:Run K cA (M.bd m k) U H s P Ee):Run K cA m U H s (λa s1 U1 H1=>Ext U H U1 H1/\aD K cA U1 H1 s1/\Run K cA (k a) U1 H1 s1 P Ee) Ee:=by
 unfold Run M.bd at *;cases e:m s with
 |none=>rw[e] at h;exact h
 |some r=>
  obtain⟨r,s1⟩:=r;rw[e] at h;cases r with
  |er c f=>exact h
  |ok a=>
   intro U1 H1 x1 r1;refine⟨x1,r1,?_⟩;dsimp only at h ⊢;cases e2:k a s1 with
   |none=>rw[e2] at h;exact h
   |some q=>
    obtain⟨q,s2⟩:=q;rw[e2] at h;cases q with
    |ok b=>exact λU2 H2 x2 r2=>h U2 H2 (x1.trans x2) r2
    |er c f=>exact λU2 H2 x2 r2=>h U2 H2 (x1.trans x2) r2
theorem Run.imp{α:Type}{m:M α}{P P':α->S->Ph->Hp->Prop}{Ee:Nat->List D->S->Ph->Hp->Prop}(h:Run K cA m U H s P Ee)(f:∀a s' U' H',P a s' U' H'->P' a s' U' H'):Run K cA m U H s P' Ee:=by
 unfold Run at *;split at h
 ·exact λU' H' x r=>f _ _ _ _ (h U' H' x r)
 ·exact h
 ·exact h
theorem Run.ext(x:Ext U H U' H')(h:Run K cA m U H s P Ee):Run K cA m U' H' s P Ee:=by
 unfold Run at *;split at h
 ·exact λU2 H2 y r=>h U2 H2 (x.trans y) r
 ·exact λU2 H2 y r=>h U2 H2 (x.trans y) r
 ·exact h.elim
theorem Run.bH{α:Type}{a:α}{P:α->S->Ph->Hp->Prop}{Ee:Nat->List D->S->Ph->Hp->Prop}(r:aD K cA U H s)(h:Run K cA (M.ret a) U H s P Ee):P a s U H:=h U H Ext.refl r
theorem Run.opt{α:Type}{o:Option α}{P:α->S->Ph->Hp->Prop}{Ee:Nat->List D->S->Ph->Hp->Prop}(r:aD K cA U H s)(h:Run K cA (M.opt o) U H s P Ee):∃a,o=some a/\P a s U H:=by
 cases o with
 |none=>exact h.elim
 |some a=>exact⟨a,rfl,h U H Ext.refl r⟩
theorem Run.m7(h:Run K cA (M.bd (M.opt o) k) U H s P Ee):∃a,o=some a/\Run K cA (k a) U H s P Ee:=by
 cases o with
 |none=>exact h.elim
 |some a=>exact⟨a,rfl,h⟩
theorem Ka{β:Type}{x:Xv}{v:V}{k:Bool->M β}{P:β->S->Ph->Hp->Prop}{Ee:Nat->List D->S->Ph->Hp->Prop}(r:aU K cA U H x v)(h:Run K cA (M.bd (bool x) k) U H s P Ee):∃b,x=.d (.bl b)/\v=.bl b/\Run K cA (k b) U H s P Ee:=by
 cases r with
 |l _=>exact h.elim
 |d r=>cases r with
  |bl b=>exact⟨b,rfl,rfl,h⟩
  |_=>exact h.elim
theorem Dj(r:aU K cA U H x v)(h:Run K cA (M.bd (int x) k) U H s P Ee):∃b,x=.d (.int b)/\v=.int b/\Run K cA (k b) U H s P Ee:=by
 cases r with
 |l _=>exact h.elim
 |d r=>cases r with
  |int b=>exact⟨b,rfl,rfl,h⟩
  |_=>exact h.elim
theorem Oj(r:aU K cA U H x v)(h:Run K cA (M.bd (dat x) k) U H s P Ee):∃d,x=.d d/\Rep K cA U H d v/\Run K cA (k d) U H s P Ee:=by
 cases r with
 |l _=>exact h.elim
 |d r=>exact⟨_,rfl,r,h⟩
theorem T4:∀{xs:List Xv} {vs:List V} {k:List D->M β} {P:β->S->Ph->Hp->Prop} {Ee:Nat->List D->S->Ph->Hp->Prop},aQ K cA U H xs vs->Run K cA (M.bd (cJ xs) k) U H s P Ee->∃ds,xs=ds.map .d/\aC K cA U H ds vs/\Run K cA (k ds) U H s P Ee:=by
 intro xs
 induction xs with
 |nil=>intro vs k P Ee r h;cases r;exact⟨[],rfl,.nil,h⟩
 |cons x xs ih=>
  intro vs k P Ee r h;cases r with
  |cons a r=>
   cases a with
   |l _=>exact h.elim
   |@d y v a=>
    have h2:Run K cA (M.bd (cJ xs) λds=>k (y::ds)) U H s P Ee:=by
     unfold Run M.bd cJ dat at h;unfold Run M.bd;simp only[M.bd,M.ret] at h;cases e:cJ xs s with
     |none=>simp only[e] at h
     |some q=>
      obtain⟨q,s1⟩:=q;simp only[e] at h;cases q with
      |ok ds=>exact h
      |er c f=>exact h
    obtain⟨ds,e,rs,h3⟩:=ih r h2;exact⟨y::ds,by rw[e];rfl,.cons a rs,h3⟩
theorem Ol(hS:aD K cA U H s)(r:aU K cA U H x v)(h:Run K cA (M.bd (rd x) k) U H s P Ee):∃d,Rv K cA U H d v/\Run K cA (k d) U H s P Ee:=by
 cases r with
 |d r=>exact⟨_,r.rv,h⟩
 |@l n a hl=>
  unfold Run M.bd rd at h;dsimp only at h;cases e:s[n]? with
  |none=>rw[e] at h;exact h.elim
  |some o=>
   rw[e] at h;cases o with
   |lst xs=>
    obtain⟨vs,q1,q2⟩:=hS.obj n _ _ e hl;exact⟨.fl xs,⟨a,vs,rfl,cV.of q1,q2⟩,h⟩
   |_=>exact h.elim
theorem gW{α β γ:Type}(m:M α)(f:α->M β)(g:β->M γ):M.bd (M.bd m f) g=M.bd m λx=>M.bd (f x) g:=by
 funext s
 unfold M.bd;cases m s with
 |none=>rfl
 |some r=>
  obtain⟨r,s1⟩:=r;cases r<;>rfl
theorem wJ{β:Type}:∀{xs:List Xv} {vs:List V} {k:List D->M β} {P:β->S->Ph->Hp->Prop} {Ee:Nat->List D->S->Ph->Hp->Prop},aD K cA U H s->aQ K cA U H xs vs->Run K cA (M.bd (iy xs) k) U H s P Ee->∃ds,yE K cA U H ds vs/\Run K cA (k ds) U H s P Ee:=by
 intro xs
 induction xs with
 |nil=>intro vs k P Ee hS r h;cases r;exact⟨[],.nil,h⟩
 |cons x xs ih=>
  intro vs k P Ee hS r h;cases r with
  |cons a r=>
   have h2:Run K cA (M.bd (rd x) λd=>M.bd (iy xs) λds=>k (d::ds)) U H s P Ee:=by
    have e:M.bd (iy (x::xs)) k=M.bd (rd x) λd=>M.bd (iy xs) λds=>k (d::ds):=by
     show M.bd (M.bd (rd x) λd=>M.bd (iy xs) λds=>M.ret (d::ds)) k=_;rw[gW]
     congr 1
     funext d
     rw[gW];rfl
    rw[e] at h;exact h
   obtain⟨d,rd,h3⟩:=Ol hS a h2;obtain⟨ds,rs,h4⟩:=ih hS r h3;exact⟨d::ds,.cons rd rs,h4⟩
theorem uX{fz:Bool}{o:Option Rz}{Q:VK}{Ee:Nat->List D->S->Ph->Hp->Prop}(hS:aD K cA U H s)(h:Run K cA (cD fz o) U H s (λx _ U' H'=>∀v,aU K cA U' H' x v->Q v H') Ee):bL K cA U H o Q:=by
 cases o with
 |none=>exact h.elim
 |some z=>
  cases z with
  |dat d=>exact λH' v g r=>h U H' g.ext (hS.grow g) v (.d r)
  |nw xs=>
   intro p vs hp r;cases fz with
   |true=>exact h U _ (bC.new hp).ext (hS.grow (bC.new hp)) _ (.d (.fl (LstAt.new (hS.nz hp)) (r.mono (bC.new hp).ext hS.lz)))
   |false=>exact h (U.add p) _ (Ext.add hp) (hS.add hp r) _ (.l (by show (U.l++[p])[s.length]?=_;rw[<-hS.len];simp))
theorem Zw{fz:Bool}{xs:List D}{Q:VK}{Ee:Nat->List D->S->Ph->Hp->Prop}(hS:aD K cA U H s)(h:Run K cA (newL fz xs) U H s (λx _ U' H'=>∀v,aU K cA U' H' x v->Q v H') Ee):∀p vs,H p=none->aC K cA U H xs vs->Q (.ref p) (upd H p (.lst vs)):=
 uX (o:=some (.nw xs)) hS h
theorem bw{β:Type}{ma:Vs->M Xv}{k:Xv->M β}{P:β->S->Ph->Hp->Prop}(hL:aX K cA U H Z J)(hS:aD K cA U H s)(h:Run K cA (M.bd (ma J) k) U H s P (eX K cA EX Z)){Q:VK}
  (f:∀x H1 U1 d s1,Ext U H U1 H1->aX K cA U1 H1 Z J->aD K cA U1 H1 s1->aU K cA U1 H1 d x->Run K cA (k d) U1 H1 s1 P (eX K cA EX Z)->Q x H1):tE K cA EX ma Z H Q:=
 ⟨U,J,s,hL,hS,h.bd.imp λd s1 U1 H1 ⟨x1,r1,h1⟩ v rv=>f v H1 U1 d s1 x1 (hL.mono x1 hS.lz) r1 rv h1⟩
theorem qy{β:Type}{ma:Vs->M (List Xv)}{k:List Xv->M β}{P:β->S->Ph->Hp->Prop}(hL:aX K cA U H Z J)(hS:aD K cA U H s)(h:Run K cA (M.bd (ma J) k) U H s P (eX K cA EX Z)){Q:List V->Hp->Prop}
  (f:∀x H1 U1 d s1,Ext U H U1 H1->aX K cA U1 H1 Z J->aD K cA U1 H1 s1->aQ K cA U1 H1 d x->Run K cA (k d) U1 H1 s1 P (eX K cA EX Z)->Q x H1):T3 K cA EX ma Z H Q:=
 ⟨U,J,s,hL,hS,h.bd.imp λd s1 U1 H1 ⟨x1,r1,h1⟩ v rv=>f v H1 U1 d s1 x1 (hL.mono x1 hS.lz) r1 rv h1⟩
theorem yF(hL:aX K cA U H Z J)(hS:aD K cA U H s)(h:Run K cA (M.bd (ma J) k) U H s P (eX K cA EX Z))
  (f:∀b H1 U1 s1,Ext U H U1 H1->aX K cA U1 H1 Z J->aD K cA U1 H1 s1->Run K cA (k b) U1 H1 s1 P (eX K cA EX Z)->Q b H1):rC K cA EX ma Z H Q:=
 ⟨U,J,s,hL,hS,h.bd.imp λd s1 U1 H1 ⟨x1,r1,h1⟩=>f d H1 U1 s1 x1 (hL.mono x1 hS.lz) r1 h1⟩
end
section
variable (X:Cx)(cA:Cl)(aq:Nat->Nat->Bool)(aj:Bool)(F:Fn)(EX:XS)
def SE(e:Expr)(m:E):Prop:=PE X e (tE X.K cA EX (ev aq aj F m))
def SA(es:List Expr)(m:Es):Prop:=PA X es (T3 X.K cA EX (evs aq aj F m))
def ST(e:Expr)(m:E):Prop:=PT X e (rC X.K cA EX (λJ=>M.bd (ev aq aj F m J) bool))
def SW(e:Expr)(m:E):Prop:=PW X e (rC X.K cA EX (λJ=>M.bd (ev aq aj F m J) bool))
end
section
variable {X:Cx}{cA:Cl}{aq:Nat->Nat->Bool}{aj:Bool}{F:Fn}{EX:XS}{a b c d e:Expr}{A B C Dd E':E}{pos:Pos}{es:List Expr}{Xs:Es}{fz:Bool}{p:Pr}
theorem PE.weak{t t':TE}(h:PE X e t)(f:∀Z H Q,t' Z H Q->t Z H Q):PE X e t':=λao s Z H Q I q=>h ao s Z H Q I (f Z H Q q)
theorem PT.weak{t t':TT}(h:PT X e t)(f:∀Z H Q,t' Z H Q->t Z H Q):PT X e t':=λao s Z H Q I q=>h ao s Z H Q I (f Z H Q q)
theorem PW.weak{t t':TT}(h:PW X e t)(f:∀Z H Q,t' Z H Q->t Z H Q):PW X e t':=λwh ao s Z H Q I q=>h wh ao s Z H Q I (f Z H Q q)
theorem PA.weak{t t':TA}(h:PA X es t)(f:∀Z H Q,t' Z H Q->t Z H Q):PA X es t':=λp ao s Z H Q I q=>h p ao s Z H Q I (f Z H Q q)
theorem zmD{i j p}:SE X cA aq aj F EX (.Constant (.int i) j p) (.c (.int i)):=PE.weak zkJ λZ H Q hh=>un hh λU J s hL hS h=>h.bH hS _ (.d (.int i))
theorem znQ{i j p}:SE X cA aq aj F EX (.Constant (.bool i) j p) (.c (.bl i)):=PE.weak znU λZ H Q hh=>un hh λU J s hL hS h=>h.bH hS _ (.d (.bl i))
theorem zlf{j p}:SE X cA aq aj F EX (.Constant .none j p) (.c .non):=PE.weak zlx λZ H Q hh=>un hh λU J s hL hS h=>h.bH hS _ (.d .non)
theorem Om{α:Type}{o:Option (Option α)}{x:α}(h:o.join=some x):o=some (some x):=by
 cases o with
 |none=>cases h
 |some y=>cases y with
  |none=>cases h
  |some z=>cases h;rfl
theorem Zx(i:Nat){x:Str}(hN:X.N[i]?=some x:=by rfl)(hv:Nm X.env.scope x:=by first|exact Or.inl rfl|exact Or.inr (Or.inl rfl)|exact Or.inr (Or.inr rfl))(hd:(x==("__debug__" : Str))=false:=by decide)
  (iK:(x==("__classdict__" : Str))=false:=by decide):SE X cA aq aj F EX (.Name x pos) (.v i):=PE.weak (Yk hN hv hd iK) λZ H Q hh=>un hh λU J s hL hS h=>by
 obtain⟨dd,e1,q⟩:=Run.opt hS h;obtain⟨v,q1,q2⟩:=hL.2 i dd (Om e1);exact⟨v,q1,q v q2⟩
theorem zjF{x:Str}{i:Int}{t:Tok}(hg:Gl X x)(hm:X.mg x=some (.int i t))(hd:(x==("__debug__" : Str))=false:=by decide):SE X cA aq aj F EX (.Name x pos) (.c (.int i)):=PE.weak (zj9 (v:=.int i) hg hm ⟨t,rfl⟩ hd) λZ H Q hh=>un hh λU J s hL hS h=>h.bH hS _ (.d (.int i))
theorem zlV:SA X cA aq aj F EX [] .nil:=PA.weak yd λZ H Q hh=>un hh λU J s hL hS h=>h.bH hS _ .nil
theorem ziH(ha:SE X cA aq aj F EX a A)(hr:SA X cA aq aj F EX es Xs)(hs:starEach (a::es) X.env=(false,eval a X.env)::starEach es X.env:=by rfl):SA X cA aq aj F EX (a::es) (.cons A Xs):=PA.weak (sy ha hr hs) λZ H Q hh=>un hh λU J s hL hS h=>by
 refine bw hL hS h λx H1 U1 d1 s1 x1 hL1 aJ r1 h1=>qy hL1 aJ h1 λys H2 U2 d2 s2 x2 hL2 aR r2 h2=>h2.bH aR _ (.cons (r1.mono x2 aJ.lz) r2)
theorem Oo{U U1 U2:Ph}{H1 H2:Hp}{s1 s2:S}{d1 d2:Xv}{x y:V}{Q:VK}{Ee:Nat->List D->S->Ph->Hp->Prop}(x2:Ext U1 H1 U2 H2)(aJ:aD X.K cA U1 H1 s1)(aR:aD X.K cA U2 H2 s2)(r1:aU X.K cA U1 H1 d1 x)(r2:aU X.K cA U2 H2 d2 y)
  (h:Run X.K cA (M.bd (iy [d1,d2]) λds=>cD fz (prim p ds)) U2 H2 s2 (λx _ U' H'=>∀v,aU X.K cA U' H' x v->Q v H') Ee) {r:List V->Hp->VK->Prop} (hp:bG X.K cA p r):r [x,y] H2 Q:=by
 obtain⟨ds,rs,h2⟩:=wJ aR (.cons (r1.mono x2 aJ.lz) (.cons r2 .nil)) h;exact hp U2 H2 ds _ Q aR.zs rs (uX aR h2)
noncomputable def r2(r:R2):List V->Hp->VK->Prop:=λvs H Q=>∃x y,vs=[x,y]/\r x y H Q
theorem Gh{r:R2}{x y:V}{H:Hp}{Q:VK}(h:r2 r [x,y] H Q):r x y H Q:=by
 obtain⟨_,_,e,q⟩:=h;cases e;exact q
theorem zmo{op:Operator}{r:R2}(ho:fL X (binaryOp op) r)(hp:bG X.K cA p (r2 r))(ha:SE X cA aq aj F EX a A)(hb:SE X cA aq aj F EX b B):SE X cA aq aj F EX (.BinOp a op b pos) (.pr fz p (.cons A (.cons B .nil))):=PE.weak (zm6 ho ha hb) λZ H Q hh=>un hh λU J s hL hS h=>by
 have h:Run X.K cA (M.bd (M.bd (ev aq aj F A J) λx=>M.bd (M.bd (ev aq aj F B J) λy=>M.bd (M.ret []) λz=>M.ret (y::z)) λys=>M.ret (x::ys)) λvs=>M.bd (iy vs) λds=>cD fz (prim p ds)) U H s _ _:=h;simp only[gW] at h;refine bw hL hS h λx H1 U1 d1 s1 x1 hL1 aJ r1 h1=>bw hL1 aJ h1 λy H2 U2 d2 s2 x2 hL2 aR r2' h2=>?_;exact Gh (Oo (fz:=fz) (U:=U) x2 aJ aR r1 r2' h2 hp)
theorem zkA{op:CmpOp}{r:R2}(ho:fL X (compareOp op) r)(hp:bG X.K cA p (r2 r))(ha:SE X cA aq aj F EX a A)(hb:SE X cA aq aj F EX b B)(hm:behindInMarks op b=false):SE X cA aq aj F EX (.Compare a [op] [b] pos) (.pr true p (.cons A (.cons B .nil))):=PE.weak (zju ho ha hb hm) λZ H Q hh=>un hh λU J s hL hS h=>by
 have h:Run X.K cA (M.bd (M.bd (ev aq aj F A J) λx=>M.bd (M.bd (ev aq aj F B J) λy=>M.bd (M.ret []) λz=>M.ret (y::z)) λys=>M.ret (x::ys)) λvs=>M.bd (iy vs) λds=>cD true (prim p ds)) U H s _ _:=h;simp only[gW] at h;refine bw hL hS h λx H1 U1 d1 s1 x1 hL1 aJ r1 h1=>bw hL1 aJ h1 λy H2 U2 d2 s2 x2 hL2 aR r2' h2=>?_;exact Gh (Oo (fz:=true) (U:=U) x2 aJ aR r1 r2' h2 hp)
theorem iT{A B:Prop}(h:A):if true=true then A else B:=by rw[if_pos rfl];exact h
theorem iF{A B:Prop}(h:B):if false=true then A else B:=by rw[if_neg Hr];exact h
theorem zmk{op:CmpOp}{r:R2}(ho:fL X (compareOp op) r)(hp:bG X.K cA p (r2 r))(ha:SE X cA aq aj F EX a A)(hb:SE X cA aq aj F EX b B)(hm:behindInMarks op b=false):ST X cA aq aj F EX (.Compare a [op] [b] pos) (.pr true p (.cons A (.cons B .nil))):=PT.weak (zjS ho ha hb hm) λZ H Q hh=>un hh λU J s hL hS h=>by
 have h:Run X.K cA (M.bd (M.bd (M.bd (ev aq aj F A J) λx=>M.bd (M.bd (ev aq aj F B J) λy=>M.bd (M.ret []) λz=>M.ret (y::z)) λys=>M.ret (x::ys)) λvs=>M.bd (iy vs) λds=>cD true (prim p ds)) bool) U H s _ _:=h;simp only[gW] at h;refine bw hL hS h λx H1 U1 d1 s1 x1 hL1 aJ r1 h1=>bw hL1 aJ h1 λy H2 U2 d2 s2 x2 hL2 aR r2' h2=>?_;obtain⟨ds,rs,h3⟩:=wJ aR (.cons (r1.mono x2 aJ.lz) (.cons r2' .nil)) h2;refine Gh (hp U2 H2 ds _ _ aR.zs rs (uX (Ee:=eX X.K cA EX Z) aR (h3.bd.imp λt s3 U3 H3 ⟨x3,gO,h4⟩ v rv=>?_)));cases rv with
 |l _=>exact h4.elim
 |d rv=>cases rv with
  |bl k=>exact⟨k,rfl,h4 U3 H3 Ext.refl gO⟩
  |_=>exact h4.elim
theorem zkW{op op':CmpOp}{r r':R2}{q:Pr}(ho:fL X (compareOp op) r)(hp:bG X.K cA p (r2 r))(pU:fL X (compareOp op') r')(hp':bG X.K cA q (r2 r'))(ha:SE X cA aq aj F EX a A)(hb:SE X cA aq aj F EX b B)(hc:SE X cA aq aj F EX c C)(hm:lastMarks [op,op'] [b,c]=false:=by with_unfolding_all rfl) :
  SE X cA aq aj F EX (.Compare a [op,op'] [b,c] pos) (.zW p q A B C):=PE.weak (zhH ho pU ha hb hc hm) λZ H Q hh=>un hh λU J s hL hS h=>by
 refine bw hL hS h λx H1 U1 d1 s1 x1 hL1 aJ r1 h1=>bw hL1 aJ h1 λy H2 U2 d2 s2 x2 hL2 aR r2' h2=>?_;obtain⟨ds,rs,h3⟩:=wJ aR (.cons (r1.mono x2 aJ.lz) (.cons r2' .nil)) h2;refine Gh (hp U2 H2 ds _ _ aR.zs rs (uX (Ee:=eX X.K cA EX Z) aR (h3.bd.imp λt s3 U3 H3 ⟨x3,gO,h4⟩ v rv=>?_)));obtain⟨k,_,e,h5⟩:=Ka rv h4;refine⟨k,e,?_⟩;cases k with
 |false=>exact iF (h5.bH gO _ (.d (.bl _)))
 |true=>
  have oU:=hL2.mono x3 aR.lz;refine iT (bw oU gO h5 λz H4 U4 d4 s4 x4 hL4 rE r4 h6=>?_);exact Gh (Oo (fz:=true) (U:=U) x4 gO rE (r2'.mono x3 aR.lz) r4 h6 hp')
theorem zmm(ha:SE X cA aq aj F EX a A):SE X cA aq aj F EX (.UnaryOp .Not a pos) (.not A):=PE.weak (zlQ ha) λZ H Q hh=>un hh λU J s hL hS h=>by
 refine bw hL hS h λx H1 U1 d1 s1 x1 hL1 aJ r1 h1=>?_;obtain⟨i,_,e,h3⟩:=Ka r1 h1;exact⟨i,e,h3.bH aJ _ (.d (.bl _))⟩
theorem zlS{op}(ha:SE X cA aq aj F EX a A):SE X cA aq aj F EX (.BoolOp op [a] pos) A:=zmf ha
theorem zle{rest:List Expr}(ha:SE X cA aq aj F EX a A)(hb:SE X cA aq aj F EX (.BoolOp .And (b::rest) pos) B):SE X cA aq aj F EX (.BoolOp .And (a::b::rest) pos) (.and A B):=PE.weak (zk8 ha hb) λZ H Q hh=>un hh λU J s hL hS h=>by
 refine bw hL hS h λx H1 U1 d1 s1 x1 hL1 aJ r1 h1=>?_;obtain⟨i,_,e,h3⟩:=Ka r1 h1;refine⟨i,e,?_⟩;cases i with
 |true=>exact iT ⟨U1,J,s1,hL1,aJ,h3⟩
 |false=>exact iF (h3.bH aJ _ (.d (.bl _)))
theorem znm{rest:List Expr}(ha:SE X cA aq aj F EX a A)(hb:SE X cA aq aj F EX (.BoolOp .Or (b::rest) pos) B):SE X cA aq aj F EX (.BoolOp .Or (a::b::rest) pos) (.or A B):=PE.weak (znb ha hb) λZ H Q hh=>un hh λU J s hL hS h=>by
 refine bw hL hS h λx H1 U1 d1 s1 x1 hL1 aJ r1 h1=>?_;obtain⟨i,_,e,h3⟩:=Ka r1 h1;refine⟨i,e,?_⟩;cases i with
 |true=>exact iT (h3.bH aJ _ (.d (.bl _)))
 |false=>exact iF ⟨U1,J,s1,hL1,aJ,h3⟩
end
section
variable {X:Cx}{cA:Cl}{aq:Nat->Nat->Bool}{aj:Bool}{F:Fn}{EX:XS}{a b c d e o:Expr}{A B C Dd E' O:E}{pos pp p2 apos:Pos}{es:List Expr}{Xs:Es}{fz:Bool}{p:Pr}{x:Str}
theorem zlu(ha:SE X cA aq aj F EX a A)(he:∀whole,isTrue a X.env whole=(do let v <-whole;standAt a.pos;holding [v] (truthy v)):=by intro _;rfl):ST X cA aq aj F EX a A:=PT.weak (zkC ha he) λZ H Q hh=>un hh λU J s hL hS h=>by
 refine bw hL hS h λx H1 U1 d1 s1 x1 hL1 aJ r1 h1=>?_;have h1:Run X.K cA (M.bd (bool d1) M.ret) U1 H1 s1 (λd _ U' H'=>Q d H') (eX X.K cA EX Z):=by
  cases d1 with
  |l n=>exact h1
  |d v=>cases v<;>exact h1
 obtain⟨k,_,e,q⟩:=Ka r1 h1;exact⟨k,e,q.bH aJ⟩
theorem zhA{m:M Xv}{g:Bool->Bool}:M.bd (M.bd m λx=>M.bd (bool x) λk=>M.ret (Xv.d (.bl (g k)))) bool=M.bd (M.bd m bool) λk=>M.ret (g k):=by
 rw[gW,gW]
 congr 1
 funext x
 rw[gW];rfl
theorem zmG(ha:ST X cA aq aj F EX a A):ST X cA aq aj F EX (.UnaryOp .Not a pos) (.not A):=PT.weak (zli ha) λZ H Q hh=>un hh λU J s hL hS h=>by
 have h:Run X.K cA (M.bd (M.bd (ev aq aj F A J) λx=>M.bd (bool x) λk=>M.ret (Xv.d (.bl (!k)))) bool) U H s _ _:=h;rw[zhA (g:=λk=>!k)] at h;exact yF hL hS h λk H1 U1 s1 x1 hL1 aJ h1=>h1.bH aJ
theorem zke(ha:ST X cA aq aj F EX a A):SW X cA aq aj F EX (.BoolOp .And [a] pos) A:=zjC ha
theorem zk2(ha:ST X cA aq aj F EX a A):SW X cA aq aj F EX (.BoolOp .Or [a] pos) A:=zlh ha
theorem Zy{m:M Xv}{k:Bool->M Xv}:M.bd (M.bd m λx=>M.bd (bool x) k) bool=M.bd (M.bd m bool) λb=>M.bd (k b) bool:=by
 rw[gW,gW]
 congr 1
 funext x
 rw[gW]
theorem zln{rest:List Expr}(ha:ST X cA aq aj F EX a A)(hb:SW X cA aq aj F EX (.BoolOp .And (b::rest) pos) B):SW X cA aq aj F EX (.BoolOp .And (a::b::rest) pos) (.and A B):=PW.weak (zmp ha hb) λZ H Q hh=>un hh λU J s hL hS h=>by
 have h:Run X.K cA (M.bd (M.bd (ev aq aj F A J) λx=>M.bd (bool x) λk=>if k=true then ev aq aj F B J else M.ret (Xv.d (.bl false))) bool) U H s _ _:=h;rw[Zy] at h;refine yF hL hS h λk H1 U1 s1 x1 hL1 aJ h3=>?_;cases k with
 |true=>exact iT ⟨U1,J,s1,hL1,aJ,h3⟩
 |false=>exact iF (Run.bH aJ (a:=false) h3)
theorem znj{rest:List Expr}(ha:ST X cA aq aj F EX a A)(hb:SW X cA aq aj F EX (.BoolOp .Or (b::rest) pos) B):SW X cA aq aj F EX (.BoolOp .Or (a::b::rest) pos) (.or A B):=PW.weak (znW ha hb) λZ H Q hh=>un hh λU J s hL hS h=>by
 have h:Run X.K cA (M.bd (M.bd (ev aq aj F A J) λx=>M.bd (bool x) λk=>if k=true then M.ret (Xv.d (.bl true)) else ev aq aj F B J) bool) U H s _ _:=h;rw[Zy] at h;refine yF hL hS h λk H1 U1 s1 x1 hL1 aJ h3=>?_;cases k with
 |true=>exact iT (Run.bH aJ (a:=true) h3)
 |false=>exact iF ⟨U1,J,s1,hL1,aJ,h3⟩
theorem zoR(h:SW X cA aq aj F EX a A):ST X cA aq aj F EX a A:=Kac h
theorem zjc:(M.bd m λx=>M.bd (bool x) k)=M.bd (M.bd m bool) k:=by rw[gW]
theorem zk0(hc:ST X cA aq aj F EX c C)(ha:SE X cA aq aj F EX a A)(hb:SE X cA aq aj F EX b B):SE X cA aq aj F EX (.IfExp c a b pos) (.ite C A B):=PE.weak (zhJ hc ha hb) λZ H Q hh=>un hh λU J s hL hS h=>by
 have h:Run X.K cA (M.bd (ev aq aj F C J) λx=>M.bd (bool x) λk=>if k=true then ev aq aj F A J else ev aq aj F B J) U H s _ _:=h;rw[zjc] at h;refine yF hL hS h λk H1 U1 s1 x1 hL1 aJ h3=>?_;cases k with
 |true=>exact iT ⟨U1,J,s1,hL1,aJ,h3⟩
 |false=>exact iF ⟨U1,J,s1,hL1,aJ,h3⟩
theorem Zz:∀(Xs:Es) (J:Vs) (s:S) (ds:List Xv) (s':S),evs aq aj F Xs J s=some (.ok ds,s')->ds.length=Es.len Xs
 |.nil,J,s,ds,s',h=>by cases h;rfl
 |.cons a r,J,s,ds,s',h=>by
  have h:M.bd (ev aq aj F a J) (λx=>M.bd (evs aq aj F r J) λxs=>M.ret (x::xs)) s=some (.ok ds,s'):=h;unfold M.bd at h;cases e1:ev aq aj F a J s with
  |none=>rw[e1] at h;cases h
  |some q=>
   obtain⟨q,s1⟩:=q;rw[e1] at h;cases q with
   |er c f=>cases h
   |ok d=>
    dsimp only at h;cases e2:evs aq aj F r J s1 with
    |none=>rw[e2] at h;cases h
    |some q=>
     obtain⟨q,s2⟩:=q;rw[e2] at h;cases q with
     |er c f=>cases h
     |ok ds'=>
      cases h;rw[h_,Zz r J s1 ds' _ e2];rfl
theorem Kc{β:Type}{K:W.Frag}{U:Ph}{H:Hp}{s:S}{Z:L2.St}{J:Vs}{k:List Xv->M β}{P:β->S->Ph->Hp->Prop}(hL:aX K cA U H Z J)(hS:aD K cA U H s)(h:Run K cA (M.bd (evs aq aj F Xs J) k) U H s P (eX K cA EX Z)){Q:List V->Hp->Prop}
  (f:∀x H1 U1 d s1,d.length=Es.len Xs->Ext U H U1 H1->aX K cA U1 H1 Z J->aD K cA U1 H1 s1->aQ K cA U1 H1 d x->Run K cA (k d) U1 H1 s1 P (eX K cA EX Z)->Q x H1):T3 K cA EX (evs aq aj F Xs) Z H Q:=by
 refine⟨U,J,s,hL,hS,?_⟩;have h2:=h.bd;unfold Run at h2 ⊢;cases e:evs aq aj F Xs J s with
 |none=>rw[e] at h2;exact h2
 |some r=>
  obtain⟨r,s1⟩:=r;rw[e] at h2;cases r with
  |er c f=>exact h2
  |ok ds=>
   intro U1 H1 x1 r1 v rv;obtain⟨_,_,h3⟩:=h2 U1 H1 x1 r1;exact f v H1 U1 ds s1 (Zz Xs J s ds s1 e) x1 (hL.mono x1 hS.lz) r1 rv h3
theorem zlB{k}(ha:SA X cA aq aj F EX es Xs)(hz:Es.len Xs<=sizeLine):SE X cA aq aj F EX (.Tuple es k pos) (.tup Xs):=PE.weak (zl5 ha) λZ H Q hh=>un hh λU J s hL hS h=>by
 refine Kc hL hS h λvs H1 U1 xs s1 hl x1 hL1 aJ rv h1=>?_;obtain⟨ds,e,rs,h2⟩:=T4 rv h1;refine⟨by rw[<-rv.len,hl];exact hz,λp hp=>?_⟩;exact h2 U1 (upd H1 p (.tup vs)) (bC.new hp).ext (aJ.grow (bC.new hp)) _ (.d (.tup (TupAt.new (aJ.nz hp)) (rs.mono (bC.new hp).ext aJ.lz)))
theorem zk7(ha:SA X cA aq aj F EX es Xs)(hz:Es.len Xs<=sizeLine):SE X cA aq aj F EX (.List es pos) (.lst fz Xs):=PE.weak (zmw ha) λZ H Q hh=>un hh λU J s hL hS h=>by
 refine Kc hL hS h λvs H1 U1 xs s1 hl x1 hL1 aJ rv h1=>?_;obtain⟨ds,e,rs,h2⟩:=T4 rv h1;exact⟨by rw[<-rv.len,hl];exact hz,λp hp=>Zw aJ h2 p vs hp rs⟩
theorem Ab{id:String}{r:List V->Hp->VK->Prop}(hc:cW X (.builtin id) r)(hp:bG X.K cA p r)
  (hg:Gl X x) (hm:X.mg x=none) (hv:bootBuiltins x=some (.builtin id)) (ha:SA X cA aq aj F EX (e::es) Xs) (hn:x≠"__name__":=by decide) (sG:(x==("__debug__" : Str))=false:=by decide)
  (he:starEach (e::es) X.env=(false,eval e X.env)::starEach es X.env:=by rfl) (cT:(backTo pos (starEach es X.env)).any (·.1)=false:=by rfl):SE X cA aq aj F EX (.Call (.Name x pp) (e::es) [] pos) (.pr fz p Xs):=PE.weak (YK hc hg hm hv ha hn sG he cT) λZ H Q hh=>un hh λU J s hL hS h=>
 qy hL hS h λvs H1 U1 ds s1 x1 hL1 aJ r1 h1=>by
  obtain⟨ds,rs,h3⟩:=wJ aJ r1 h1;exact hp U1 H1 ds _ _ aJ.zs rs (uX aJ h3)
theorem T5{id:String}{r:List V->Hp->VK->Prop}(hc:cW X (.type id) r)(hp:bG X.K cA p r)
  (hg:Gl X x) (hm:X.mg x=none) (hv:bootBuiltins x=some (.type id)) (ha:SA X cA aq aj F EX (e::es) Xs) (hn:x≠"__name__":=by decide) (sG:(x==("__debug__" : Str))=false:=by decide)
  (he:starEach (e::es) X.env=(false,eval e X.env)::starEach es X.env:=by rfl) (cT:(backTo pos (starEach es X.env)).any (·.1)=false:=by rfl):SE X cA aq aj F EX (.Call (.Name x pp) (e::es) [] pos) (.pr fz p Xs):=PE.weak (zfx hc hg hm hv ha hn sG he cT) λZ H Q hh=>un hh λU J s hL hS h=>
 qy hL hS h λvs H1 U1 ds s1 x1 hL1 aJ r1 h1=>by
  obtain⟨ds,rs,h3⟩:=wJ aJ r1 h1;exact hp U1 H1 ds _ _ aJ.zs rs (uX aJ h3)
theorem znv(hp:bG X.K cA p (r2 (R4 X.K)))(ha:SE X cA aq aj F EX a A)(hb:SE X cA aq aj F EX b B)(hs:qX b:=by intro _ _;rfl):SE X cA aq aj F EX (.Subscript a b pos) (.pr true p (.cons A (.cons B .nil))):=PE.weak (znu zky ha hb hs) λZ H Q hh=>un hh λU J s hL hS h=>by
 have h:Run X.K cA (M.bd (M.bd (ev aq aj F A J) λx=>M.bd (M.bd (ev aq aj F B J) λy=>M.bd (M.ret []) λz=>M.ret (y::z)) λys=>M.ret (x::ys)) λvs=>M.bd (iy vs) λds=>cD true (prim p ds)) U H s _ _:=h;simp only[gW] at h;refine bw hL hS h λx H1 U1 d1 s1 x1 hL1 aJ r1 h1=>bw hL1 aJ h1 λy H2 U2 d2 s2 x2 hL2 aR r2' h2=>?_;exact Gh (Oo (fz:=true) (U:=U) x2 aJ aR r1 r2' h2 hp)
theorem zmZ(ho:Nz X (unaryOp op) r)(hp:bG X.K cA p (λvs H Q=>∃x,vs=[x]/\r x H Q))(ha:SE X cA aq aj F EX a A):SE X cA aq aj F EX (.UnaryOp op a pos) (.pr true p (.cons A .nil)):=PE.weak (znD ho ha) λZ H Q hh=>un hh λU J s hL hS h=>by
 have h:Run X.K cA (M.bd (M.bd (ev aq aj F A J) λx=>M.bd (M.ret []) λz=>M.ret (x::z)) λvs=>M.bd (iy vs) λds=>cD true (prim p ds)) U H s _ _:=h;simp only[gW] at h;refine bw hL hS h λx H1 U1 d1 s1 x1 hL1 aJ r1 h1=>?_;obtain⟨ds,rs,h3⟩:=wJ aJ (.cons r1 .nil) h1;obtain⟨_,e,q⟩:=hp U1 H1 ds _ _ aJ.zs rs (uX aJ h3);cases e;exact q
theorem zkG{j p'}(ha:SE X cA aq aj F EX a A):SE X cA aq aj F EX (.Compare a [.Is] [.Constant .none j p'] pos) (.pr true .wH (.cons A .nil)):=PE.weak (Yn (Yl ha)) λZ H Q hh=>un hh λU J s hL hS h=>by
 have h:Run X.K cA (M.bd (M.bd (ev aq aj F A J) λx=>M.bd (M.ret []) λz=>M.ret (x::z)) λvs=>M.bd (iy vs) λds=>cD true (prim .wH ds)) U H s _ _:=h;simp only[gW] at h;refine bw hL hS h λx H1 U1 d1 s1 x1 hL1 aJ r1 h1=>?_;obtain⟨ds,rs,h3⟩:=wJ aJ (.cons r1 .nil) h1;cases rs with
 |cons r rs=>cases rs with
  |nil=>
   rename_i d;have h4:=uX aJ h3;have q:=h4 H1 _ bC.refl (.bl _);cases d<;>first
    |(obtain⟨_,_,rfl,_,_⟩:=r;exact q)
    |(cases (show Rep _ _ _ _ _ x from r)<;>exact q)
theorem zi4{j p'}(ha:SE X cA aq aj F EX a A):SE X cA aq aj F EX (.Compare a [.IsNot] [.Constant .none j p'] pos) (.pr true .sH (.cons A .nil)):=PE.weak (Yn (Ym ha)) λZ H Q hh=>un hh λU J s hL hS h=>by
 have h:Run X.K cA (M.bd (M.bd (ev aq aj F A J) λx=>M.bd (M.ret []) λz=>M.ret (x::z)) λvs=>M.bd (iy vs) λds=>cD true (prim .sH ds)) U H s _ _:=h;simp only[gW] at h;refine bw hL hS h λx H1 U1 d1 s1 x1 hL1 aJ r1 h1=>?_;obtain⟨ds,rs,h3⟩:=wJ aJ (.cons r1 .nil) h1;cases rs with
 |cons r rs=>cases rs with
  |nil=>
   rename_i d;have h4:=uX aJ h3;have q:=h4 H1 _ bC.refl (.bl _);cases d<;>first
    |(obtain⟨_,_,rfl,_,_⟩:=r;exact q)
    |(cases (show Rep _ _ _ _ _ x from r)<;>exact q)
theorem ZC(q:Pr)(hq:prim q=CV f)(hh:rC X.K cA EX (λJ=>M.bd (ev aq aj F (.pr true q (.cons A .nil)) J) bool) Z H Q):tE X.K cA EX (ev aq aj F A) Z H λx H1=>Q (f (decide (x=.non))) H1:=un hh λU J s hL hS h=>by
 have h:Run X.K cA (M.bd (M.bd (M.bd (ev aq aj F A J) λx=>M.bd (M.ret []) λz=>M.ret (x::z)) λvs=>M.bd (iy vs) λds=>cD true (prim q ds)) bool) U H s _ _:=h;simp only[gW] at h;refine bw hL hS h λx H1 U1 d1 s1 x1 hL1 aJ r1 h1=>?_;obtain⟨ds,rs,h3⟩:=wJ aJ (.cons r1 .nil) h1;cases rs with
 |cons r rs=>cases rs with
  |nil=>
   rename_i d;rw[hq] at h3;have h4:Run X.K cA (M.bd (M.ret (Xv.d (.bl (f d.oH)))) bool) U1 H1 s1 (λd _ U' H'=>Q d H') (eX X.K cA EX Z):=h3;have q:=h4 U1 H1 Ext.refl aJ;cases d<;>first
    |(obtain⟨_,_,rfl,_,_⟩:=r;exact q)
    |(cases (show Rep _ _ _ _ _ x from r)<;>exact q)
theorem zld{j p'}(ha:SE X cA aq aj F EX a A):ST X cA aq aj F EX (.Compare a [.Is] [.Constant .none j p'] pos) (.pr true .wH (.cons A .nil)):=PT.weak (Ri (Yl ha)) λZ H Q hh=>by
 have:=ZC .wH (f:=id) rfl hh;obtain⟨U,J,s,a,b,c⟩:=this;exact⟨U,J,s,a,b,c.imp λd s' U' H' k v rv=>⟨_,rfl,k v rv⟩⟩
theorem zjB{j p'}(ha:SE X cA aq aj F EX a A):ST X cA aq aj F EX (.Compare a [.IsNot] [.Constant .none j p'] pos) (.pr true .sH (.cons A .nil)):=PT.weak (Ri (Ym ha)) λZ H Q hh=>by
 have:=ZC .sH (f:=not) rfl hh;obtain⟨U,J,s,a,b,c⟩:=this;exact⟨U,J,s,a,b,c.imp λd s' U' H' k v rv=>⟨_,rfl,k v rv⟩⟩
theorem zhC{K:W.Frag}{U:Ph}{H:Hp}{s:S}{x:Xv}{v:V}{Q:Bool->Hp->Prop}{Ee:Nat->List D->S->Ph->Hp->Prop}(hS:aD K cA U H s)(r:aU K cA U H x v)(h:Run K cA (bool x) U H s (λd _ U' H'=>Q d H') Ee):∃k,v=.bl k/\Q k H:=by
 cases r with
 |l _=>exact h.elim
 |d rv=>cases rv with
  |bl k=>exact⟨k,rfl,h U H Ext.refl hS⟩
  |_=>exact h.elim
end
mutual
inductive Is (h:Heap):D->Value->Prop where
 |non:Is h .non .none
 |bl (b:Bool):Is h (.bl b) (.bool b)
 |int (i:Int) (t:Tok):Is h (.int i) (.int i t)
 |str (x:Str) (t:Tok):Is h (.str x) (.str x t)
 |tup {a:Addr} {xs:List D} {its:List Value} (p:h.IsTuple a its.toArray) (r:jJ h xs its):Is h (.tup xs) (.ref a)
 |fl {a:Addr} {xs:List D} {its:List Value} (p:h.IsList a its.toArray) (r:jJ h xs its):Is h (.fl xs) (.ref a)
 |oth {d:D} {u:Value} (k:kq d=none):Is h d u
inductive jJ (h:Heap):List D->List Value->Prop where
 |nil:jJ h [] []
 |cons {d:D} {u:Value} {ds:List D} {us:List Value} (a:Is h d u) (r:jJ h ds us):jJ h (d::ds) (u::us)
end
section
variable {X:Cx}{cA:Cl}{ao:List (Addr×Obj)}{Z:L2.St}{H:Hp}{s:Shared}{U:Ph}{h:Heap}
theorem T6(I:Inv X ao Z H s){ds:List D}{vs:List V}{us:List Value}(h:aC X.K cA U H ds vs)(r:Vals vs us):jJ s.heap ds us:=
 aC.rec (motive_1:=λd v _=>∀{u:Value},RelV v u->Is s.heap d u) (motive_2:=λd v _=>∀{u:List Value},Vals v u->jJ s.heap d u) (λr=>by cases r;exact .non) (λb _ r=>by cases r;exact .bl b) (λi _ r=>by obtain⟨t,rfl⟩:=r;exact .int i t) (λi _ r=>by obtain⟨t,rfl⟩:=r;exact .str i t)
 (λh _ ih _ r=>by
  cases r;obtain⟨its,rv,ht,_⟩:=I.tuple h.jH;exact .tup ht (ih rv))
 (λh _ ih _ r=>by
  cases r;obtain⟨its,rv,ht,_⟩:=I.list h.sW;exact .fl ht.isList (ih rv))
 (λ_ _ _ _=>.oth rfl) (λ_ _ _ _ _=>.oth rfl) (λ_ _ _ _ _=>.oth rfl) (λ_ _ _=>.oth rfl)
 (λr=>by cases r;exact .nil)
 (λ_ _ i j _ r=>by
  cases r with
  |cons a b=>exact .cons (i a) (j b)) h r
theorem sX(I:Inv X ao Z H s){d:D}{v:V}{u:Value}(h:Rep X.K cA U H d v)(r:RelV v u):Is s.heap d u:=by
 cases h with
 |non=>cases r;exact .non
 |bl b=>cases r;exact .bl b
 |int i=>obtain⟨t,rfl⟩:=r;exact .int i t
 |str i=>obtain⟨t,rfl⟩:=r;exact .str i t
 |tup h q=>
  cases r;obtain⟨its,rv,ht,_⟩:=I.tuple h.jH;exact .tup ht (T6 I q rv)
 |fl h q=>
  cases r;obtain⟨its,rv,ht,_⟩:=I.list h.sW;exact .fl ht.isList (T6 I q rv)
 |fd _ _=>exact .oth rfl
 |exc _ _=>exact .oth rfl
 |ob _ _=>exact .oth rfl
 |any _=>exact .oth rfl
theorem Gi(I:Inv X ao Z H s){d:D}{v:V}{u:Value}(q:Rv X.K cA U H d v)(r:RelV v u):Is s.heap d u:=by
 cases d with
 |fl xs=>
  obtain⟨a,vs,rfl,sq,rs⟩:=q;cases r;obtain⟨its,rv,ht,_⟩:=I.list sq;exact .fl ht.isList (T6 I rs rv)
 |non=>exact sX I q r
 |bl b=>exact sX I q r
 |int b=>exact sX I q r
 |str b=>exact sX I q r
 |tup b=>exact sX I q r
 |fd b c=>exact sX I q r
 |exc b c=>exact sX I q r
 |ob b c=>exact sX I q r
 |any=>exact sX I q r
theorem jJ.len:∀{ds:List D} {us:List Value},jJ h ds us->ds.length=us.length
 |_,_,.nil=>rfl
 |_,_,.cons _ r=>by rw[h_,h_,jJ.len r]
theorem jJ.get:∀{ds:List D} {us:List Value} {i:Nat} {d:D},jJ h ds us->ds[i]?=some d->∃u,us[i]?=some u/\Is h d u
 |_,_,_,_,.nil,e=>by simp at e
 |_,_,0,_,.cons h _,e=>by simp at e;subst e;exact⟨_,rfl,h⟩
 |_,_,i+1,d,.cons _ r,e=>by
  obtain⟨v,a,b⟩:=jJ.get (i:=i) (d:=d) r (by simpa using e);exact⟨v,by simpa using a,b⟩
theorem ZD{a:Addr}{is js:Array Value}(p:h.IsTuple a is)(q:h.IsTuple a js):is=js:=by
 obtain⟨o,e,c,n,d⟩:=p;obtain⟨o',e',c',n',d'⟩:=q;rw[e] at e';cases e';rw[d] at d';cases d';rfl
theorem ZF{a:Addr}{is js:Array Value}(p:h.IsList a is)(q:h.IsList a js):is=js:=by
 obtain⟨o,e,c,n,d⟩:=p;obtain⟨o',e',c',n',d'⟩:=q;rw[e] at e';cases e';rw[d] at d';cases d';rfl
theorem wK{a:Addr}{is js:Array Value}(p:h.IsList a is)(q:h.IsTuple a js):False:=by
 obtain⟨o,e,c,n,d⟩:=p;obtain⟨o',e',c',n',d'⟩:=q;rw[e] at e';cases e';rw[c] at c';exact absurd c' Zaa
theorem Ke{eq:D->D->Option Bool}:∀{xs ys:List D} {b:Bool},dR eq xs ys=some b->∃e:Nat->Bool,(∀(j:Nat) x y,xs[j]?=some x->ys[j]?=some y->eq x y=some (e j))/\b=((List.range (min xs.length ys.length)).all e&&xs.length==ys.length)
 |[],[],b,h=>by cases h;exact⟨λ_=>true,λj x y q=>by simp at q,by simp⟩
 |[],y::ys,b,h=>by cases h;exact⟨λ_=>true,λj x y q=>by simp at q,by simp⟩
 |x::xs,[],b,h=>by cases h;exact⟨λ_=>true,λj x y q r=>by simp at r,by simp⟩
 |x::xs,y::ys,b,h=>by
  simp only[dR] at h;cases e1:eq x y with
  |none=>rw[e1] at h;cases h
  |some a=>
   cases e2:dR eq xs ys with
   |none=>rw[e1,e2] at h;cases h
   |some c=>
    rw[e1,e2] at h;cases h;obtain⟨e,h1,h2⟩:=Ke e2;refine⟨λj=>match j with|0=>a|j+1=>e j,λj p q r1 r2=>?_,?_⟩
    ·cases j with
     |zero=>
      simp at r1 r2;subst r1 r2;exact e1
     |succ j=>exact h1 j p q (by simpa using r1) (by simpa using r2)
    ·rw[h2];simp only[h_,Nat.succ_min_succ,QJ,Bq,HF,Function.comp_def];rw[Bool.and_assoc]
     congr 2
     simp
theorem jt{n:Nat}{d e:D}(k:kq d=none):dF n d e=none:=by
 cases n<;>cases d<;>first|cases k;done|(cases e<;>rfl)
theorem iG{n:Nat}{d e:D}(k:kq e=none):dF n d e=none:=by
 cases n<;>cases e<;>first|cases k;done|(cases d<;>rfl)
theorem T7:∀(n:Nat) {d1 d2:D} {u:Value} {b:Bool},Is h d1 u->Is h d2 u->dF n d1 d2=some b->b=true:=by
 intro n;have rows:∀(n:Nat),(∀{d1 d2:D} {u:Value} {b:Bool},Is h d1 u->Is h d2 u->dF n d1 d2=some b->b=true)->∀{xs ys:List D} {is js:List Value} {b:Bool},jJ h xs is->jJ h ys js->is.toArray=js.toArray->dR (dF n) xs ys=some b->b=true:=by
  intro n ih xs ys is js b q1 q2 e hd;have e:is=js:=by simpa using e
  subst e;obtain⟨e,a1,a2⟩:=Ke (eq:=dF n) hd;rw[a2];have hl:_=_:=q1.len.trans q2.len.symm;rw[gG];refine⟨jo.mpr λj hj=>?_,by rw[hl];simp⟩;have hj:=uf.mp hj;obtain⟨x,hx⟩ : ∃x,_=some x:=⟨_,cZ (fV hj (Nat.min_le_left _ _))⟩;obtain⟨y,hy⟩ : ∃y,_=some y:=⟨_,cZ (fV hj (Nat.min_le_right _ _))⟩;obtain⟨v1,e1,p1⟩:=q1.get hx;obtain⟨v2,e2,p2⟩:=q2.get hy;rw[e1] at e2;cases e2;exact ih p1 p2 (a1 j x y hx hy)
 induction n with
 |zero=>
  intro d1 d2 u b r1 r2 hd;cases r1 with
  |oth k=>rw[jt k] at hd;cases hd
  |non=>cases r2 with
   |oth k=>rw[iG k] at hd;cases hd
   |non=>cases hd;rfl
  |bl x=>cases r2 with
   |oth k=>rw[iG k] at hd;cases hd
   |bl y=>cases hd;simp
  |int x t=>cases r2 with
   |oth k=>rw[iG k] at hd;cases hd
   |int y=>cases hd;simp
  |str x t=>cases r2 with
   |oth k=>rw[iG k] at hd;cases hd
   |str y=>cases hd;simp
  |tup p q=>cases r2 with
   |oth k=>rw[iG k] at hd;cases hd
   |tup p2 q2=>cases hd
   |fl p2 q2=>exact(wK p2 p).elim
  |fl p q=>cases r2 with
   |oth k=>rw[iG k] at hd;cases hd
   |fl p2 q2=>cases hd
   |tup p2 q2=>exact(wK p p2).elim
 |succ n ih=>
  intro d1 d2 u b r1 r2 hd;cases r1 with
  |oth k=>rw[jt k] at hd;cases hd
  |non=>cases r2 with
   |oth k=>rw[iG k] at hd;cases hd
   |non=>cases hd;rfl
  |bl x=>cases r2 with
   |oth k=>rw[iG k] at hd;cases hd
   |bl y=>cases hd;simp
  |int x t=>cases r2 with
   |oth k=>rw[iG k] at hd;cases hd
   |int y=>cases hd;simp
  |str x t=>cases r2 with
   |oth k=>rw[iG k] at hd;cases hd
   |str y=>cases hd;simp
  |tup p q=>cases r2 with
   |oth k=>rw[iG k] at hd;cases hd
   |tup p2 q2=>exact rows n ih q q2 (ZD p p2) hd
   |fl p2 q2=>exact(wK p2 p).elim
  |fl p q=>cases r2 with
   |oth k=>rw[iG k] at hd;cases hd
   |fl p2 q2=>exact rows n ih q q2 (ZF p p2) hd
   |tup p2 q2=>exact(wK p p2).elim
theorem parts{n:Nat}{A:Around}{xs ys:List D}{is js:List Value}{b:Bool}(r1:jJ s.heap xs is)(r2:jJ s.heap ys js)(hd:dR (dF n) xs ys=some b)
  (ih:∀{d1 d2:D} {u1 u2:Value} {b:Bool},Is s.heap d1 u1->Is s.heap d2 u2->dF n d1 d2=some b->SeqAt.EqAt A s u1 u2 b) :
  ∃e:Nat->Bool,(∀j (h1:j<is.toArray.size) (h2:j<js.toArray.size),SeqAt.EqAt A s is.toArray[j] js.toArray[j] (e j))/\b=((List.range (min is.toArray.size js.toArray.size)).all e&&is.toArray.size==js.toArray.size):=by
 obtain⟨e,a1,a2⟩:=Ke hd;have z1:=r1.len;have z2:=r2.len;refine⟨e,λj h1 h2=>?_,by simp only[fW,<-z1,<-z2];exact a2⟩;simp only[fW] at h1 h2;obtain⟨x,hx⟩ : ∃x,xs[j]?=some x:=⟨_,cZ (by rw[z1];exact h1)⟩;obtain⟨y,hy⟩ : ∃y,ys[j]?=some y:=⟨_,cZ (by rw[z2];exact h2)⟩;obtain⟨u,f1,g1⟩:=r1.get hx;obtain⟨u',f2,g2⟩:=r2.get hy;have k1:is.toArray[j]=u:=by
  have:=dW.mp f1;simpa using this.2
 have k2:js.toArray[j]=u':=by
  have:=dW.mp f2;simpa using this.2
 rw[k1,k2];exact ih g1 g2 (a1 j x y hx hy)
theorem ZG{A:Around}{l m:Addr}{is js:Array Value}{e:Nat->Bool}{b:Bool}(p1:s.heap.IsList l is)(p2:s.heap.IsList m js)(hu:A.units<cLine)(he:∀j (h1:j<is.size) (h2:j<js.size),SeqAt.EqAt A.in1 s is[j] js[j] (e j))(hb:b=((List.range (min is.size js.size)).all e&&is.size==js.size)):SeqAt.RcAt A s (.ref l) (.ref m) b:=by
 by_cases hz:is.size=js.size
 ·have:b=(List.range is.size).all e:=by rw[hb,hz];simp
  rw[this];exact SeqAt.RcAt.lists p1 p2 hz hu he
 ·have T8:(is.size != js.size)=true:=by simpa using hz
  have:b=false:=by rw[hb];simp[hz]
  rw[this];exact SeqAt.RcAt.lists_lengths p1 p2 T8 hu
theorem zfO{A:Around}{l m:Addr}{is js:Array Value}{e:Nat->Bool}{b:Bool}(p1:s.heap.IsList l is)(p2:s.heap.IsList m js)(hu:A.units<cLine)(he:∀j (h1:j<is.size) (h2:j<js.size),SeqAt.EqAt A.in1 s is[j] js[j] (e j))(hb:b=((List.range (min is.size js.size)).all e&&is.size==js.size)):SeqAt.RcNeAt A s (.ref l) (.ref m) (!b):=by
 by_cases hz:is.size=js.size
 ·have:b=(List.range is.size).all e:=by rw[hb,hz];simp
  rw[this];exact SeqAt.RcNeAt.lists p1 p2 hz hu he
 ·have T8:(is.size != js.size)=true:=by simpa using hz
  have:b=false:=by rw[hb];simp[hz]
  rw[this];exact SeqAt.RcNeAt.lists_lengths p1 p2 T8 hu
open SeqAt in
theorem Kf:∀(n:Nat) {A:Around} {d1 d2:D} {u1 u2:Value} {b:Bool},A.units+n<cLine->Is s.heap d1 u1->Is s.heap d2 u2->dF n d1 d2=some b->SeqAt.EqAt A s u1 u2 b:=by
 intro n
 induction n with
 |zero=>
  intro A d1 d2 u1 u2 b hu r1 r2 hd;have hu:A.units<cLine:=by lia
  cases r1 with
  |oth k=>rw[jt k] at hd;cases hd
  |non=>cases r2 with
   |oth k=>rw[iG k] at hd;cases hd
   |non=>cases hd;exact EqAt.same _
   |bl y=>cases hd;exact EqAt.none_bool _
   |int y t=>cases hd;exact EqAt.none_int _ _
   |str y t=>cases hd;exact EqAt.none_str _ _
   |tup p q=>cases hd;exact EqAt.none_tuple p hu
   |fl p q=>cases hd;exact EqAt.none_list p hu
  |bl x=>cases r2 with
   |oth k=>rw[iG k] at hd;cases hd
   |non=>cases hd;exact EqAt.bool_none _
   |bl y=>cases hd;exact EqAt.bool_bool _ _
   |int y t=>cases hd;exact EqAt.bool_int _ _ _
   |str y t=>cases hd;exact EqAt.bool_str _ _ _
   |tup p q=>cases hd;exact EqAt.bool_tuple _ p hu
   |fl p q=>cases hd;exact EqAt.bool_list _ p hu
  |int x t=>cases r2 with
   |oth k=>rw[iG k] at hd;cases hd
   |non=>cases hd;exact EqAt.int_none _ _
   |bl y=>cases hd;exact EqAt.int_bool _ _ _
   |int y t=>cases hd;exact EqAt.int_int _ _ _ _
   |str y t=>cases hd;exact EqAt.int_str _ _ _ _
   |tup p q=>cases hd;exact EqAt.int_tuple _ _ p hu
   |fl p q=>cases hd;exact EqAt.int_list _ _ p hu
  |str x t=>cases r2 with
   |oth k=>rw[iG k] at hd;cases hd
   |non=>cases hd;exact EqAt.str_none _ _
   |bl y=>cases hd;exact EqAt.str_bool _ _ _
   |int y t=>cases hd;exact EqAt.str_int _ _ _ _
   |str y t=>cases hd;exact EqAt.str_str _ _ _ _
   |tup p q=>cases hd;exact EqAt.str_tuple _ _ p hu
   |fl p q=>cases hd;exact EqAt.str_list _ _ p hu
  |tup p q=>cases r2 with
   |oth k=>rw[iG k] at hd;cases hd
   |non=>cases hd;exact EqAt.tuple_none p hu
   |bl y=>cases hd;exact EqAt.tuple_bool _ p hu
   |int y t=>cases hd;exact EqAt.tuple_int _ _ p hu
   |str y t=>cases hd;exact EqAt.tuple_str _ _ p hu
   |tup p2 q2=>cases hd
   |fl p2 q2=>cases hd;exact EqAt.tuple_list p p2 hu
  |fl p q=>cases r2 with
   |oth k=>rw[iG k] at hd;cases hd
   |non=>cases hd;exact EqAt.list_none p hu
   |bl y=>cases hd;exact EqAt.list_bool _ p hu
   |int y t=>cases hd;exact EqAt.list_int _ _ p hu
   |str y t=>cases hd;exact EqAt.list_str _ _ p hu
   |tup p2 q2=>cases hd;exact EqAt.list_tuple p p2 hu
   |fl p2 q2=>cases hd
 |succ n ih=>
  intro A d1 d2 u1 u2 b Kg r1 r2 hd;have hu:A.units<cLine:=by lia
  have eE:A.in1.units+n<cLine:=by show A.units+1+n<cLine;lia
  cases r1 with
  |oth k=>rw[jt k] at hd;cases hd
  |non=>cases r2 with
   |oth k=>rw[iG k] at hd;cases hd
   |non=>cases hd;exact EqAt.same _
   |bl y=>cases hd;exact EqAt.none_bool _
   |int y t=>cases hd;exact EqAt.none_int _ _
   |str y t=>cases hd;exact EqAt.none_str _ _
   |tup p q=>cases hd;exact EqAt.none_tuple p hu
   |fl p q=>cases hd;exact EqAt.none_list p hu
  |bl x=>cases r2 with
   |oth k=>rw[iG k] at hd;cases hd
   |non=>cases hd;exact EqAt.bool_none _
   |bl y=>cases hd;exact EqAt.bool_bool _ _
   |int y t=>cases hd;exact EqAt.bool_int _ _ _
   |str y t=>cases hd;exact EqAt.bool_str _ _ _
   |tup p q=>cases hd;exact EqAt.bool_tuple _ p hu
   |fl p q=>cases hd;exact EqAt.bool_list _ p hu
  |int x t=>cases r2 with
   |oth k=>rw[iG k] at hd;cases hd
   |non=>cases hd;exact EqAt.int_none _ _
   |bl y=>cases hd;exact EqAt.int_bool _ _ _
   |int y t=>cases hd;exact EqAt.int_int _ _ _ _
   |str y t=>cases hd;exact EqAt.int_str _ _ _ _
   |tup p q=>cases hd;exact EqAt.int_tuple _ _ p hu
   |fl p q=>cases hd;exact EqAt.int_list _ _ p hu
  |str x t=>cases r2 with
   |oth k=>rw[iG k] at hd;cases hd
   |non=>cases hd;exact EqAt.str_none _ _
   |bl y=>cases hd;exact EqAt.str_bool _ _ _
   |int y t=>cases hd;exact EqAt.str_int _ _ _ _
   |str y t=>cases hd;exact EqAt.str_str _ _ _ _
   |tup p q=>cases hd;exact EqAt.str_tuple _ _ p hu
   |fl p q=>cases hd;exact EqAt.str_list _ _ p hu
  |@tup a1 xs is p q=>cases r2 with
   |oth k=>rw[iG k] at hd;cases hd
   |non=>cases hd;exact EqAt.tuple_none p hu
   |bl y=>cases hd;exact EqAt.tuple_bool _ p hu
   |int y t=>cases hd;exact EqAt.tuple_int _ _ p hu
   |str y t=>cases hd;exact EqAt.tuple_str _ _ p hu
   |@tup a2 ys js p2 q2=>
    by_cases ea:a1=a2
    ·subst ea;have:=T7 (n+1) (.tup p q) (.tup p2 q2) hd;subst this;exact EqAt.same _
    ·obtain⟨e,he,hb⟩:=parts (A:=A.in1) q q2 hd λa b c=>ih eE a b c;rw[hb];exact EqAt.of_refs ea (RcAt.tuples p p2 hu he)
   |fl p2 q2=>cases hd;exact EqAt.tuple_list p p2 hu
  |@fl a1 xs is p q=>cases r2 with
   |oth k=>rw[iG k] at hd;cases hd
   |non=>cases hd;exact EqAt.list_none p hu
   |bl y=>cases hd;exact EqAt.list_bool _ p hu
   |int y t=>cases hd;exact EqAt.list_int _ _ p hu
   |str y t=>cases hd;exact EqAt.list_str _ _ p hu
   |tup p2 q2=>cases hd;exact EqAt.list_tuple p p2 hu
   |@fl a2 ys js p2 q2=>
    by_cases ea:a1=a2
    ·subst ea;have:=T7 (n+1) (.fl p q) (.fl p2 q2) hd;subst this;exact EqAt.same _
    ·obtain⟨e,he,hb⟩:=parts (A:=A.in1) q q2 hd λa b c=>ih eE a b c;exact EqAt.of_refs ea (ZG p p2 hu he hb)
end
section
variable {X:Cx}{cA:Cl}{ao:List (Addr×Obj)}{Z:L2.St}{H:Hp}{s:Shared}{U:Ph}{h:Heap}
open SeqAt in
theorem ZJ(Kg:A.units+(n+1)<cLine)(r1:Is s.heap d1 u1)(r2:Is s.heap d2 u2)(hd:dF (n+1) d1 d2=some b):RcAt A s u1 u2 b/\RcNeAt A s u1 u2 (!b):=by
 have hu:A.units<cLine:=by lia
 have eE:A.in1.units+n<cLine:=by show A.units+1+n<cLine;lia
 cases r1 with
 |oth k=>rw[jt k] at hd;cases hd
 |non=>cases r2 with
  |oth k=>rw[iG k] at hd;cases hd
  |non=>cases hd;exact⟨RcAt.none_none,RcNeAt.none_none⟩
  |bl y=>cases hd;exact⟨RcAt.none_bool _,RcNeAt.none_bool _⟩
  |int y t=>cases hd;exact⟨RcAt.none_int _ _,RcNeAt.none_int _ _⟩
  |str y t=>cases hd;exact⟨RcAt.none_str _ _,RcNeAt.none_str _ _⟩
  |tup p q=>cases hd;exact⟨RcAt.none_tuple p hu,RcNeAt.none_tuple p hu⟩
  |fl p q=>cases hd;exact⟨RcAt.none_list p hu,RcNeAt.none_list p hu⟩
 |bl x=>cases r2 with
  |oth k=>rw[iG k] at hd;cases hd
  |non=>cases hd;exact⟨RcAt.bool_none _,RcNeAt.bool_none _⟩
  |bl y=>cases hd;exact⟨RcAt.bool_bool _ _,RcNeAt.bool_bool _ _⟩
  |int y t=>cases hd;exact⟨RcAt.bool_int _ _ _,RcNeAt.bool_int _ _ _⟩
  |str y t=>cases hd;exact⟨RcAt.bool_str _ _ _,RcNeAt.bool_str _ _ _⟩
  |tup p q=>cases hd;exact⟨RcAt.bool_tuple _ p hu,RcNeAt.bool_tuple _ p hu⟩
  |fl p q=>cases hd;exact⟨RcAt.bool_list _ p hu,RcNeAt.bool_list _ p hu⟩
 |int x t=>cases r2 with
  |oth k=>rw[iG k] at hd;cases hd
  |non=>cases hd;exact⟨RcAt.int_none _ _,RcNeAt.int_none _ _⟩
  |bl y=>cases hd;exact⟨RcAt.int_bool _ _ _,RcNeAt.int_bool _ _ _⟩
  |int y t=>cases hd;exact⟨RcAt.int_int _ _ _ _,RcNeAt.int_int _ _ _ _⟩
  |str y t=>cases hd;exact⟨RcAt.int_str _ _ _ _,RcNeAt.int_str _ _ _ _⟩
  |tup p q=>cases hd;exact⟨RcAt.int_tuple _ _ p hu,RcNeAt.int_tuple _ _ p hu⟩
  |fl p q=>cases hd;exact⟨RcAt.int_list _ _ p hu,RcNeAt.int_list _ _ p hu⟩
 |str x t=>cases r2 with
  |oth k=>rw[iG k] at hd;cases hd
  |non=>cases hd;exact⟨RcAt.str_none _ _,RcNeAt.str_none _ _⟩
  |bl y=>cases hd;exact⟨RcAt.str_bool _ _ _,RcNeAt.str_bool _ _ _⟩
  |int y t=>cases hd;exact⟨RcAt.str_int _ _ _ _,RcNeAt.str_int _ _ _ _⟩
  |str y t=>cases hd;exact⟨RcAt.str_str _ _ _ _,RcNeAt.str_str _ _ _ _⟩
  |tup p q=>cases hd;exact⟨RcAt.str_tuple _ _ p hu,RcNeAt.str_tuple _ _ p hu⟩
  |fl p q=>cases hd;exact⟨RcAt.str_list _ _ p hu,RcNeAt.str_list _ _ p hu⟩
 |@tup a1 xs is p q=>cases r2 with
  |oth k=>rw[iG k] at hd;cases hd
  |non=>cases hd;exact⟨RcAt.tuple_none p hu,RcNeAt.tuple_none p hu⟩
  |bl y=>cases hd;exact⟨RcAt.tuple_bool _ p hu,RcNeAt.tuple_bool _ p hu⟩
  |int y t=>cases hd;exact⟨RcAt.tuple_int _ _ p hu,RcNeAt.tuple_int _ _ p hu⟩
  |str y t=>cases hd;exact⟨RcAt.tuple_str _ _ p hu,RcNeAt.tuple_str _ _ p hu⟩
  |@tup a2 ys js p2 q2=>
   obtain⟨e,he,hb⟩:=parts (A:=A.in1) q q2 hd λa b c=>Kf n eE a b c;rw[hb];exact⟨RcAt.tuples p p2 hu he,RcNeAt.tuples p p2 hu he⟩
  |fl p2 q2=>cases hd;exact⟨RcAt.tuple_list p p2 hu,RcNeAt.tuple_list p p2 hu⟩
 |@fl a1 xs is p q=>cases r2 with
  |oth k=>rw[iG k] at hd;cases hd
  |non=>cases hd;exact⟨RcAt.list_none p hu,RcNeAt.list_none p hu⟩
  |bl y=>cases hd;exact⟨RcAt.list_bool _ p hu,RcNeAt.list_bool _ p hu⟩
  |int y t=>cases hd;exact⟨RcAt.list_int _ _ p hu,RcNeAt.list_int _ _ p hu⟩
  |str y t=>cases hd;exact⟨RcAt.list_str _ _ p hu,RcNeAt.list_str _ _ p hu⟩
  |tup p2 q2=>cases hd;exact⟨RcAt.list_tuple p p2 hu,RcNeAt.list_tuple p p2 hu⟩
  |@fl a2 ys js p2 q2=>
   obtain⟨e,he,hb⟩:=parts (A:=A.in1) q q2 hd λa b c=>Kf n eE a b c;exact⟨ZG p p2 hu he hb,zfO p p2 hu he hb⟩
noncomputable def yG(K:W.Frag)(cA:Cl)(f:Bool->Bool):R2:=λx y H Q=>∃U d1 d2 b,Rv K cA U H d1 x/\Rv K cA U H d2 y/\dF 50 d1 d2=some b/\Q (.bl (f b)) H
theorem zlv(hu:X.A.units+60<cLine):fL X (compareOp .Eq) (yG X.K cA id):=by
 intro ao s Z H x y v u Q I rx ry ⟨U,d1,d2,b,r1,r2,hd,q⟩;exact(ZJ (n:=49) gV (Gi I r1 rx) (Gi I r2 ry) hd).1 X.prog X.w X.xe _ ⟨.bl b,H,I,rfl,q⟩
theorem zlw(hu:X.A.units+60<cLine):fL X (compareOp .NotEq) (yG X.K cA not):=by
 intro ao s Z H x y v u Q I rx ry ⟨U,d1,d2,b,r1,r2,hd,q⟩;exact(ZJ (n:=49) gV (Gi I r1 rx) (Gi I r2 ry) hd).2 X.prog X.w X.xe _ ⟨.bl (!b),H,I,rfl,q⟩
theorem zi9:∀(n:Nat) {d d' x:D} {u:Value} {b b':Bool},Is h d u->Is h d' u->dF n d x=some b->dF n d' x=some b'->b=b':=by
 intro n;have flat:∀{d d' x:D} {u:Value} {b b':Bool},Is h d u->Is h d' u->(∀xs xs',d=.tup xs->d'=.tup xs'->False)->(∀xs xs',d=.fl xs->d'=.fl xs'->False)->dF n d x=some b->dF n d' x=some b'->b=b':=by
  intro d d' x u b b' r1 r2 n1 n2 h1 h2;cases r1 with
  |oth k=>rw[jt k] at h1;cases h1
  |non=>cases r2 with
   |oth k=>rw[jt k] at h2;cases h2
   |non=>rw[h1] at h2;exact cI h2
  |bl y=>cases r2 with
   |oth k=>rw[jt k] at h2;cases h2
   |bl=>rw[h1] at h2;exact cI h2
  |int y=>cases r2 with
   |oth k=>rw[jt k] at h2;cases h2
   |int=>rw[h1] at h2;exact cI h2
  |str y=>cases r2 with
   |oth k=>rw[jt k] at h2;cases h2
   |str=>rw[h1] at h2;exact cI h2
  |tup p q=>cases r2 with
   |oth k=>rw[jt k] at h2;cases h2
   |tup=>exact(n1 _ _ rfl rfl).elim
   |fl p2 q2=>exact(wK p2 p).elim
  |fl p q=>cases r2 with
   |oth k=>rw[jt k] at h2;cases h2
   |fl=>exact(n2 _ _ rfl rfl).elim
   |tup p2 q2=>exact(wK p p2).elim
 have tn:∀{n:Nat} {xs xs':List D} {x:D},(∀ys,x=.tup ys->False)->dF n (.tup xs) x=dF n (.tup xs') x:=λ{n xs xs' x} hx=>by
  cases n<;>cases x<;>first|rfl|exact(hx _ rfl).elim
 have ln:∀{n:Nat} {xs xs':List D} {x:D},(∀ys,x=.fl ys->False)->dF n (.fl xs) x=dF n (.fl xs') x:=λ{n xs xs' x} hx=>by
  cases n<;>cases x<;>first|rfl|exact(hx _ rfl).elim
 clear flat
 induction n with
 |zero=>
  intro d d' x u b b' r1 r2 h1 h2;cases r1 with
  |oth k=>rw[jt k] at h1;cases h1
  |non=>cases r2 with
   |oth k=>rw[jt k] at h2;cases h2
   |non=>rw[h1] at h2;exact cI h2
  |bl y=>cases r2 with
   |oth k=>rw[jt k] at h2;cases h2
   |bl=>rw[h1] at h2;exact cI h2
  |int y=>cases r2 with
   |oth k=>rw[jt k] at h2;cases h2
   |int=>rw[h1] at h2;exact cI h2
  |str y=>cases r2 with
   |oth k=>rw[jt k] at h2;cases h2
   |str=>rw[h1] at h2;exact cI h2
  |tup p q=>cases r2 with
   |oth k=>rw[jt k] at h2;cases h2
   |tup p2 q2=>
    cases x with
    |tup ys=>cases h1
    |_=>rw[tn (by intro ys z;cases z),h2] at h1;exact(cI h1).symm
   |fl p2 q2=>exact(wK p2 p).elim
  |fl p q=>cases r2 with
   |oth k=>rw[jt k] at h2;cases h2
   |fl p2 q2=>
    cases x with
    |fl ys=>cases h1
    |_=>rw[ln (by intro ys z;cases z),h2] at h1;exact(cI h1).symm
   |tup p2 q2=>exact(wK p p2).elim
 |succ n ih=>
  intro d d' x u b b' r1 r2 h1 h2;have rows:∀{xs xs' ys:List D} {is js:List Value} {b b':Bool},jJ h xs is->jJ h xs' js->is.toArray=js.toArray->dR (dF n) xs ys=some b->dR (dF n) xs' ys=some b'->b=b':=by
   intro xs xs' ys is js b b' q1 q2 e h1 h2;have e:is=js:=by simpa using e
   subst e;obtain⟨e1,a1,b1⟩:=Ke h1;obtain⟨e2,a2,b2⟩:=Ke h2;have hl:xs.length=xs'.length:=q1.len.trans q2.len.symm;rw[b1,b2,hl]
   congr 1
   rw[Bool.eq_iff_iff,jo,jo];have key:∀j∈List.range (min xs'.length ys.length),e1 j=e2 j:=λj hj=>by
    have hj:=uf.mp hj;obtain⟨x1,ZK⟩ : ∃x,xs[j]?=some x:=⟨_,cZ (by rw[hl];exact fV hj (Nat.min_le_left _ _))⟩;obtain⟨x2,N_⟩ : ∃x,xs'[j]?=some x:=⟨_,cZ (fV hj (Nat.min_le_left _ _))⟩;obtain⟨y,hy⟩ : ∃y,ys[j]?=some y:=⟨_,cZ (fV hj (Nat.min_le_right _ _))⟩;obtain⟨v1,f1,p1⟩:=q1.get ZK;obtain⟨v2,f2,p2⟩:=q2.get N_;rw[f1] at f2;cases f2;exact ih p1 p2 (a1 j x1 y ZK hy) (a2 j x2 y N_ hy)
   exact⟨λz j hj=>by rw[<-key j hj];exact z j hj,λz j hj=>by rw[key j hj];exact z j hj⟩
  cases r1 with
  |oth k=>rw[jt k] at h1;cases h1
  |non=>cases r2 with
   |oth k=>rw[jt k] at h2;cases h2
   |non=>rw[h1] at h2;exact cI h2
  |bl y=>cases r2 with
   |oth k=>rw[jt k] at h2;cases h2
   |bl=>rw[h1] at h2;exact cI h2
  |int y=>cases r2 with
   |oth k=>rw[jt k] at h2;cases h2
   |int=>rw[h1] at h2;exact cI h2
  |str y=>cases r2 with
   |oth k=>rw[jt k] at h2;cases h2
   |str=>rw[h1] at h2;exact cI h2
  |tup p q=>cases r2 with
   |oth k=>rw[jt k] at h2;cases h2
   |tup p2 q2=>
    cases x with
    |tup ys=>exact rows q q2 (ZD p p2) h1 h2
    |_=>rw[tn (by intro ys z;cases z),h2] at h1;exact(cI h1).symm
   |fl p2 q2=>exact(wK p2 p).elim
  |fl p q=>cases r2 with
   |oth k=>rw[jt k] at h2;cases h2
   |fl p2 q2=>
    cases x with
    |fl ys=>exact rows q q2 (ZF p p2) h1 h2
    |_=>rw[ln (by intro ys z;cases z),h2] at h1;exact(cI h1).symm
   |tup p2 q2=>exact(wK p p2).elim
theorem ZL:∀{xs:List D} {b:Bool},memD x xs=some b->∀d∈xs,∃k,dF 50 d x=some k
 |[],_,_,d,hd=>by cases hd
 |y::xs,b,h,d,hd=>by
  unfold memD at h;cases e1:dF 50 y x with
  |none=>simp only[e1] at h;cases h
  |some a=>
   cases e2:memD x xs with
   |none=>simp only[e1,e2] at h;cases h
   |some c=>
    rcases jA.mp hd with rfl|hd
    ·exact⟨a,e1⟩
    ·exact ZL e2 d hd
theorem ZM:∀{xs:List D} {us:List Value} {b:Bool},memD x xs=some b->jJ h xs us->∃e:Value->Bool,(∀u∈us,∃d,Is h d u/\dF 50 d x=some (e u))/\us.any e=b:=by
 intro xs us b hm r;have ex:∀u∈us,∃d k,Is h d u/\dF 50 d x=some k:=by
  intro u hu;obtain⟨i,hi,e⟩:=zx hu;have hl:=r.len;obtain⟨d,hd⟩ : ∃d,xs[i]?=some d:=⟨_,cZ gV⟩;obtain⟨u',e1,q⟩:=r.get hd;rw[cZ hi,e] at e1;cases e1;obtain⟨k,hk⟩:=ZL hm d (eG hd);exact⟨d,k,q,hk⟩
 refine⟨λu=>by classical exact if z:∃k,∃d,Is h d u/\dF 50 d x=some k then z.choose else false,λu hu=>?_,?_⟩
 ·obtain⟨d,k,q,hk⟩:=ex u hu;have z:∃k,∃d,Is h d u/\dF 50 d x=some k:=⟨k,d,q,hk⟩;dsimp only;rw[dif_pos z];exact z.choose_spec
 ·clear ex;have key:∀(xs:List D) (us:List Value) (b:Bool),memD x xs=some b->jJ h xs us->us.any (λu=>by classical exact if z:∃k,∃d,Is h d u/\dF 50 d x=some k then z.choose else false)=b:=by
   intro xs
   induction xs with
   |nil=>intro us b hm r;cases r;cases hm;rfl
   |cons d ds ih=>
    intro us b hm r;cases r with
    |@cons _ u _ us a r=>
     unfold memD at hm;cases e1:dF 50 d x with
     |none=>simp only[e1] at hm;cases hm
     |some k=>
      cases e2:memD x ds with
      |none=>simp only[e1,e2] at hm;cases hm
      |some c=>
       simp only[e1,e2] at hm;cases hm;rw[List.any_cons];have z:∃k,∃d,Is h d u/\dF 50 d x=some k:=⟨k,d,a,e1⟩;have hk:z.choose=k:=by
        obtain⟨d',q,xW⟩:=z.choose_spec;exact zi9 50 q a xW e1
       rw[dif_pos z,hk,ih us c e2 r]
  exact key xs us b hm r
noncomputable def Kh(K:W.Frag)(cA:Cl)(f:Bool->Bool):R2:=λx y H Q=>∃U d1 d2 xs b,Rv K cA U H d1 x/\Rv K cA U H d2 y/\mW d2=some xs/\memD d1 xs=some b/\Q (.bl (f b)) H
theorem zla(hu:X.A.units+60<cLine):fL X (compareOp .In) (Kh X.K cA id):=by
 intro ao s Z H x y v u Q I rx ry ⟨U,d1,d2,xs,b,r1,r2,hq,hm,q⟩;have eE:X.A.in1.units+50<cLine:=by show X.A.units+1+50<cLine;lia
 have i1:=Gi I r1 rx;cases Gi I r2 ry with
 |tup p r=>
  cases hq;obtain⟨e,he,hb⟩:=ZM hm r;refine SeqAt.in_tupleAt e p (λw hw=>?_) ⟨.bl b,H,I,by rw[<-hb];simp[L2.RelV],q⟩;obtain⟨d,q1,q2⟩:=he w (by simpa using hw);exact Kf 50 eE q1 i1 q2
 |fl p r=>
  cases hq;obtain⟨e,he,hb⟩:=ZM hm r;refine SeqAt.in_listAt e p (λw hw=>?_) ⟨.bl b,H,I,by rw[<-hb];simp[L2.RelV],q⟩;obtain⟨d,q1,q2⟩:=he w (by simpa using hw);exact Kf 50 eE q1 i1 q2
 |oth k=>cases d2<;>cases hq<;>cases k
 |_=>cases hq
end
end Mi
namespace HT
open PySem PyProof.Rows
section
variable {prog:Program}{w:World}{A:Around}{E:Value->Shared->Prop}{s:Shared}
theorem uY{t b:Addr}{vs ws:List Value}{Q:Value->Shared->Prop}(ht:IsTup s.heap t vs.toArray)(hb:IsTup s.heap b ws.toArray)(hv:vs=[])
  (h1:Q (.ref b) s):wpAny (model prog w) A (binaryOp .Add (.ref t) (.ref b)) Q E s:=by
 obtain⟨⟨cls,dd,data,sl⟩,ho,hc,n,hd⟩:=id ht;obtain⟨⟨cls2,dd2,data2,sl2⟩,p7,nu,n2,hd2⟩:=id hb;simp only at hc hd nu hd2;subst hc hd nu hd2;exact concat_meets ⟨_,ho,rfl⟩ ⟨_,p7,rfl⟩ noFill_tuple_add seq_tuple_add QG QD (Qz _ _)
   (tuple_addW0 t b vs.toArray ws.toArray n n2 dd dd2 sl sl2 (by simp[hv])) ⟨ho,p7,h1⟩
theorem gP{t sl:Addr}{items:Array Value}{vl vu:Value}{lo hi:Option Int}{Q:Value->Shared->Prop}(ht:IsTup s.heap t items)(hs:s.heap.IsSliceOf sl vl vu .none)(pl:IsPart vl lo)(pu:IsPart vu hi)
  (hw:bW items.size 0 lo=0/\bW items.size items.size hi=items.size) (h:Q (.ref t) s):wpAny (model prog w) A (getItem (.ref t) (.ref sl)) Q E s:=by
 obtain⟨os,Cg,N6,Jj⟩:=id hs;have RZ:s.TypeIs (.ref sl) "slice":=⟨os,Cg,N6⟩;unfold getItem
 try with_reducible refine pQ ?_
 first|refine aB (aP ?_)|skip
 refine aB (wpAny_sequenceKey ht.typeIs Tc ?_);refine aB (Az (name:=Str.ofString "__getitem__") ht.typeIs Em
  (zA Em ht.typeIs entry_tuple_getitem ?_ (args_tuple_getitem _ _)))
 show wpAny _ _ (Builtin.Tuple.tupleItemsOf (.ref t) >>= _) _ _ s;refine aB (tupleItemsOf_ ht ?_);refine aB (wpAny_typeOf RZ ?_);rw[if_pos Tc];refine aB (YQ hs pl pu ?_);have T9:(((bW items.size 0 lo:Nat):Int)==0&&(1:Int)==1&&(bW items.size items.size hi-bW items.size 0 lo)==items.size)=true:=by
  rw[hw.1,hw.2];simp
 show wpAny _ _ (if (((bW items.size 0 lo:Nat):Int)==0&&(1:Int)==1&&(bW items.size items.size hi-bW items.size 0 lo)==items.size)=true then _ else _) _ _ s;rw[if_pos T9];refine aB ?_;unfold Builtin.Tuple.tupleIsExact;refine aB (wpAny_typeOf ht.typeIs ?_);refine aP ?_;rw[if_pos Tc];refine aB (zJ ?_);exact aP ⟨_,rfl,aP h⟩
end
end HT
namespace L2
open PySem PySem.Spec PyProof.Rows
section
variable {X:Cx}{e:Expr}{te:TE}{pos p2:Pos}
noncomputable def uZ(K:W.Frag):R2:=λx y H Q=>∃a b xs ys,x=.ref a/\y=.ref b/\gR K H a xs/\gR K H b ys/\xs.length+ys.length<=sizeLine /\
 (xs=[]->Q (.ref b) H)/\(ys=[]->Q (.ref a) H)/\∀p,H p=none->Q (.ref p) (upd H p (.tup (xs++ys)))
theorem u5:fL X (binaryOp .Add) (uZ X.K):=by
 intro ao s Z H x y v u Q I rx ry h;obtain⟨a,b,xs,ys,rfl,rfl,ha,hb,hz,q0,q1,q2⟩:=h;cases rx;cases ry;obtain⟨its,r1,p1,_⟩:=I.tuple ha;obtain⟨its2,r2,p2,_⟩:=I.tuple hb;by_cases hx:xs=[]
 ·exact HT.uY p1 p2 (r1.mQ.mpr hx) ⟨.ref b,H,I,rfl,q0 hx⟩
 ·refine HT.yg p1 p2 (λz=>hx (r1.mQ.mp z)) (λz=>⟨.ref a,H,I,rfl,q1 (r2.mQ.mp z)⟩) (λz=>?_) (by rw[<-r1.length,<-r2.length];exact hz);refine⟨.ref s.heap.objs.size,_,I.laid (t':=s.toks) (o:=.tup (xs++ys)) (λb ob q=>cj _ q) (bQ _) ?_,rfl,q2 _ (I.hok.fresh (bQ _))⟩;exact⟨by rw[mj];exact hz,_,r1.append r2,IsTup.new _ _⟩
noncomputable def Ac(K:W.Frag):V->Option Int->Option Int->Hp->VK->Prop:=λx lo hi H Q=>∃a xs,x=.ref a/\gR K H a xs /\
 ((HT.bW xs.length 0 lo=0/\HT.bW xs.length xs.length hi=xs.length)->Q (.ref a) H)/\∀p,H p=none->Q (.ref p) (upd H p (.tup (mO xs lo hi)))
theorem zkr:yp X (Ac X.K):=by
 intro ao s Z H x v vl vu lo hi sl Q I rx hs pl pu h;obtain⟨a,xs,rfl,hx,hw,q⟩:=h;by_cases hz:HT.bW xs.length 0 lo=0/\HT.bW xs.length xs.length hi=xs.length
 ·cases rx;obtain⟨its,r,ht,_⟩:=I.tuple hx;have hlen:its.toArray.size=xs.length:=by rw[fW];exact r.length.symm
  refine⟨"tuple",_,Em.lookup,ht.typeIs,?_⟩;exact HT.gP ht hs pl pu (by rw[hlen];exact hz) ⟨.ref a,H,I,rfl,hw hz⟩
 ·exact zlF ao s Z H (.ref a) v vl vu lo hi sl Q I rx hs pl pu ⟨a,xs,rfl,hx,hz,q⟩
end
section
variable {X:Cx}
noncomputable def Ad(K:W.Frag):R2:=λx y H Q=>∃l b xs zs,x=.ref l/\y=.ref b/\cV K H l xs/\cV K H b zs/\xs.length+zs.length<=sizeLine/\∀p,H p=none->Q (.ref p) (upd H p (.lst (xs++zs)))
theorem yH:fL X (binaryOp .Add) (Ad X.K):=by
 intro ao s Z H x y v u Q I rx ry h;obtain⟨l,b,xs,zs,rfl,rfl,hH,hB,hz,q⟩:=h;cases rx;cases ry;obtain⟨its,r,pl,_⟩:=I.list hH;obtain⟨its2,r2,pl2,_⟩:=I.list hB;obtain⟨⟨cls,dd,data,sl⟩,ho,hc,n,hd⟩:=pl.isList;obtain⟨⟨cls2,dd2,data2,sl2⟩,p7,nu,n2,hd2⟩:=pl2.isList;simp only at hc hd nu hd2;subst hc hd nu hd2;refine concat_meets ⟨_,ho,rfl⟩ ⟨_,p7,rfl⟩ noFill_list_add seq_list_add PySem.F.slot_list_add PySem.F.entry_list_add (PySem.F.args_list_add_2 _ _) (list_addW l b its.toArray its2.toArray n n2 dd dd2 sl sl2 (by rw[fW,fW,<-r.length,<-r2.length];exact hz)) ⟨ho,p7,?_⟩;have ea:its.toArray++its2.toArray=(its++its2).toArray:=by simp
 rw[ea];exact⟨.ref _,_,I.R6 (t':=s.toks) (r.append r2) (by rw[mj];omega),rfl,q _ I.fresh⟩
noncomputable def rF(K:W.Frag):R2:=λx y H Q=>pX (λi j=>.int (i+j)) x y H Q\/Ad K x y H Q\/uZ K x y H Q\/∃i j,x=.str i/\y=.str j/\i.length+j.length<=sizeLine/\Q (.str (i++j)) H
theorem zfM:fL X (binaryOp .Add) (rF X.K):=B_.or (yH.or (u5.or ze9))
end
end L2
namespace Mi
open PySem PySem.Spec PyProof.Rows L2
section
variable {K:W.Frag}{cA:Cl}{U:Ph}{H:Hp}{Q:VK}{p:Pr}
theorem bL.some'{o:Option Rz}(h:bL K cA U H o Q):∃z,o=some z:=by
 cases o with
 |none=>exact h.elim
 |some z=>exact⟨z,rfl⟩
theorem bL.of{o:Option Rz}{z:Rz}(h:bL K cA U H o Q)(e:o=some z):bL K cA U H (some z) Q:=e▸h
theorem bL.here{d:D}{v:V}(h:bL K cA U H (some (.dat d)) Q)(r:Rep K cA U H d v):Q v H:=h H v bC.refl r
theorem bL.tup{xs:List D}{vs:List V}{a:Addr}(h:bL K cA U H (some (.dat (.tup xs))) Q)(z:Zt U H)(r:aC K cA U H xs vs)(hp:H a=none):Q (.ref a) (upd H a (.tup vs)):=
 h _ _ (bC.new hp) (.tup (TupAt.new (z.nz hp)) (r.mono (bC.new hp).ext z.lz))
theorem yE.two{ds:List D}{vs:List V}{d d':D}(h:yE K cA U H [d,d'] vs):∃v v',vs=[v,v']/\Rv K cA U H d v/\Rv K cA U H d' v':=by
 cases h with
 |cons a r=>cases r with
  |cons b r=>cases r;exact⟨_,_,rfl,a,b⟩
theorem yE.one(h:yE K cA U H [d] vs):∃v,vs=[v]/\Rv K cA U H d v:=by
 cases h with
 |cons a r=>cases r;exact⟨_,rfl,a⟩
theorem Rv.int{i:Int}{v:V}(h:Rv K cA U H (.int i) v):v=.int i:=by cases (show Rep K cA U H (.int i) v from h);rfl
theorem Rv.bl{i:Bool}{v:V}(h:Rv K cA U H (.bl i) v):v=.bl i:=by cases (show Rep K cA U H (.bl i) v from h);rfl
theorem Rv.str{i:Str}{v:V}(h:Rv K cA U H (.str i) v):v=.str i:=by cases (show Rep K cA U H (.str i) v from h);rfl
theorem Rv.tup{xs:List D}{v:V}(h:Rv K cA U H (.tup xs) v):∃a vs,v=.ref a/\TupAt K U H a vs/\aC K cA U H xs vs:=by
 cases (show Rep K cA U H (.tup xs) v from h) with
 |tup a r=>exact⟨_,_,rfl,a,r⟩
theorem Rv.sq{d:D}{xs:List D}{v:V}(h:Rv K cA U H d v)(e:mW d=some xs):∃a vs,v=.ref a/\(cV K H a vs\/gR K H a vs)/\aC K cA U H xs vs:=by
 cases d with
 |tup ys=>
  cases e;obtain⟨a,vs,e,t,r⟩:=Rv.tup h;exact⟨a,vs,e,.inr t.jH,r⟩
 |fl ys=>
  cases e;obtain⟨a,vs,e,l,r⟩:=h;exact⟨a,vs,e,.inl l,r⟩
 |_=>cases e
theorem ZP{f:Int->Int->Option D}{ds:List D}{z:Rz}(h:c7 f ds=some z):∃i j d,ds=[.int i,.int j]/\f i j=some d/\z=.dat d:=by
 cases ds with
 |nil=>cases h
 |cons a t=>
 cases a with
 |int i=>
  cases t with
  |nil=>cases h
  |cons b t=>
  cases b with
  |int j=>
   cases t with
   |cons _ _=>cases h
   |nil=>
    obtain⟨d,e1,e2⟩:=lu.mp h;exact⟨_,_,d,rfl,e1,e2.symm⟩
  |_=>cases h
 |_=>cases h
theorem Kl{f:Int->Int->Option D}(hp:prim p=c7 f){C:Int->Int->Prop}{g:Int->Int->V}(hf:∀i j d,f i j=some d->C i j/\∀U H,Rep K cA U H d (g i j)):bG K cA p (r2 (rI C g)):=by
 intro U H ds vs Q zt rs o;rw[hp] at o;obtain⟨z,e⟩:=o.some';obtain⟨i,j,d,rfl,e1,rfl⟩:=ZP e;obtain⟨c,r⟩:=hf i j d e1;obtain⟨v,v',rfl,r1,r2⟩:=rs.two (ds:=[]);rw[r1.int,r2.int];exact⟨_,_,rfl,i,j,rfl,rfl,c,(o.of e).here (r U H)⟩
theorem Gj{f:Int->Int->D}(hp:prim p=c7 λi j=>some (f i j)){g:Int->Int->V}(hf:∀i j U H,Rep K cA U H (f i j) (g i j)):bG K cA p (r2 (pX g)):=by
 intro U H ds vs Q zt rs o;obtain⟨x,y,e,i,j,a,b,_,q⟩:=Kl (K:=K) (cA:=cA) (C:=λ_ _=>True) hp (λi j d e=>⟨trivial,λU H=>by cases e;exact hf i j U H⟩) U H ds vs Q zt rs o;exact⟨x,y,e,i,j,a,b,q⟩
theorem Km{α:Type}{c:Prop}[Decidable c]{x y:α}(h:(if c then some x else none)=some y):c/\y=x:=by
 split at h
 ·rename_i z;cases h;exact⟨z,rfl⟩
 ·cases h
theorem zl8:bG K cA .aq (r2 (pX λi j=>.int (i-j))):=Gj (f:=λi j=>.int (i-j)) rfl λi j _ _=>.int _
theorem zlN:bG K cA .mul (r2 (rI yc λi j=>.int (i*j))):=Kl rfl λi j d e=>by obtain⟨c,rfl⟩:=Km e;exact⟨c,λ_ _=>.int _⟩
theorem ziQ:bG K cA .fdiv (r2 (rI xZ λi j=>.int (i/j))):=Kl rfl λi j d e=>by obtain⟨c,rfl⟩:=Km e;exact⟨c,λ_ _=>.int _⟩
theorem zlO:bG K cA .mod (r2 (rI (λ_ j=>0<j) λi j=>.int (i%j))):=Kl rfl λi j d e=>by obtain⟨c,rfl⟩:=Km e;exact⟨c,λ_ _=>.int _⟩
theorem zkV:bG K cA .pow (r2 (rI I8 λi j=>.int (i^j.toNat))):=Kl rfl λi j d e=>by obtain⟨c,rfl⟩:=Km e;exact⟨c,λ_ _=>.int _⟩
theorem zn0:bG K cA .le (r2 (pX λi j=>.bl (decide (i<=j)))):=Gj (f:=λi j=>.bl (decide (i<=j))) rfl λi j _ _=>.bl _
theorem znN:bG K cA .gt (r2 (pX λi j=>.bl (decide (j<i)))):=Gj (f:=λi j=>.bl (decide (j<i))) rfl λi j _ _=>.bl _
theorem zmW:bG K cA .ge (r2 (pX λi j=>.bl (decide (j<=i)))):=Gj (f:=λi j=>.bl (decide (j<=i))) rfl λi j _ _=>.bl _
theorem zkO:bG K cA .neg (λvs H Q=>∃x,vs=[x]/\rU (λi=>.int (-i)) x H Q):=by
 intro U H ds vs Q zt rs o;obtain⟨z,e⟩:=o.some';have e:rA (λi=>.int (-i)) ds=some z:=e;cases ds with
 |nil=>cases e
 |cons a t=>
 cases a with
 |int i=>
  cases t with
  |cons _ _=>cases e
  |nil=>
   cases e;obtain⟨v,rfl,r1⟩:=rs.one;exact⟨_,rfl,_,r1.int,bL.here (o.of rfl) (.int _)⟩
 |_=>cases e
theorem zm2:bG K cA .eq (r2 (yG K cA id)):=by
 intro U H ds vs Q zt rs o;obtain⟨z,e⟩:=o.some';have e:CT id ds=some z:=e;unfold CT at e;split at e
 ·obtain⟨b,e1,e2⟩:=lu.mp e;obtain⟨v,v',rfl,r1,r2⟩:=rs.two (ds:=[]);subst e2;exact⟨_,_,rfl,U,_,_,b,r1,r2,e1,(o.of e).here (.bl _)⟩
 ·cases e
theorem znP:bG K cA .ne (r2 (yG K cA not)):=by
 intro U H ds vs Q zt rs o;obtain⟨z,e⟩:=o.some';have e:CT not ds=some z:=e;unfold CT at e;split at e
 ·obtain⟨b,e1,e2⟩:=lu.mp e;obtain⟨v,v',rfl,r1,r2⟩:=rs.two (ds:=[]);subst e2;exact⟨_,_,rfl,U,_,_,b,r1,r2,e1,(o.of e).here (.bl _)⟩
 ·cases e
theorem ziJ{f:Bool->Bool}{ds:List D}{z:Rz}(h:Gg f ds=some z):∃a b xs k,ds=[a,b]/\mW b=some xs/\memD a xs=some k/\z=.dat (.bl (f k)):=by
 unfold Gg at h;split at h
 ·obtain⟨k,e1,e2⟩:=lu.mp h;obtain⟨xs,e3,e4⟩:=zm.mp e1;exact⟨_,_,xs,k,rfl,e3,e4,e2.symm⟩
 ·cases h
theorem znR:bG K cA .inn (r2 (Kh K cA id)):=by
 intro U H ds vs Q zt rs o;obtain⟨z,e⟩:=o.some';obtain⟨a,b,xs,k,rfl,e1,e2,rfl⟩:=ziJ (show Gg id ds=some z from e);obtain⟨v,v',rfl,r1,r2⟩:=rs.two (ds:=[]);exact⟨_,_,rfl,U,_,_,xs,k,r1,r2,e1,e2,(o.of e).here (.bl _)⟩
theorem Oq:∀{xs:List D} {ns:List Int} {vs:List V},cC xs=some ns->aC K cA U H xs vs->vs=ns.map V.int
 |[],ns,vs,h,r=>by cases h;cases r;rfl
 |d::xs,ns,vs,h,r=>by
  cases d with
  |int i=>
   simp only[cC,lu] at h;obtain⟨ns',h1,rfl⟩:=h;cases r with
   |cons a r=>cases a;rw[Oq h1 r];rfl
  |_=>simp[cC] at h
theorem T_:∀(a b:List Int),ltI a b=HT.lexLt a b
 |_,[]=>by cases ‹List Int›<;>rfl
 |[],_::_=>rfl
 |x::xs,y::ys=>by
  unfold ltI;rw[T_ xs ys,HT.j8]
theorem zm5:bG K cA .lt (r2 λx y H Q=>pX (λi j=>.bl (decide (i<j))) x y H Q\/Jl K x y H Q):=by
 intro U H ds vs Q zt rs o;obtain⟨z,e⟩:=o.some';have e:J0 ds=some z:=e;unfold J0 at e;split at e
 ·cases e;obtain⟨v,v',rfl,r1,r2⟩:=rs.two (ds:=[]);exact⟨_,_,rfl,.inl ⟨_,_,r1.int,r2.int,bL.here (o.of rfl) (.bl _)⟩⟩
 ·split at e
  ·rename_i a b h1 h2;cases e;obtain⟨v,v',rfl,r1,r2⟩:=rs.two (ds:=[]);obtain⟨p,us,rfl,t1,q1⟩:=r1.tup;obtain⟨p',us',rfl,t2,q2⟩:=r2.tup;have o2:bL K cA U H (some (.dat (.bl (ltI a b)))) Q:=by
    have o3:bL K cA U H (J0 [.tup _,.tup _]) Q:=o;unfold J0 at o3;simp only[h1,h2] at o3;exact o3
   refine⟨_,_,rfl,.inr ⟨p,p',a,b,rfl,rfl,by rw[<-Oq h1 q1];exact t1.jH,by rw[<-Oq h2 q2];exact t2.jH,?_⟩⟩;rw[<-T_];exact o2.here (.bl _)
  ·cases e
 ·cases e
theorem zmd:bG K cA .add (r2 (rF K)):=by
 intro U H ds vs Q zt rs o;have o:bL K cA U H (CQ ds) Q:=o;cases ds with
 |nil=>exact False.elim o
 |cons a t=>
 cases a with
 |int i=>
  cases t with
  |nil=>exact False.elim o
  |cons b t=>
  cases b with
  |int j=>
   cases t with
   |cons _ _=>exact False.elim o
   |nil=>
    obtain⟨v,v',rfl,r1,r2⟩:=rs.two (ds:=[]);exact⟨_,_,rfl,.inl ⟨_,_,r1.int,r2.int,bL.here o (.int _)⟩⟩
  |_=>exact False.elim o
 |tup xs=>
  cases t with
  |nil=>exact False.elim o
  |cons b t=>
  cases b with
  |tup ys=>
   cases t with
   |cons _ _=>exact False.elim o
   |nil=>
    obtain⟨v,v',rfl,r1,r2⟩:=rs.two (ds:=[]);obtain⟨p,us,rfl,t1,q1⟩:=r1.tup;obtain⟨p',us',rfl,t2,q2⟩:=r2.tup;have o:bL K cA U H (if xs.length+ys.length<=sizeLine then some (.dat (.tup (xs++ys))) else none) Q:=o;by_cases hz:xs.length+ys.length<=sizeLine
    ·rw[if_pos hz] at o;refine⟨_,_,rfl,.inr (.inr (.inl ⟨p,p',us,us',rfl,rfl,t1.jH,t2.jH,by rw[<-q1.len,<-q2.len];exact hz,λe=>?_,λe=>?_,λa ha=>o.tup zt (q1.app q2) ha⟩))⟩
     ·subst e;cases q1;exact o.here (.tup t2 q2)
     ·subst e;cases q2;rw[zB] at o;exact o.here (.tup t1 q1)
    ·rw[if_neg hz] at o;exact o.elim
  |_=>exact False.elim o
 |fl xs=>
  cases t with
  |nil=>exact False.elim o
  |cons b t=>
  cases b with
  |fl ys=>
   cases t with
   |cons _ _=>exact False.elim o
   |nil=>
    obtain⟨v,v',rfl,⟨p,us,rfl,t1,q1⟩,⟨p',us',rfl,t2,q2⟩⟩:=rs.two (ds:=[]);have o:bL K cA U H (if xs.length+ys.length<=sizeLine then some (.nw (xs++ys)) else none) Q:=o;by_cases hz:xs.length+ys.length<=sizeLine
    ·rw[if_pos hz] at o;exact⟨_,_,rfl,.inr (.inl ⟨p,p',us,us',rfl,rfl,t1,t2,by rw[<-q1.len,<-q2.len];exact hz,λa ha=>o a _ ha (q1.app q2)⟩)⟩
    ·rw[if_neg hz] at o;exact o.elim
  |_=>exact False.elim o
 |str x=>
  cases t with
  |nil=>exact False.elim o
  |cons b t=>
  cases b with
  |str y=>
   cases t with
   |cons _ _=>exact False.elim o
   |nil=>
    obtain⟨v,v',rfl,r1,r2⟩:=rs.two (ds:=[]);have o:bL K cA U H (if x.length+y.length<=sizeLine then some (.dat (.str (x++y))) else none) Q:=o;by_cases hz:x.length+y.length<=sizeLine
    ·rw[if_pos hz] at o;exact⟨_,_,rfl,.inr (.inr (.inr ⟨_,_,r1.str,r2.str,hz,o.here (.str _)⟩))⟩
    ·rw[if_neg hz] at o;exact o.elim
  |_=>exact False.elim o
 |_=>exact False.elim o
theorem zkZ:bG K cA .len (λxs H Q=>∃p ys,xs=[.ref p]/\(cV K H p ys\/gR K H p ys)/\Q (.int ys.length) H):=by
 intro U H ds vs Q zt rs o;have o:bL K cA U H (sS (λxs=>some (.dat (.int xs.length))) ds) Q:=o;unfold sS at o;split at o
 ·obtain⟨v,rfl,r1⟩:=rs.one;obtain⟨z,e⟩:=o.some';obtain⟨xs,e1,e2⟩:=zm.mp e;obtain⟨a,us,rfl,sq,q⟩:=r1.sq e1;cases e2;refine⟨a,us,rfl,sq,?_⟩;rw[<-q.len];exact(o.of e).here (.int _)
 ·exact o.elim
theorem zj5:bG K cA .list (λxs H Q=>∃p ys,xs=[.ref p]/\(cV K H p ys\/gR K H p ys)/\∀l,H l=none->Q (.ref l) (upd H l (.lst ys))):=by
 intro U H ds vs Q zt rs o;have o:bL K cA U H (sS (λxs=>some (.nw xs)) ds) Q:=o;unfold sS at o;split at o
 ·obtain⟨v,rfl,r1⟩:=rs.one;obtain⟨z,e⟩:=o.some';obtain⟨xs,e1,e2⟩:=zm.mp e;obtain⟨a,us,rfl,sq,q⟩:=r1.sq e1;cases e2;exact⟨a,us,rfl,sq,λl hl=>(o.of e) l us hl q⟩
 ·exact o.elim
theorem zg8:bG K cA .tuple (λxs H Q=>∃p ys,xs=[.ref p]/\((cV K H p ys/\∀l,H l=none->Q (.ref l) (upd H l (.tup ys)))\/(gR K H p ys/\Q (.ref p) H))):=by
 intro U H ds vs Q zt rs o;have o:bL K cA U H (qm ds) Q:=o;unfold qm at o;split at o
 ·rename_i d _;obtain⟨v,rfl,r1⟩:=rs.one;cases d with
  |tup xs=>
   obtain⟨a,us,rfl,t,q⟩:=r1.tup;exact⟨a,us,rfl,.inr ⟨t.jH,bL.here o (.tup t q)⟩⟩
  |fl xs=>
   obtain⟨a,us,rfl,t,q⟩:=r1;exact⟨a,us,rfl,.inl ⟨t,λl hl=>bL.tup o zt q hl⟩⟩
  |_=>exact o.elim
 ·exact o.elim
theorem zms:bG K cA .abs (λxs H Q=>∃i,xs=[.int i]/\Q (.int (if i<0 then -i else i)) H):=by
 intro U H ds vs Q zt rs o;have o:bL K cA U H (rA (λi=>.int (if i<0 then -i else i)) ds) Q:=o;cases ds with
 |nil=>exact False.elim o
 |cons a t=>
 cases a with
 |int i=>
  cases t with
  |cons _ _=>exact False.elim o
  |nil=>
   obtain⟨v,rfl,r1⟩:=rs.one;rw[r1.int];exact⟨_,rfl,bL.here o (.int _)⟩
 |_=>exact False.elim o
theorem zka:bG K cA .yx (λxs H Q=>(∃i,xs=[.int i]/\Q (.int i) H)\/∃k,xs=[.bl k]/\Q (.int (if k then 1 else 0)) H):=by
 intro U H ds vs Q zt rs o;have o:bL K cA U H (J1 ds) Q:=o;cases ds with
 |nil=>exact False.elim o
 |cons a t=>
 cases a with
 |int i=>
  cases t with
  |cons _ _=>exact False.elim o
  |nil=>
   obtain⟨v,rfl,r1⟩:=rs.one;rw[r1.int];exact .inl ⟨_,rfl,bL.here o (.int _)⟩
 |bl k=>
  cases t with
  |cons _ _=>exact False.elim o
  |nil=>
   obtain⟨v,rfl,r1⟩:=rs.one;rw[r1.bl];exact .inr ⟨_,rfl,bL.here o (.int _)⟩
 |_=>exact False.elim o
theorem zjq:bG K cA .max2 (λxs H Q=>∃i j,xs=[.int i,.int j]/\Q (.int (if j>i then j else i)) H):=by
 intro U H ds vs Q zt rs o;obtain⟨x,y,e,i,j,rfl,rfl,q⟩:=Gj (K:=K) (cA:=cA) (p:=.max2) (f:=λi j=>.int (if j>i then j else i)) rfl (λi j _ _=>.int _) U H ds vs Q zt rs o;exact⟨i,j,e,q⟩
theorem ziD:bG K cA .min2 (λxs H Q=>∃i j,xs=[.int i,.int j]/\Q (.int (if j<i then j else i)) H):=by
 intro U H ds vs Q zt rs o;obtain⟨x,y,e,i,j,rfl,rfl,q⟩:=Gj (K:=K) (cA:=cA) (p:=.min2) (f:=λi j=>.int (if j<i then j else i)) rfl (λi j _ _=>.int _) U H ds vs Q zt rs o;exact⟨i,j,e,q⟩
theorem zgE:bG K cA .divmod (λxs H Q=>∃i j,xs=[.int i,.int j]/\xZ i j/\∀p,H p=none->Q (.ref p) (upd H p (.tup [.int (i/j),.int (i%j)]))):=by
 intro U H ds vs Q zt rs o;have o:bL K cA U H (c7 (λi j=>if 0<j/\j<1073741824 then some (.tup [.int (i/j),.int (i%j)]) else none) ds) Q:=o;obtain⟨z,e⟩:=o.some';obtain⟨i,j,d,rfl,e1,rfl⟩:=ZP e;obtain⟨c,rfl⟩:=Km e1;obtain⟨v,v',rfl,r1,r2⟩:=rs.two (ds:=[]);rw[r1.int,r2.int];exact⟨i,j,rfl,c,λp hp=>(o.of e).tup zt (.cons (.int _) (.cons (.int _) .nil)) hp⟩
theorem ZQ:∀{xs:List D} {bs:List Bool} {vs:List V},dY xs=some bs->aC K cA U H xs vs->vs=bs.map V.bl
 |[],bs,vs,h,r=>by cases h;cases r;rfl
 |d::xs,bs,vs,h,r=>by
  cases d with
  |bl b=>
   simp only[dY,lu] at h;obtain⟨bs',h1,rfl⟩:=h;cases r with
   |cons q r=>cases q;rw[ZQ h1 r];rfl
  |_=>simp[dY] at h
theorem znI:bG K cA .ix (r2 (R4 K)):=by
 intro U H ds vs Q zt rs o;have o:bL K cA U H (Tv ds) Q:=o;unfold Tv at o;split at o
 ·rename_i d i _;obtain⟨v,v',rfl,r1,r2⟩:=rs.two (ds:=[]);obtain⟨z,e⟩:=o.some';obtain⟨y,e1,e2⟩:=lu.mp e;obtain⟨xs,e3,e4⟩:=zm.mp e1;obtain⟨a,us,rfl,sq,q⟩:=r1.sq e3;have key:∃w,L2.n8 us i=some w/\Rep K cA U H y w:=by
   unfold L2.n8 at *;rw[<-q.len];obtain⟨j,h1,h2⟩:=zm.mp e4;obtain⟨w,h3,h4⟩:=q.get h2;exact⟨w,by rw[h1];exact h3,h4⟩
  obtain⟨w,hw,lE⟩:=key;subst e2;have q':=(o.of e).here lE;rcases sq with sq|sq
  ·exact⟨_,_,rfl,.inl ⟨a,us,i,w,rfl,r2.int,sq,hw,q'⟩⟩
  ·exact⟨_,_,rfl,.inr (.inl ⟨a,us,i,w,rfl,r2.int,sq,hw,q'⟩)⟩
 ·exact o.elim
noncomputable def ZR(K:W.Frag):V->Option Int->Option Int->Hp->VK->Prop:=λx lo hi H Q=>Jr K x lo hi H Q\/Ac K x lo hi H Q
theorem zlq:yp X (ZR X.K):=yt.or zkr
theorem zkp{d:D}{lo hi:Option Int}{v:V}(zt:Zt U H)(r:Rv K cA U H d v)(o:bL K cA U H (cutD d lo hi) Q):ZR K v lo hi H Q:=by
 cases d with
 |tup xs=>
  obtain⟨a,us,rfl,t,q⟩:=r.tup;refine .inr ⟨a,us,rfl,t.jH,λe=>?_,λp hp=>bL.tup o zt q.cut hp⟩;have hc:cut xs lo hi=xs:=by
   unfold cut;rw[q.len,e.1,e.2,List.drop_zero,Nat.sub_zero,<-q.len,Fe]
  have o:bL K cA U H (some (.dat (.tup (cut xs lo hi)))) Q:=o;rw[hc] at o;exact o.here (.tup t q)
 |fl xs=>
  obtain⟨a,us,rfl,t,q⟩:=r;exact .inl ⟨a,us,rfl,t,λp hp=>o p _ hp q.cut⟩
 |_=>exact o.elim
end
end Mi
namespace L2
open PySem PySem.Spec PyProof.Rows
section
variable {X:Cx}{ao:List (Addr×Obj)}{Z:St}{H:Hp}{s:Shared}{a:Addr}{y v:V}{u r:Value}{o:Option V}{A:Around}{E:Value->Shared->Prop}
theorem Inv.big(I:Inv X ao Z H s):sysModules<s.heap.objs.size:=by
 have h:mainGlobals<s.heap.objs.size:=(I.mod.glob.keeps I.bk).lt;exact Nat.lt_trans Tc h
theorem zjD(I:Inv X ao Z H s)(mu:Ih (H a))(hs:Heap.SameBut a s.heap h')(he:∃q,h'.get? a=some q)(new:bF X.prog X.w (upd H a ob) h' a ob) :
  Inv X ao Z (upd H a ob) {s with heap:=h',toks:=t'}:=
 I.write (x:=a) (e:=a) mu (.inl rfl) (λb q hb z=>(hs.2 b hb).trans z) he new
end
def Dk(i:Expr):Prop:=∀ov iv,subscripted i false ov iv=operate [ov,iv] (getItem ov iv)
theorem zjZ{prog:Program}{w:World}{A:Around}{E:Value->Shared->Prop}{s:Shared}{env:Env}{value slice:Expr}{pos:Pos}{T id:String}{Q:Value->Shared->Prop}
  (hl:typeLookup (.type T) "__getitem__"=pure (some (.builtin id))) (hs:Dk slice)
  (h:wpAny (model prog w) A (eval value env) (λo s₁=>wpAny (model prog w) A (eval slice env) (λi s₂=>s₂.TypeIs o T/\wpAny (model prog w) A (getItem o i) Q E s₂) E s₁) E s) :
  wpAny (model prog w) A (eval (.Subscript value slice pos) env) Q E s:=by
 refine Subscript_ (fX h (λo s₁ h₁=>fX h₁ (λi s₂ h₂=>?_) λ_ _ x=>x) λ_ _ x=>x);obtain⟨hT,h₂⟩:=h₂;unfold subscriptTail;refine aB ?_;rw[getitemInPython_of_ne hT.not_modules];refine aB (wpAny_specialOf hT hl ?_);have fin:wpAny (model prog w) A (subscripted slice false o i) (λr s₃=>wpAny (model prog w) A (letTemporaryGo value o r >>= λ_=>pure r) Q E s₃) E s₂:=by
  rw[hs o i];exact wpAny_operating (fX h₂ (λr s₃ h₃=>aB (wpAny_letTemporaryGo (aP h₃))) λ_ _ x=>x)
 first
  |exact aP (aB fin)
  |exact aB (aP (aB fin))
  |exact aB fin
end L2
namespace Mi
open PySem PySem.Spec PyProof.Rows L2
section
variable {X:Cx}{cA:Cl}{aq:Nat->Nat->Bool}{aj:Bool}{F:Fn}{EX:XS}{a b c d e o:Expr}{A B C Dd E' O:E}{pos pp p2 apos cpos:Pos}{es:List Expr}{Xs:Es}{fz:Bool}{p:Pr}{x:Str}{U:Ph}{H:Hp}{s:S}{lo hi:Option Expr}{Lo Hi:Eo}
def Ko(X:Cx)(cA:Cl)(aq:Nat->Nat->Bool)(aj:Bool)(F:Fn)(EX:XS)(oe:Option Expr)(m:Eo):Prop:=
 PO X oe (λZ H Q=>∃U J s,aX X.K cA U H Z J/\aD X.K cA U H s/\Run X.K cA (yD aq aj F m J) U H s (λi _ U' H'=>Q i H') (eX X.K cA EX Z))
theorem PO.weak{oe:Option Expr}{t t':TO}(h:PO X oe t)(f:∀Z H Q,t' Z H Q->t Z H Q):PO X oe t':=by
 intro ao s Z H Q I q;exact h ao s Z H Q I (f Z H Q q)
theorem znV:Ko X cA aq aj F EX none .no:=PO.weak zjl λZ H Q hh=>un hh λU J s hL hS h=>h.bH hS
theorem zmM(ha:SE X cA aq aj F EX a A):Ko X cA aq aj F EX (some a) (.yes A):=PO.weak (zjr ha) λZ H Q hh=>un hh λU J s hL hS h=>by
 refine bw hL hS h λx H1 U1 d1 s1 x1 hL1 aJ r1 h1=>?_;obtain⟨i,_,e,h3⟩:=Dj r1 h1;exact⟨i,e,h3.bH aJ⟩
theorem Kp{β:Type}{Z:L2.St}{J:Vs}{m:Eo}{k:Option Int->M β}{P:β->S->Ph->Hp->Prop}(hL:aX X.K cA U H Z J)(hS:aD X.K cA U H s)(h:Run X.K cA (M.bd (yD aq aj F m J) k) U H s P (eX X.K cA EX Z)){Q:Option Int->Hp->Prop}
  (f:∀i H1 U1 s1,Ext U H U1 H1->aX X.K cA U1 H1 Z J->aD X.K cA U1 H1 s1->Run X.K cA (k i) U1 H1 s1 P (eX X.K cA EX Z)->Q i H1) :
  ∃U J s,aX X.K cA U H Z J/\aD X.K cA U H s/\Run X.K cA (yD aq aj F m J) U H s (λi _ U' H'=>Q i H') (eX X.K cA EX Z):=
 ⟨U,J,s,hL,hS,h.bd.imp λi s1 U1 H1 ⟨x1,r1,h1⟩=>f i H1 U1 s1 x1 (hL.mono x1 hS.lz) r1 h1⟩
theorem znd(ha:SE X cA aq aj F EX a A)(hl:Ko X cA aq aj F EX lo Lo)(hh:Ko X cA aq aj F EX hi Hi):SE X cA aq aj F EX (.Subscript a (.Slice lo hi none p2) pos) (.sl fz A Lo Hi):=PE.weak (zhU zlq ha hl hh) λZ H Q hh=>un hh λU J s hL hS h=>by
 refine bw hL hS h λx H1 U1 d1 s1 x1 hL1 aJ r1 h1=>Kp hL1 aJ h1 λl H2 U2 s2 x2 hL2 aR h2=>Kp hL2 aR h2 λu H3 U3 s3 x3 oU gO h3=>?_;obtain⟨dd,rv,h4⟩:=Ol gO ((r1.mono x2 aJ.lz).mono x3 aR.lz) h3;exact zkp gO.zs rv (uX gO h4)
theorem ZS:∀bs:List Bool,(List.range bs.length).all (λi=>(bs[i]?).getD false)=bs.all id
 |[]=>rfl
 |b::r=>by
  rw[h_,QJ,Bq,HF,Bq];have:=ZS r;simp only[Function.comp_def,En,List.getElem?_cons_zero,Option.getD_some,id];rw[this]
theorem zgQ(hc:X.aj=true):cW X (.builtin "all") (λxs H Q=>∃(p:Addr) (bs:List Bool),xs=[.ref p]/\cV X.K H p (bs.map V.bl)/\Q (.bl (bs.all id)) H):=by
 intro ao s Z H xs us Q I r ⟨p,bs,e,hp,q⟩;subst e;obtain⟨u,rfl,ru⟩:=Vals.one r;cases (show u=Value.ref p from ru);obtain⟨its,rv,pl,hz⟩:=I.list hp;have hl:s.heap.IsList p its.toArray:=pl.isList;have hpn:p≠s.heap.objs.size:=by
  obtain⟨o,hg,_⟩:=hl;exact cU (bO hg)
 refine call_all_walk (M6 hl ?_);refine⟨_,_,_,_,_,_,λi=>(bs[i]?).getD false,rfl,Walks.list (A:=X.A.in1) (I.ok.hd hc) _ p hpn its.toArray,⟨⟨_,eN _ rfl,rfl,rfl⟩,hl.push _⟩,?_,λh' tk hk=>?_⟩
 ·intro i v s' Q' E' hP hQ;have hi:its[i]?=some v:=by simpa using hP
  have hb:∃b,bs[i]?=some b:=by
   have cH:i<its.length:=(dW.mp hi).1;have z:=rv.length;rw[cR] at z;exact⟨_,cZ gV⟩
  obtain⟨b,hb⟩:=hb;obtain⟨u,e1,e2⟩:=rv.get (i:=i) (x:=V.bl b) (by rw[gM,hb];rfl);rw[hi] at e1;cases e1;cases (show v=Value.bool b from e2);have hQ:Q' ((bs[i]?).getD false) s':=hQ;rw[hb] at hQ;exact v8 hQ
 ·have ez:(List.range its.toArray.size).all (λi=>(bs[i]?).getD false)=bs.all id:=by
   have z:=rv.length;rw[cR] at z;rw[fW,<-z];exact ZS bs
  rw[ez];refine⟨.bl (bs.all id),H,I.kept (h':=h') (t':=tk) (old_kept hk),rfl,q⟩
theorem zmj{K:W.Frag}:bG K cA .all (λxs H Q=>∃(p:Addr) (bs:List Bool),xs=[.ref p]/\cV K H p (bs.map V.bl)/\Q (.bl (bs.all id)) H):=by
 intro U H ds vs Q zt rs o;have o:bL K cA U H (CW ds) Q:=o;unfold CW at o;split at o
 ·obtain⟨v,rfl,⟨ad,us,rfl,l,q⟩⟩:=rs.one;obtain⟨z,e⟩:=o.some';obtain⟨bs,e1,e2⟩:=lu.mp e;subst e2;exact⟨ad,bs,rfl,by rw[<-ZQ e1 q];exact l,(o.of e).here (.bl _)⟩
 ·exact o.elim
noncomputable def Ot:Kd->String->Bool
 |.int,"int"=>true
 |.int,"bool"=>true
 |.bool,"bool"=>true
 |.str,"str"=>true
 |.tuple,"tuple"=>true
 |.list,"list"=>true
 |.dict,"dict"=>true
 |_,_=>false
noncomputable def u6:Kd->Option Value
 |.int=>some (.type "int")
 |.bool=>some (.type "bool")
 |.str=>some (.type "str")
 |.tuple=>some (.type "tuple")
 |.list=>some (.type "list")
 |.dict=>some (.type "dict")
 |_=>none
theorem zmz{K:W.Frag}{k:Kd}{cu:Value}(h:u6 k=some cu){T:String}(hT:T∈["NoneType","bool","int","str","tuple","list","dict"]):PySem.W.kitOne K (.type T) cu=some (Ot k T):=by
 simp only[jA,List.mem_nil_iff,or_false] at hT;cases k<;>simp only[u6] at h<;>cases h<;>rcases hT with rfl|rfl|rfl|rfl|rfl|rfl|rfl<;>rfl
structure Kq(K:W.Frag)(cA:Cl)(aq:Nat->Nat->Bool):Prop where
 xc:∀c,XC K (cA.a c)
 aq:∀c e,PySem.W.kitOne K (.ref (cA.a c)) (.ref (cA.a e))=some (aq c e)
 sJ:∀c,PySem.W.kitOne K (.ref (cA.a c)) (.type "ValueError")=some true
noncomputable def Gk(cA:Cl):Kd->V
 |.cls e=>.ref (cA.a e)
 |.sJ=>.ty "ValueError"
 |.int=>.ty "int"
 |.bool=>.ty "bool"
 |.str=>.ty "str"
 |.tuple=>.ty "tuple"
 |.list=>.ty "list"
 |.dict=>.ty "dict"
theorem zh0(Cs:u6 k=none->Kq X.K cA aq) :
  cW X (.builtin "isinstance") (λxs H Q=>∃U d v bb,xs=[v,Gk cA k]/\Rv X.K cA U H d v/\lW aq d k=some bb/\Q (.bl bb) H):=by
 intro ao sh Z H xs us Q I r ⟨U,d,v,bb,e,rd,hi,q⟩;subst e;obtain⟨u,w,rfl,ru,Ua⟩:=Vals.two r;have u9:∀tk,EP X ao Z Q (.bool bb) {sh with toks:=tk}:=λtk=>⟨.bl bb,H,I.tok tk,rfl,q⟩;have bt:∀{T:String} {Hh:Heap->Prop},PySem.W.KitX X.K u (.type T) Hh->Hh sh.heap->T∈["NoneType","bool","int","str","tuple","list","dict"]->u≠Value.builtin "__main__.__loader__#opaque"->(∃cu,u6 k=some cu/\w=cu/\Ot k T=bb)->wpAny (model X.prog X.w) X.A (PySem.call (.builtin "isinstance") [u,w]) (EP X ao Z Q) X.xe sh:=λ{T Hh} Ub hh hT hx ⟨cu,h1,h2,h3⟩=>by
  subst h2 h3;exact PySem.W.kia_one Ub I.lO hh (zmz h1 hT) hx u9
 have wv:∀cu,u6 k=some cu->w=cu:=λcu h=>by
  cases k<;>simp only[u6] at h<;>cases h<;>exact Ua
 have fin:∀T,lW aq d k=(match u6 k with|some _=>some (Ot k T)|none=>none)->∃cu,u6 k=some cu/\w=cu/\Ot k T=bb:=λT h=>by
  rw[hi] at h;cases z:u6 k with
  |none=>rw[z] at h;cases h
  |some cu=>rw[z] at h;cases h;exact⟨cu,rfl,wv cu z,rfl⟩
 cases d with
 |non=>
  cases (show Rep X.K cA U H .non v from rd);cases (show u=Value.none from ru);exact bt PySem.W.kitx_none trivial Zaa (λz=>nomatch z) (fin "NoneType" (by cases k<;>rfl))
 |bl b=>
  cases rd.bl;cases (show u=Value.bool b from ru);exact bt PySem.W.kitx_bool trivial Zaa (λz=>nomatch z) (fin "bool" (by cases k<;>rfl))
 |int i=>
  cases rd.int;obtain⟨t,z⟩:=(show ∃t,u=Value.int i t from ru);cases z;exact bt PySem.W.kitx_int trivial Zaa (λz=>nomatch z) (fin "int" (by cases k<;>rfl))
 |str y=>
  cases rd.str;obtain⟨t,z⟩:=(show ∃t,u=Value.str y t from ru);cases z;exact bt PySem.W.kitx_str trivial Zaa (λz=>nomatch z) (fin "str" (by cases k<;>rfl))
 |tup xs=>
  obtain⟨ad,vs,rfl,h1,h2⟩:=rd.tup;cases (show u=Value.ref ad from ru);obtain⟨its,_,ht,_⟩:=I.tuple h1.jH;obtain⟨o,q1,q2,_⟩:=ht;exact bt PySem.W.kitx_tuple ⟨o,q1,q2⟩ Zaa (λz=>nomatch z) (fin "tuple" (by cases k<;>rfl))
 |fl xs=>
  obtain⟨ad,vs,rfl,h1,h2⟩:=rd;cases (show u=Value.ref ad from ru);obtain⟨its,_,ht,_⟩:=I.list h1;obtain⟨o,q1,q2,_⟩:=ht.isList;exact bt PySem.W.kitx_list ⟨o,q1,q2⟩ Zaa (λz=>nomatch z) (fin "list" (by cases k<;>rfl))
 |fd ks vs=>
  cases (show Rep X.K cA U H (.fd ks vs) v from rd) with
  |@fd ad kk ii q1 n=>
   cases (show u=Value.ref ad from ru);obtain⟨_,_,vs,_,o,es',ep,g1,g2,_⟩:=(show bF X.prog X.w H sh.heap ad (.dK [(.inr kk,.int ii)]) from I.hok ad _ q1);exact bt PySem.W.kitx_dict ⟨o,g1,g2.1⟩ Zaa (λz=>nomatch z) (fin "dict" (by cases k<;>rfl))
 |ob c fs=>cases k<;>cases hi
 |any=>cases k<;>cases hi
 |exc c fs=>
  cases (show Rep X.K cA U H (.exc c fs) v from rd) with
  |@exc ad _ _ vs hx rs=>
   cases (show u=Value.ref ad from ru);have hI:∃ox od,PySem.W.InstAt sh.heap ad ox (cA.a c) od:=by
    obtain⟨_,⟨_,_,hx⟩|⟨dx,hx,_,hd,_⟩⟩:=hx
    ·obtain⟨⟨oe,vs,g1,g2,g3,g4⟩,_⟩:=(show bF X.prog X.w H sh.heap ad (yw ad (cA.a c) none) from I.hok ad _ hx);exact⟨oe,none,g1,g2,by unfold PySem.W.notCls;rw[g4],by rw[g3];trivial⟩
    ·obtain⟨⟨oe,vs,g1,g2,g3,g4⟩,_⟩:=(show bF X.prog X.w H sh.heap ad (yw ad (cA.a c) (some dx)) from I.hok ad _ hx);obtain⟨mA,⟨od,es,ep,e1,c1⟩,_⟩:=(show bF X.prog X.w H sh.heap dx (.xd _) from I.hok dx _ hd);exact⟨oe,some od,g1,g2,by unfold PySem.W.notCls;rw[g4],by rw[g3];exact e1⟩
   cases k with
   |cls e=>
    cases (show w=Value.ref (cA.a e) from Ua);have z:some (aq c e)=some bb:=hi;cases z;exact PySem.W.kia_one (Y7 ((Cs rfl).xc c)) I.lO hI ((Cs rfl).aq c e) (λz=>nomatch z) u9
   |sJ=>
    cases (show w=Value.type "ValueError" from Ua);have z:some true=some bb:=hi;cases z;exact PySem.W.kia_one (Y7 ((Cs rfl).xc c)) I.lO hI ((Cs rfl).sJ c) (λz=>nomatch z) u9
   |_=>cases hi
theorem zmq(Cs:u6 k=none->Kq X.K cA aq)(hg:Gl X "isinstance")(hm:X.mg "isinstance"=none)(ha:SE X cA aq aj F EX a A)(hk:PE X kx (tC (Gk cA k)))(h1:starEach [a,kx] X.env=(false,eval a X.env)::starEach [kx] X.env:=by rfl)(h2:starEach [kx] X.env=(false,eval kx X.env)::starEach [] X.env:=by rfl)
  (cT:(backTo pos (starEach [kx] X.env)).any (·.1)=false:=by rfl):SE X cA aq aj F EX (.Call (.Name "isinstance" pp) [a,kx] [] pos) (.rm A k):=PE.weak (YK (zh0 (cA:=cA) (k:=k) Cs) hg hm PyProof.Rows.boot_isinstance (sy ha (sy hk yd h2) h1) Tc Tc h1 cT) λZ H Q hh=>un hh λU J s hL hS h=>
 bw hL hS h λv H1 U1 d s1 x1 hL1 aJ r1 h1=>by
  show ∃U d' v' bb,[v,Gk cA k]=[v',Gk cA k]/\_;obtain⟨dd,rv,h2⟩:=Ol aJ r1 h1;obtain⟨bb,e,h3⟩:=Run.m7 h2;exact⟨U1,dd,v,bb,rfl,rv,e,h3.bH aJ _ (.d (.bl bb))⟩
end
theorem ZV(n:Nat):∀is js:List Int,dR (dF n) (is.map .int) (js.map .int)=some (decide (is=js))
 |[],[]=>rfl
 |[],_::_=>rfl
 |_::_,[]=>rfl
 |i::is,j::js=>by
  have e:dF n (.int i) (.int j)=some (i==j):=by cases n<;>rfl
  simp only[jV,dR,ZV n is js,e]
  congr 1
  by_cases h:i=j
  ·subst h;by_cases h2:is=js<;>simp[h2]
  ·simp[h]
theorem zmu{a b:Kx}:dF 2 (sV a) (sV b)=some (decide (a=b)):=by
 cases a with
 |non=>cases b<;>rfl
 |int i=>cases b with
  |int j=>
   show some (i==j)=_;by_cases h:i=j
   ·subst h;simp
   ·have hn:¬Kx.int i=Kx.int j:=λz=>h (by cases z;rfl);simp[h,hn]
  |_=>rfl
 |row is=>cases b with
  |row js=>
   show dR (dF 1) (is.map .int) (js.map .int)=_;rw[ZV];by_cases h:is=js
   ·subst h;simp
   ·have hn:¬Kx.row is=Kx.row js:=λz=>h (by cases z;rfl);simp[h,hn]
  |_=>rfl
theorem ZW{x y:List Kx}:dF 3 (jh x) (jh y)=some (decide (x=y)):=by
 show dR (dF 2) (x.map sV) (y.map sV)=_
 induction x generalizing y with
 |nil=>cases y<;>rfl
 |cons a x ih=>cases y with
  |nil=>rfl
  |cons b y=>
   simp only[jV,dR,ih,zmu]
   congr 1
   by_cases h:a=b
   ·subst h;by_cases h2:x=y<;>simp[h2]
   ·simp[h]
theorem ZX:∀{xs:List D} {is:List Int},cC xs=some is->xs=is.map .int
 |[],is,h=>by cases h;rfl
 |x::r,is,h=>by
  cases x with
  |int i=>
   simp only[cC,lu] at h;obtain⟨js,h1,rfl⟩:=h;rw[ZX h1];rfl
  |_=>cases h
theorem zja{d:D}{k:Kx}(h:uU d=some k):d=sV k:=by
 cases d with
 |non=>cases h;rfl
 |int i=>cases h;rfl
 |tup xs=>
  simp only[uU,lu] at h;obtain⟨js,h1,rfl⟩:=h;rw[ZX h1];rfl
 |_=>cases h
theorem Z0:∀{xs:List D} {k:List Kx},Di xs=some k->xs=k.map sV
 |[],k,h=>by cases h;rfl
 |x::r,k,h=>by
  unfold Di at h;cases e1:uU x with
  |none=>simp only[e1] at h;cases h
  |some a=>cases e2:Di r with
   |none=>simp only[e1,e2] at h;cases h
   |some b=>
    simp only[e1,e2] at h;cases h;rw[zja e1,Z0 e2];rfl
theorem zmy{d:D}{k:List Kx}(h:kOf d=some k):d=jh k:=by
 cases d with
 |tup xs=>show D.tup xs=.tup _;rw[Z0 h]
 |_=>cases h
noncomputable def Z9:Kx->Nat
 |.row is=>is.length+1
 |_=>1
noncomputable def u_:List Kx->Nat
 |[]=>0
 |x::r=>Z9 x+u_ r
section
variable {prog:Program}{w:World}{A:Around}{E:Value->Shared->Prop}{s:Shared}{h h':Heap}
theorem Z_:∀{is:List Int} {us:List Value},jJ h (is.map .int) us->ItemsAre (intKind prog w) is us
 |[],us,r=>by cases r;exact .nil
 |i::is,us,r=>by
  cases r with
  |cons a r=>cases a with
   |int i t=>exact .cons (by simp[intKind,Value.isInt]) (Z_ r)
   |oth k=>cases k
theorem vd{is:List Int}{a:Value}(x:Is h (.tup (is.map .int)) a):∃b,a=.ref b/\IsTupleKey (intKind prog w) h is b:=by
 cases x with
 |tup p r=>
  obtain⟨o,e,c,n,d⟩:=p;exact⟨_,rfl,o,_,n,e,c,d,by simpa using Z_ r⟩
 |oth k=>cases k
theorem zjf{x:Kx}{u:Value}{Q:Int->Shared->Prop}(hu:A.units<cLine)(hx:Is s.heap (sV x) u)(q:Q (TY x) {s with toks:=s.toks+Z9 x}):wpAny (model prog w) A (pyHash u) Q E s:=by
 cases x with
 |non=>
  cases hx with
  |non=>exact PySem.W.pyHash_slot (T:="NoneType") rfl F.slot_NoneType_hash F.entry_NoneType_hash (F.args_NoneType_hash_1 _) (beq_builtin_none _) (.inr hu) (aB (aP (aB (wpAny_mkInt (aP ⟨_,_,rfl,q⟩)))))
  |oth k=>cases k
 |int i=>
  cases hx with
  |int i t=>exact wpAny_pyHash_int q
  |oth k=>cases k
 |row is=>
  obtain⟨b,rfl,k⟩:=vd (prog:=prog) (w:=w) hx;exact wpAny_pyHash_tuple hu k q
theorem zc9{k:List Kx}:∀{r:List Kx} {us:List Value} {b:Array Int} {s:Shared} {Q:Array Int->Shared->Prop},A.units<cLine->jJ s.heap (r.map sV) us->(∀b':Array Int,b'.toList=b.toList++r.map TY->Q b' {s with toks:=s.toks+u_ r})->
  wpAny (model prog w) A (forIn us b λx r=>do let h <-pyHash x;pure PUnit.unit;pure (ForInStep.yield (r.push h))) Q E s
 |[],us,b,s,Q,hu,x,q=>by cases x;exact aP (q b Zaa)
 |a::r,us,b,s,Q,hu,x,q=>by
  cases x with
  |cons x1 x2=>
   rw[Fj];refine aB (aB (zjf hu x1 (aB (aP (aP ?_)))));refine zc9 (k:=k) hu x2 λb' e=>?_;have:=q b' (by simp[e]);simpa [u_,Nat.add_assoc] using this
theorem zhE{k:List Kx}{a:Addr}{Q:Int->Shared->Prop}(hu:A.units+1<cLine)(hk:Is s.heap (jh k) (.ref a))(q:Q (rB k) {s with toks:=s.toks+(u_ k+1)}):wpAny (model prog w) A (pyHash (.ref a)) Q E s:=by
 cases hk with
 |oth k=>cases k
 |tup p r=>
  obtain⟨o,e,c,n,d⟩:=p;refine PySem.W.pyHash_slot (T:="tuple") ⟨_,e,c⟩ F.slot_tuple_hash F.entry_tuple_hash (F.args_tuple_hash_1 _) (beq_builtin_none _) (.inr gV) ?_;show wpAny _ _ (Builtin.Tuple.tupleItemsOf (.ref a) >>= _) _ _ s;refine aB (wpAny_tupleItemsOf e d (aB ?_));rw[<-M4];refine zc9 (A:=A.in1) (k:=k) (show A.units+1<cLine from hu) (by simpa using r) λb hb=>?_;show wpAny _ _ (retInt (Builtin.Tuple.tupleHashOf b.toList)) _ _ _;rw[hb];exact aB (wpAny_mkInt (aP ⟨_,_,rfl,by simpa [Nat.add_assoc,rB] using q⟩))
theorem zgX(ht:∀a xs,h.IsTuple a xs->h'.IsTuple a xs)(hl:∀a xs,h.IsList a xs->h'.IsList a xs){d:D}{u:Value}(x:Is h d u):Is h' d u:=
 Is.rec (motive_1:=λd u _=>Is h' d u) (motive_2:=λd u _=>jJ h' d u) .non .bl .int .str (λp _ r=>.tup (ht _ _ p) r) (λp _ r=>.fl (hl _ _ p) r) (λk=>.oth k) .nil (λ_ _ a r=>.cons a r) x
theorem zha:∀{n:Nat} {x:Kx} {u:Value} {Q:Bool->Shared->Prop},Is s.heap (sV x) u->Q true s->wpAny (model prog w) A (eqIsQuiet (n+1) u) Q E s:=by
 intro n x u Q hx q;cases x with
 |non=>
  cases hx with
  |non=>rw[eqIsQuiet_byValue _ rfl];exact aP q
  |oth k=>cases k
 |int i=>
  cases hx with
  |int i t=>rw[eqIsQuiet_byValue _ rfl];exact aP q
  |oth k=>cases k
 |row is=>
  obtain⟨b,rfl,k⟩:=vd (prog:=prog) (w:=w) hx;have ty:=k.typeIs;obtain⟨o,items,m,ho,_,hd,hi⟩:=k;unfold eqIsQuiet;refine aB (wpAny_specialOf ty F.slot_tuple_eq.lookup ?_);show wpAny _ A (isInstance (.ref b) (.type "tuple") >>= _) Q E s;refine aB (M9 ty isSubtype_tuple_tuple ?_);simp only[Bool.not_true,rR,nO];refine aB (rT ho hd (aB ?_));show wpAny _ A (forIn items _ _) _ E s;rw[<-M4];refine wpAny_forIn_list _ (λl r t=>r.1=none/\t=s/\∀v∈l,carriedByValue v=true) _ (λv l r t z=>?_) (λr t z=>?_) _ _ ⟨rfl,rfl,hi.byValue⟩
  ·obtain⟨_,rfl,qb⟩:=z;rw[eqIsQuiet_byValue _ (qb v lA)];exact aB (aP (aP ⟨rfl,rfl,λy hy=>qb y (iI _ hy)⟩))
  ·obtain⟨r1,r2⟩:=r;obtain⟨z1,rfl,_⟩:=z;cases z1;exact aP q
theorem zge{k:List Kx}{a:Addr}{Q:Bool->Shared->Prop}(hk:Is s.heap (jh k) (.ref a))(q:Q true s):wpAny (model prog w) A (eqIsQuiet 8 (.ref a)) Q E s:=by
 cases hk with
 |oth k=>cases k
 |@tup _ _ its p r=>
  obtain⟨o,ho,c,n,hd⟩:=p;unfold eqIsQuiet;refine aB (wpAny_specialOf ⟨_,ho,c⟩ F.slot_tuple_eq.lookup ?_);show wpAny _ A (isInstance (.ref a) (.type "tuple") >>= _) Q E s;refine aB (M9 ⟨_,ho,c⟩ isSubtype_tuple_tuple ?_);simp only[Bool.not_true,rR,nO];refine aB (rT ho hd (aB ?_));show wpAny _ A (forIn its.toArray _ _) _ E s;rw[<-M4];refine wpAny_forIn_list _ (λl r t=>r.1=none/\t=s/\∀v∈l,∃x,Is s.heap (sV x) v) _ (λv l r t z=>?_) (λr t z=>?_) _ _ ⟨rfl,rfl,?_⟩
  ·obtain⟨_,rfl,qb⟩:=z;obtain⟨x,hx⟩:=qb v lA;exact aB (zha (n:=6) hx (aP ⟨rfl,rfl,λy hy=>qb y (iI _ hy)⟩))
  ·obtain⟨r1,r2⟩:=r;obtain⟨z1,rfl,_⟩:=z;cases z1;exact aP q
  ·intro v hv;have:∀{ks:List Kx} {us:List Value},jJ s.heap (ks.map sV) us->∀v∈us,∃x,Is s.heap (sV x) v:=λ{ks}=>by
    induction ks with
    |nil=>intro us r v hv;cases r;cases hv
    |cons y ks ih=>
     intro us r v hv;cases r with
     |cons a r=>
      rcases jA.mp hv with rfl|hv
      ·exact⟨y,a⟩
      ·exact ih r v hv
   exact this r v (by simpa using hv)
end
noncomputable def jP(prog:Program)(w:World):HeapKind prog w (List Kx) where
 is:=λh k a=>Is h (jh k) (.ref a)
 hash:=rB
 draws:=λk=>u_ k+1
 room:=λA=>A.units+4<cLine
 inj:=λx y=>jU (T7 3 x y ZW)
 keeps:=λ{h h' k a d o es ep} x ho hd hs=>zgX (λb xs ⟨q,e,c,n,z⟩=>⟨q,(hs.2 b λy=>by subst y;rw[ho] at e;cases e;rw[hd] at z;cases z).trans e,c,n,z⟩) (λb xs ⟨q,e,c,n,z⟩=>⟨q,(hs.2 b λy=>by subst y;rw[ho] at e;cases e;rw[hd] at z;cases z).trans e,c,n,z⟩) x
 pyHash:=λhu hk q=>zhE gV hk q
 eqBool:=λ{A E s x y a b Q} hu hx hy q=>Kf 3 (show A.units+3<cLine by lia) hx hy ZW _ _ _ _ q
 quiet:=λhk q=>zge hk q
section
variable {K:W.Frag}{cA:Cl}{U U':Ph}{H H':Hp}{s:S}
theorem TupAt.kO(e:∀a,U'.z a->U.z a){a:Addr}{vs:List V}(h:TupAt K U H a vs):TupAt K U' H a vs:=h.imp (λ⟨p,n⟩=>⟨p,λz=>n (e a z)⟩) id
theorem LstAt.kO(e:∀a,U'.z a->U.z a){a:Addr}{vs:List V}(h:LstAt K U H a vs):LstAt K U' H a vs:=h.imp (λ⟨p,n⟩=>⟨p,λz=>n (e a z)⟩) id
theorem ExcAt.kO(e:∀a,U'.z a->U.z a){a:Addr}{c:Nat}{vs:List V}(h:ExcAt cA U H a c vs):ExcAt cA U' H a c vs:=
 ⟨λz=>h.1 (e a z),h.2.imp id λ⟨dx,p,n,q,l⟩=>⟨dx,p,λz=>n (e dx z),q,l⟩⟩
theorem qw.kO(e:∀a,U'.z a->U.z a){a:Addr}{c:Nat}{vs:List V}(h:qw cA U H a c vs):qw cA U' H a c vs:=⟨λz=>h.1 (e a z),h.2⟩
theorem Rep.kO(e:∀a,U'.z a->U.z a){d:D}{v:V}(h:Rep K cA U H d v):Rep K cA U' H d v:=
 Rep.rec (motive_1:=λd v _=>Rep K cA U' H d v) (motive_2:=λd v _=>aC K cA U' H d v) .non .bl .int .str (λh _ i=>.tup (h.kO e) i) (λh _ i=>.fl (h.kO e) i) (λh n=>.fd h (λz=>n (e _ z))) (λh _ i=>.exc (h.kO e) i) (λh _ i=>.ob (h.kO e) i) .any .nil (λ_ _ i j=>.cons i j) h
theorem aC.kO(e:∀a,U'.z a->U.z a){d:List D}{v:List V}(h:aC K cA U H d v):aC K cA U' H d v:=
 aC.rec (motive_1:=λd v _=>Rep K cA U' H d v) (motive_2:=λd v _=>aC K cA U' H d v) .non .bl .int .str (λh _ i=>.tup (h.kO e) i) (λh _ i=>.fl (h.kO e) i) (λh n=>.fd h (λz=>n (e _ z))) (λh _ i=>.exc (h.kO e) i) (λh _ i=>.ob (h.kO e) i) .any .nil (λ_ _ i j=>.cons i j) h
theorem lq.kO(e:∀a,U'.z a->U.z a){a:Addr}{o:SO}(h:lq K cA U H a o):lq K cA U' H a o:=h.map (λ_ _ q=>q) λ_ _ r=>r.kO e
theorem Rep.zl{d:D}{v:V}(h:Rep K cA U H d v)(l:List Addr):Rep K cA ⟨U.z,l⟩ H d v:=Rep.kO (U:=U) (U':=⟨U.z,l⟩) (λ_ z=>z) h
theorem aC.zl{d:List D}{v:List V}(h:aC K cA U H d v)(l:List Addr):aC K cA ⟨U.z,l⟩ H d v:=aC.kO (U:=U) (U':=⟨U.z,l⟩) (λ_ z=>z) h
theorem lq.zl{a:Addr}{o:SO}(h:lq K cA U H a o)(l:List Addr):lq K cA ⟨U.z,l⟩ H a o:=lq.kO (U:=U) (U':=⟨U.z,l⟩) (λ_ z=>z) h
noncomputable def adr(l:List Addr):List Nat->List Addr
 |[]=>[]
 |n::r=>match l[n]? with
  |some a=>a::adr l r
  |none=>adr l r
theorem Gm{l:List Addr}:∀{ns:List Nat} {a:Addr},a∈adr l ns->∃n∈ns,l[n]?=some a
 |[],a,h=>by cases h
 |n::r,a,h=>by
  unfold adr at h;cases e:l[n]? with
  |none=>
   simp only[e] at h;obtain⟨m,h1,h2⟩:=Gm h;exact⟨m,iI _ h1,h2⟩
  |some b=>
   simp only[e] at h;rcases jA.mp h with rfl|h
   ·exact⟨n,lA,e⟩
   ·obtain⟨m,h1,h2⟩:=Gm h;exact⟨m,iI _ h1,h2⟩
theorem zen{s:S}:∀{ns:List Nat} {s0:S} {i n:Nat},jG s ns=some s0->ns[i]?=some n->s0[i]?=s[n]?/\∃o,s[n]?=some o
 |[],s0,i,n,h,e=>by simp at e
 |m::r,s0,i,n,h,e=>by
  unfold jG at h;cases e1:s[m]? with
  |none=>simp only[e1] at h;cases h
  |some o=>
   cases e2:jG s r with
   |none=>simp only[e1,e2] at h;cases h
   |some q=>
    simp only[e1,e2] at h;cases h;cases i with
    |zero=>simp at e;subst e;exact⟨by simp[e1],o,e1⟩
    |succ i=>simpa using zen e2 (by simpa using e)
theorem zep{s:S}:∀{ns:List Nat} {s0:S},jG s ns=some s0->s0.length=ns.length
 |[],s0,h=>by cases h;rfl
 |m::r,s0,h=>by
  unfold jG at h;cases e1:s[m]? with
  |none=>simp only[e1] at h;cases h
  |some o=>
   cases e2:jG s r with
   |none=>simp only[e1,e2] at h;cases h
   |some q=>
    simp only[e1,e2] at h;cases h;rw[h_,h_,zep e2]
theorem Kr{l:List Addr}:∀{ns:List Nat} {i n:Nat},(∀n∈ns,∃a,l[n]?=some a)->ns[i]?=some n->(adr l ns)[i]?=l[n]?
 |[],i,n,_,e=>by simp at e
 |m::r,i,n,h,e=>by
  obtain⟨a,ha⟩:=h m lA;unfold adr;simp only[ha];cases i with
  |zero=>simp at e;subst e;simp[ha]
  |succ i=>simpa using Kr (λn hn=>h n (iI _ hn)) (by simpa using e)
theorem Ks{l:List Addr}:∀{ns:List Nat},(∀n∈ns,∃a,l[n]?=some a)->(adr l ns).length=ns.length
 |[],_=>rfl
 |m::r,h=>by
  obtain⟨a,ha⟩:=h m lA;unfold adr;simp only[ha];rw[h_,h_,Ks (λn hn=>h n (iI _ hn))]
theorem zdb{l:List Addr}(hl:l.Nodup):∀{ns:List Nat},ns.Nodup->(∀n∈ns,∃a,l[n]?=some a)->(adr l ns).Nodup
 |[],_,_=>Bl
 |m::r,hn,h=>by
  obtain⟨a,ha⟩:=h m lA;unfold adr;simp only[ha];obtain⟨h1,h2⟩:=xu.mp hn;refine xu.mpr ⟨λz=>?_,zdb hl h2 (λn hn=>h n (iI _ hn))⟩;obtain⟨n,q1,q2⟩:=Gm z;have:m=n:=(QW (dW.mp ha).1 hl).mp (ha.trans q2.symm);exact h1 (this▸q1)
theorem Gn{s:S}:∀{ns:List Nat} {s1:S},(dh s ns s1).length=s.length
 |[],s1=>by cases s1<;>rfl
 |n::r,[]=>rfl
 |n::r,o::q=>by
  show (dh (s.set n o) r q).length=_;rw[Gn,pP]
theorem Uc{s:S}:∀{ns:List Nat} {s1:S} {m:Nat},m∉ns->(dh s ns s1)[m]?=s[m]?
 |[],s1,m,_=>by cases s1<;>rfl
 |n::r,[],m,_=>rfl
 |n::r,o::q,m,h=>by
  show (dh (s.set n o) r q)[m]?=_;rw[Uc (λz=>h (iI _ z)),qK (λz=>h (by rw[z];exact lA))]
theorem zd1{s:S}:∀{ns:List Nat} {s1:S} {i m:Nat} {o:SO},ns.Nodup->ns[i]?=some m->s1[i]?=some o->m<s.length->(dh s ns s1)[m]?=some o
 |[],s1,i,m,o,_,e,_,_=>by simp at e
 |n::r,[],i,m,o,_,_,e,_=>by simp at e
 |n::r,q::qs,i,m,o,hn,e1,e2,hm=>by
  show (dh (s.set n q) r qs)[m]?=_;obtain⟨h1,h2⟩:=xu.mp hn;cases i with
  |zero=>
   simp at e1 e2;subst e1 e2;rw[Uc h1,zp hm]
  |succ i=>exact zd1 h2 (by simpa using e1) (by simpa using e2) (by rw[pP];exact hm)
theorem zf4:∀{xs:List Xv} {vs:List V} (l0:List Addr) (z:Addr->Prop) (k:Nat),aQ K cA U H xs vs->U.z=z->(∀i n,(locs xs)[i]?=some n->l0[k+i]?=U.l[n]?)->aQ K cA ⟨z,l0⟩ H (dN k xs) vs
 :=by
 intro xs vs l0 z k r0
 induction r0 generalizing k with
 |nil=>exact λ_ _=>.nil
 |@cons x v xs vs a q ih=>
  intro ez h;cases a with
  |d a=>exact .cons (.d (a.kO λb hb=>by rw[ez];exact hb)) (ih k ez h)
  |@l n a' a=>
   refine .cons (.l ?_) (ih (k+1) ez λi m e=>?_)
   ·have:=h 0 n rfl;rw[Nat.add_zero] at this;show l0[k]?=_;rw[this];exact a
   ·have:=h (i+1) m (by simpa [locs] using e);rw[<-this]
    congr 1
    lia
theorem zeX:∀{xs:List Xv} {vs:List V},aQ K cA U H xs vs->∀n∈locs xs,∃a,U.l[n]?=some a
 :=by
 intro xs vs r0
 induction r0 with
 |nil=>exact λn h=>by cases h
 |cons a q ih=>
  intro n h;cases a with
  |d a=>exact ih n h
  |l a=>
   rcases jA.mp h with rfl|h
   ·exact⟨_,a⟩
   ·exact ih n h
theorem zdo{xs:List Xv}{U1:Ph}{s0 s1:S}(hS:aD K cA U H s)(hn:(locs xs).Nodup)(ht:∀n∈locs xs,∃a,U.l[n]?=some a)(x:Ext ⟨U.z,adr U.l (locs xs)⟩ H U1 H')(r1:aD K cA U1 H' s1) :
  Ext U H ⟨U1.z,U.l⟩ H'/\aD K cA ⟨U1.z,U.l⟩ H' (dh s (locs xs) s1):=by
 have aq:∀a∈adr U.l (locs xs),a∈U.l:=λa ha=>by obtain⟨n,_,q⟩:=Gm ha;exact eG q
 obtain⟨r,er,hr⟩:=x.more;have er:U1.l=adr U.l (locs xs)++r:=er;refine⟨⟨⟨[],by simp,by simp⟩,λa h=>x.qx a h,λa h=>x.kE a h,λa o h t n=>x.frame a o h t λz=>n (aq a z),x.stay⟩,?_⟩;refine⟨by rw[Gn];exact hS.len,λn o a e1 e2=>?_,hS.uniq,λa ha=>x.qx a (hS.lz a ha),r1.zt⟩;have e2:U.l[n]?=some a:=e2;by_cases eE:n∈locs xs
 ·obtain⟨i,hi,ei⟩:=zx eE;have ei:(locs xs)[i]?=some n:=by rw[cZ hi,ei]
  have ha:(adr U.l (locs xs))[i]?=some a:=by rw[Kr ht ei];exact e2
  have Ku:U1.l[i]?=some a:=by rw[er,pB (dW.mp ha).1];exact ha
  have cH:i<s1.length:=by rw[<-r1.len];exact(dW.mp Ku).1
  have hb:=zd1 (s:=s) (s1:=s1) hn ei (cZ cH) (by rw[<-hS.len];exact(dW.mp e2).1);rw[hb] at e1;cases e1;exact lq.zl (r1.obj i _ a (cZ cH) Ku) _
 ·rw[Uc eE] at e1;have Ud:a∉adr U.l (locs xs):=λz=>by
   obtain⟨m,q1,q2⟩:=Gm z;have:n=m:=(QW (dW.mp e2).1 hS.uniq).mp (e2.trans q2.symm);exact eE (this▸q1)
  exact(hS.obj n o a e1 e2).map (λ_ t q=>x.frame a _ q t Ud) λ_ _ r=>Rep.zl ((Rep.zl r _).mono x λa ha=>hS.lz a (aq a ha)) _
theorem zeI{F:List Xv->M Xv}{xs:List Xv}{vs:List V}{Q:VK}{EE:Nat->List D->Ph->Hp->Prop}(hS:aD K cA U H s)(r:aQ K cA U H xs vs)
  (hE:∀c fs U1 U2 H',U1.z=U2.z->EE c fs U1 H'->EE c fs U2 H')
  (h:Run K cA (cO F xs) U H s (λx _ U' H'=>∀v,aU K cA U' H' x v->Q v H') (λc fs _ U' H'=>EE c fs U' H')) :
  ∃U0 s0,aQ K cA U0 H (dN 0 xs) vs/\aD K cA U0 H s0/\Run K cA (F (dN 0 xs)) U0 H s0 (λx _ U' H'=>∀v,aU K cA U' H' x v->Q v H') (λc fs _ U' H'=>EE c fs U' H'):=by
 unfold Run cO at h;by_cases hn:(locs xs).Nodup
 ·simp only[if_pos hn] at h;have ht:=zeX r;have aq:∀a∈adr U.l (locs xs),a∈U.l:=λa ha=>by obtain⟨n,_,q⟩:=Gm ha;exact eG q
  cases e0:jG s (locs xs) with
  |none=>simp only[e0] at h
  |some s0=>
   simp only[e0] at h;refine⟨⟨U.z,adr U.l (locs xs)⟩,s0,zf4 _ _ 0 r rfl (λi n e=>by rw[Nat.zero_add];exact Kr ht e),?_,?_⟩
   ·refine⟨by rw[zep e0];exact Ks ht,λi o a e1 e2=>?_,zdb hS.uniq hn ht,λa ha=>hS.lz a (aq a ha),hS.zt⟩;have e2:(adr U.l (locs xs))[i]?=some a:=e2;have hi:i<(locs xs).length:=by rw[<-Ks ht];exact(dW.mp e2).1
    have ei:(locs xs)[i]?=some ((locs xs)[i]):=cZ hi;rw[Kr ht ei] at e2;rw[(zen e0 ei).1] at e1;exact lq.zl (hS.obj _ o a e1 e2) _
   ·unfold Run;cases e1:F (dN 0 xs) s0 with
    |none=>simp only[e1] at h
    |some q=>
     obtain⟨q,s1⟩:=q;simp only[e1] at h;cases q with
     |er c fs=>
      intro U1 H' x r1;obtain⟨x2,r2⟩:=zdo (s0:=s0) hS hn ht x r1;exact hE c fs ⟨U1.z,U.l⟩ U1 H' rfl (h ⟨U1.z,U.l⟩ H' x2 r2)
     |ok y=>
      intro U1 H' x r1 v rv;obtain⟨x2,r2⟩:=zdo (s0:=s0) hS hn ht x r1;cases y with
      |d w=>
       cases rv with
       |d rv=>exact h ⟨U1.z,U.l⟩ H' x2 r2 v (.d (Rep.zl rv _))
      |l n=>
       cases rv with
       |@l _ a hl=>
        obtain⟨rr,er,hr⟩:=x.more;have er:U1.l=adr U.l (locs xs)++rr:=er;cases em:(locs xs)[n]? with
        |some m=>
         simp only[em] at h;refine h _ H' x2 r2 _ (.l ?_);show U.l[m]?=some a;have ha:(adr U.l (locs xs))[n]?=U.l[m]?:=Kr ht em;have cH:n<(adr U.l (locs xs)).length:=by rw[Ks ht];exact(dW.mp em).1
         rw[er,pB cH] at hl;rw[<-ha];exact hl
        |none=>
         simp only[em] at h;have wL:(adr U.l (locs xs)).length<=n:=by rw[Ks ht];exact qJ.mp em
         have FZ:a∈rr:=by
          rw[er,pK wL] at hl;exact eG hl
         have Ud:a∉U.l:=λz=>by
          obtain⟨o,eo⟩:=hS.zt a (hS.lz a z);rw[hr a FZ] at eo;cases eo
         cases eo:s1[n]? with
         |none=>simp only[eo] at h
         |some o=>
          simp only[eo] at h;have ho:=r1.obj n o a eo hl;refine h ⟨U1.z,U.l++[a]⟩ H' ⟨⟨[a],rfl,by simpa using hr a FZ⟩,x2.qx,x2.kE,x2.frame,x2.stay⟩ ?_ _ (.l (by show (U.l++[a])[s.length]?=_;rw[<-hS.len];simp));refine⟨by show (U.l++[a]).length=_;rw[mj,mj,Gn,hS.len];rfl,λm o' a' e1 e2=>?_,?_,λb hb=>?_,r1.zt⟩
          ·have e2:(U.l++[a])[m]?=some a':=e2;by_cases hm:m<s.length
           ·rw[pB (by rw[Gn];exact hm)] at e1;rw[pB (by rw[hS.len];exact hm)] at e2;exact lq.zl (r2.obj m o' a' e1 e2) _
           ·have vf:m=s.length:=by
             have z:=(dW.mp e2).1;rw[mj,hS.len] at z;simp at z
             lia
            subst vf;rw[pK (by rw[Gn];exact bQ _)] at e1;rw[pK (by rw[hS.len];exact bQ _)] at e2;simp[Gn] at e1;simp[hS.len] at e2;subst e1 e2;exact lq.zl ho _
          ·show (U.l++[a]).Nodup;rw[Hu];refine⟨hS.uniq,by simp,λb hb c hc e=>?_⟩;simp at hc;subst hc e;exact Ud hb
          ·have hb:b∈U.l++[a]:=hb;rcases mC.mp hb with z|z
           ·exact x2.qx b (hS.lz b z)
           ·simp at z;subst z;exact r1.lz _ (eG hl)
 ·simp only[if_neg hn] at h
end
section
variable {X:Cx}{cA:Cl}{aq:Nat->Nat->Bool}{aj:Bool}{F:Fn}{EX:XS}{a b c d e o:Expr}{A B C Dd E' O:E}{pos pp p2 apos cpos:Pos}{es:List Expr}{Xs:Es}{fz:Bool}{p:Pr}{x:Str}{U:Ph}{H:Hp}{s:S}
theorem Ue{K:W.Frag}{β:Type}{x:Xv}{v:V}{k:Nat×List D->M β}{P:β->S->Ph->Hp->Prop}{Ee:Nat->List D->S->Ph->Hp->Prop}(hS:aD K cA U H s)(r:aU K cA U H x v)(h:Run K cA (M.bd (cX x) k) U H s P Ee) :
  ∃n ad xs vs,x=.l n/\v=.ref ad/\s[n]?=some (.lst xs)/\U.l[n]?=some ad/\H ad=some (.lst vs)/\aC K cA U H xs vs/\Run K cA (k (n,xs)) U H s P Ee:=by
 cases r with
 |d _=>exact h.elim
 |@l n ad hl=>
  unfold Run M.bd cX at h;dsimp only at h;cases e:s[n]? with
  |none=>rw[e] at h;exact h.elim
  |some o=>
   rw[e] at h;cases o with
   |lst xs=>
    obtain⟨vs,q1,q2⟩:=hS.obj n _ _ e hl;exact⟨n,ad,xs,vs,rfl,rfl,e,hl,q1,q2,h⟩
   |_=>exact h.elim
theorem zi0(ho:SE X cA aq aj F EX o O)(ha:SE X cA aq aj F EX a A)
  (n_:attributeBase o "append" X.env (eval o X.env)=eval o X.env:=by rfl)
  (Cp:((backTo cpos (starEach [a] X.env)).all (λx=>!x.1)&&(backToKw cpos (keywordEach [] X.env)).all (λx=>x.1.isSome)
  &&decide ([a].length+([]:List Keyword).length+(if ([]:List Keyword).isEmpty then 0 else 1)<30))=true:=by rfl)
  (oh:(apos.endLine==cpos.line)=true:=by rfl) (hs:starEach [a] X.env=(false,eval a X.env)::starEach [] X.env:=by rfl) (p8:(backTo cpos (starEach [] X.env)).any (·.1)=false:=by rfl) :
  SE X cA aq aj F EX (.Call (.Attribute o "append" apos) [a] [] cpos) (.push O A):=PE.weak (zm0 PySem.F.plainAttrs_list PySem.F.slot_list_append PySem.F.type_list_append R8 ho (sy ha yd hs) n_ Cp oh hs p8) λZ H Q hh=>un hh λU J s hL hS h=>by
 refine bw hL hS h λx H1 U1 d1 s1 x1 hL1 aJ r1 h1=>?_;obtain⟨n,ad,xs,vs,rfl,rfl,e1,f1,g1,q1,h2⟩:=Ue aJ r1 h1;refine⟨.inl ⟨rfl,vs,cV.of g1⟩,bw hL1 aJ h2 λy H2 U2 d2 s2 x2 hL2 aR r2 h3=>?_⟩;obtain⟨dd,_,rd,h4⟩:=Oj r2 h3;obtain⟨n',ad',ys,us,en,ea,e2,f2,g2,q2,h5⟩:=Ue aR (r1.mono x2 aJ.lz) h4;cases en;cases ea;by_cases hz:ys.length<sizeLine
 ·have h5:Run X.K cA (M.bd (putL n (ys++[dd])) λ_=>M.ret (Xv.d .non)) U2 H2 s2 (λd _ U' H'=>∀v,aU X.K cA U' H' d v->Q v H') (eX X.K cA EX Z):=by
   have h6:Run X.K cA (if ys.length<sizeLine then M.bd (putL n (ys++[dd])) λ_=>M.ret (Xv.d .non) else M.no) U2 H2 s2 (λd _ U' H'=>∀v,aU X.K cA U' H' d v->Q v H') (eX X.K cA EX Z):=h5;rw[if_pos hz] at h6;exact h6
  refine⟨ad,us,y,rfl,rfl,g2,by rw[<-q2.len];exact hz,?_⟩;exact h5 U2 _ (Ext.write f2 ⟨_,g2⟩) (aR.write e2 f2 (q2.app (.cons rd .nil))) _ (.d .non)
 ·have h6:Run X.K cA (if ys.length<sizeLine then M.bd (putL n (ys++[dd])) λ_=>M.ret (Xv.d .non) else M.no) U2 H2 s2 (λd _ U' H'=>∀v,aU X.K cA U' H' d v->Q v H') (eX X.K cA EX Z):=h5;rw[if_neg hz] at h6;exact h6.elim
noncomputable def lG(K:W.Frag)(cA:Cl)(m:List Xv->M Xv):Sp:=λvs H Q E=>∃U xs s,aQ K cA U H xs vs/\aD K cA U H s/\Run K cA (m xs) U H s (λd _ U' H'=>∀v,aU K cA U' H' d v->Q v H') (λc fs _ U' H'=>∀dx,kJ K cA U' H' c fs dx->E (.ref (cA.a c)) dx H')
theorem zjT{K:W.Frag}{U1 U2:Ph}{c:Nat}{fs:List D}{dx:Option Addr}(e:U1.z=U2.z)(h:kJ K cA U2 H c fs dx):kJ K cA U1 H c fs dx:=h.imp id λ⟨d,vs,a,b,c,l,r⟩=>⟨d,vs,a,by rw[e];exact b,c,l,r.kO λ_ z=>by rw[<-e];exact z⟩
theorem zjd{cm:Bool}{k f:Nat}{fa:Addr}{fd:FuncData}{ps:List Str}(Fo:cB X.prog X.w X.K X.mg X.base (fB X.prog X.w) cm k fa fd ps (lG X.K cA (F f)))(je:cm=true->X.aj=true)(hr:bB k X.A)(hg:Gl X x)(hm:X.mg x=some (.ref fa))(hk:PySem.W.keepIn X.K (.ref fa)=true)(hb:Binds X.K fd ps [])(R:Raises X EX)
  (ha:SA X cA aq aj F EX (e::es) Xs) (sG:(x==("__debug__" : Str))=false:=by decide) (he:starEach (e::es) X.env=(false,eval e X.env)::starEach es X.env:=by rfl) (cT:(backTo pos (starEach es X.env)).any (·.1)=false:=by rfl) :
  SE X cA aq aj F EX (.Call (.Name x pp) (e::es) [] pos) (.call f Xs):=PE.weak (zhv Fo je hr hg hm hk hb R ha sG he cT) λZ H Q hh=>un hh λU J s hL hS h=>
 qy hL hS h λvs H1 U1 ds s1 x1 hL1 aJ r1 h1=>by
  obtain⟨U0,s0,a1,a2,a3⟩:=zeI (EE:=λc fs U' H'=>∀dx,kJ X.K cA U' H' c fs dx->EX Z (.ref (cA.a c)) dx H') aJ r1 (λc fs U1 U2 H' ez z dx q=>z dx (zjT ez q)) h1;exact⟨U0,_,s0,a1,a2,a3⟩
end
section
variable {K:W.Frag}{cA:Cl}{U U':Ph}{H H':Hp}{s:S}
def cL(U:Ph)(H H':Hp):Prop:=∀a o,H a=some o->¬U.z a->H' a=some o
mutual
theorem Rep.out(x:cL U H H'):∀{d:D} {v:V},Rep K cA U H d v->Rep K cA U H' d v
 |_,_,.non=>.non
 |_,_,.bl b=>.bl b
 |_,_,.int i=>.int i
 |_,_,.str z=>.str z
 |_,_,.tup h r=>.tup (h.imp (λ⟨p,n⟩=>⟨p.imp (λq=>x _ _ q n) λ⟨o,q⟩=>⟨o,x _ _ q n⟩,n⟩) id) (aC.out x r)
 |_,_,.fl h r=>.fl (h.imp (λ⟨p,n⟩=>⟨p.imp (λq=>x _ _ q n) λ⟨o,q⟩=>⟨o,x _ _ q n⟩,n⟩) id) (aC.out x r)
 |_,_,.fd h n=>.fd (x _ _ h n) n
 |_,_,.exc h r=>.exc ⟨h.1,h.2.imp (λ⟨a,b,q⟩=>⟨a,b,x _ _ q h.1⟩) λ⟨dx,p,n,q,l⟩=>⟨dx,x _ _ p h.1,n,x _ _ q n,l⟩⟩ (aC.out x r)
 |_,_,.any v=>.any v
 |_,_,.ob h r=>.ob ⟨h.1,let ⟨dx,p,l⟩:=h.2;⟨dx,x _ _ p h.1,l⟩⟩ (aC.out x r)
theorem aC.out(x:cL U H H'):∀{ds:List D} {vs:List V},aC K cA U H ds vs->aC K cA U H' ds vs
 |_,_,.nil=>.nil
 |_,_,.cons h r=>.cons (Rep.out x h) (aC.out x r)
end
theorem aU.out(x:cL U H H'){d:Xv}{v:V}(h:aU K cA U H d v):aU K cA U H' d v:=by
 cases h with
 |d h=>exact .d (h.out x)
 |l h=>exact .l h
theorem aX.out(x:cL U H H')(h:aX K cA U H Z J):aX K cA U H' Z J:=⟨h.1,λi d e=>let ⟨v,a,b⟩:=h.2 i d e;⟨v,a,b.out x⟩⟩
theorem cL.refl:cL U H H:=λa o e _=>e
structure jK(K:W.Frag)(cA:Cl)(c:Src)(U:Ph)(H:Hp)(aZ:L2.It):Prop where
 stop:∀U' H₁ H' s' i,Ext U H U' H₁->cL U' H₁ H'->aD K cA U' H' s'->c.at i s'=some none->aZ.stop i H'
 go:∀U' H₁ H' s' i x,Ext U H U' H₁->cL U' H₁ H'->aD K cA U' H' s'->c.at i s'=some (some x)->aZ.go i H'
 uD:∀U' H₁ H' s' i x v H2,Ext U H U' H₁->cL U' H₁ H'->aD K cA U' H' s'->c.at i s'=some (some x)->aZ.uD i H' v H2->bC H' H2/\Rep K cA U' H2 x v
theorem LstAt.later(hz:∀a∈U.l,U.z a)(h:LstAt K U H a vs)(x:Ext U H U' H₁)(o:cL U' H₁ H'):LstAt K U' H' a vs:=
 (h.mono x hz).imp (λ⟨p,n⟩=>⟨p.imp (λq=>o _ _ q n) λ⟨w,q⟩=>⟨w,o _ _ q n⟩,n⟩) id
theorem TupAt.later(hz:∀a∈U.l,U.z a)(h:TupAt K U H a vs)(x:Ext U H U' H₁)(o:cL U' H₁ H'):TupAt K U' H' a vs:=
 (h.mono x hz).imp (λ⟨p,n⟩=>⟨p.imp (λq=>o _ _ q n) λ⟨w,q⟩=>⟨w,o _ _ q n⟩,n⟩) id
theorem jK.list(hz:∀a∈U.l,U.z a)(h:LstAt K U H a vs)(r:aC K cA U H xs vs):jK K cA (.fix xs) U H (Ny K a):=by
 refine⟨λU' H₁ H' s' i x o hS e=>⟨vs,(h.later hz x o).sW,?_⟩,λU' H₁ H' s' i d x o hS e=>?_,λU' H₁ H' s' i d v H2 x o hS e y=>?_⟩
 ·have e:xs[i]?=none:=cI e;exact qJ.mp ((r.mono x hz).none e)
 ·have e:xs[i]?=some d:=cI e;obtain⟨v,q,_⟩:=r.get e;exact⟨vs,v,(h.later hz x o).sW,q⟩
 ·have e:xs[i]?=some d:=cI e;obtain⟨rfl,y⟩:=y;obtain⟨w,q,lE⟩:=((r.mono x hz).out o).get e;have:=y vs (h.later hz x o).sW;rw[q] at this;cases this;exact⟨bC.refl,lE⟩
theorem jK.tuple(hz:∀a∈U.l,U.z a)(h:TupAt K U H a vs)(r:aC K cA U H xs vs):jK K cA (.fix xs) U H (Rx K a):=by
 refine⟨λU' H₁ H' s' i x o hS e=>⟨vs,(h.later hz x o).jH,?_⟩,λU' H₁ H' s' i d x o hS e=>?_,λU' H₁ H' s' i d v H2 x o hS e y=>?_⟩
 ·have e:xs[i]?=none:=cI e;exact qJ.mp ((r.mono x hz).none e)
 ·have e:xs[i]?=some d:=cI e;obtain⟨v,q,_⟩:=r.get e;exact⟨vs,v,(h.later hz x o).jH,q⟩
 ·have e:xs[i]?=some d:=cI e;obtain⟨rfl,y⟩:=y;obtain⟨w,q,lE⟩:=((r.mono x hz).out o).get e;have:=y vs (h.later hz x o).jH;rw[q] at this;cases this;exact⟨bC.refl,lE⟩
theorem Ug(h:(Src.live n).at i s=some o):∃xs,s[n]?=some (.lst xs)/\xs[i]?=o:=by
 unfold Src.at at h;dsimp only at h;cases e:s[n]? with
 |none=>rw[e] at h;cases h
 |some ob=>
  rw[e] at h;cases ob with
  |lst xs=>exact⟨xs,rfl,cI h⟩
  |_=>cases h
theorem jK.live(h:U.l[n]?=some a):jK K cA (.live n) U H (Ny K a):=by
 refine⟨λU' H₁ H' s' i x o hS e=>?_,λU' H₁ H' s' i d x o hS e=>?_,λU' H₁ H' s' i d v H2 x o hS e y=>?_⟩
 ·obtain⟨xs,e1,e2⟩:=Ug e;obtain⟨vs,q1,q2⟩:=hS.obj n _ a e1 (x.get h);exact⟨vs,cV.of q1,qJ.mp (q2.none e2)⟩
 ·obtain⟨xs,e1,e2⟩:=Ug e;obtain⟨vs,q1,q2⟩:=hS.obj n _ a e1 (x.get h);obtain⟨v,q3,_⟩:=q2.get e2;exact⟨vs,v,cV.of q1,q3⟩
 ·obtain⟨xs,e1,e2⟩:=Ug e;obtain⟨vs,q1,q2⟩:=hS.obj n _ a e1 (x.get h);obtain⟨w,q3,lE⟩:=q2.get e2;obtain⟨rfl,y⟩:=y;have:=y vs (cV.of q1);rw[q3] at this;cases this;exact⟨bC.refl,lE⟩
theorem Uh:(jF a b)[i]?=if i<(b-a).toNat then some (.int (a+i)) else none:=by
 unfold jF;rw[gM,List.getElem?_range']
where
 List.getElem?_range' {n i:Nat}:Option.map (λ(i:Nat)=>D.int (a+i)) (List.range n)[i]?=if i<n then some (.int (a+i)) else none:=by
  by_cases h:i<n
  ·rw[if_pos h,Eu h];rfl
  ·rw[if_neg h,List.getElem?_eq_none (by simp;lia)];rfl
theorem jK.range{a b:Int}:jK K cA (.fix (jF a b)) U H (Iz a (b-a).toNat):=by
 refine⟨λU' H₁ H' s' i x o hS e=>?_,λU' H₁ H' s' i d x o hS e=>?_,λU' H₁ H' s' i d v H2 x o hS e y=>?_⟩
 ·have e:(jF a b)[i]?=none:=cI e;rw[Uh] at e;split at e
  ·cases e
  ·exact M8 (by assumption)
 ·have e:(jF a b)[i]?=some d:=cI e;rw[Uh] at e;split at e
  ·assumption
  ·cases e
 ·have e:(jF a b)[i]?=some d:=cI e;rw[Uh] at e;split at e
  ·cases e;obtain⟨rfl,rfl⟩:=y;exact⟨bC.refl,.int _⟩
  ·cases e
end
noncomputable def Ui(K:W.Frag)(te:TE):TI:=λZ H R=>te Z H λv H1=>∃a,v=.ref a/\(((∃xs,cV K H1 a xs)/\R (Ny K a) H1)\/((∃xs,gR K H1 a xs)/\R (Rx K a) H1))
theorem zlU(he:PE X l te):PI X tg l (Ui X.K te):=by
 intro ao s Z H R I h;refine aW (he ao s Z H _ I h) λv s1 hx=>Q5 hx λx H1 I1 r1 a e q=>?_;subst e;cases r1;rcases q with ⟨⟨xs,hq⟩,q⟩|⟨⟨xs,hq⟩,q⟩
 ·obtain⟨its,rv,p,hz⟩:=I1.list hq;refine M6 p.isList ?_;refine⟨s1.heap.objs.size,[s1.heap.objs.size],_,_,H1,rfl,I1.kept (t':=s1.toks) λb o e=>cj _ e,zfV a _,⟨_,eN _ rfl,rfl,rfl⟩,λb hb=>?_,q⟩;have e:b=s1.heap.objs.size:=by simpa using hb
  subst e;exact I1.uE (bQ _) (I1.hok.fresh (bQ _))
 ·obtain⟨its,rv,p,hz⟩:=I1.tuple hq;refine wpAny_pyIter_tuple (show s1.heap.IsTuple a its.toArray from p) ?_;refine⟨s1.heap.objs.size,[s1.heap.objs.size],_,_,H1,rfl,I1.kept (t':=s1.toks) λb o e=>cj _ e,zfh a _,⟨_,eN _ rfl,rfl,rfl⟩,λb hb=>?_,q⟩;have e:b=s1.heap.objs.size:=by simpa using hb
  subst e;exact I1.uE (bQ _) (I1.hok.fresh (bQ _))
section
variable {X:Cx}{cA:Cl}{aq:Nat->Nat->Bool}{aj:Bool}{F:Fn}{EX:XS}{a b tg:Expr}{A B:E}{pos pp:Pos}
noncomputable def tI(K:W.Frag)(cA:Cl)(EX:XS)(m:Vs->M (Src×Nat)):TI:=λZ H R=>∃U J s,aX K cA U H Z J/\aD K cA U H s/\Run K cA (m J) U H s (λcn _ U1 H1=>∀aZ,jK K cA cn.1 U1 H1 aZ->R aZ H1) (eX K cA EX Z)
def SI(X:Cx)(cA:Cl)(aq:Nat->Nat->Bool)(aj:Bool)(F:Fn)(EX:XS)(tg iter:Expr)(w:Wk):Prop:=PI X tg iter (tI X.K cA EX (jg aq aj F w))
theorem PI.weak{iter:Expr}{t t':TI}(h:PI X tg iter t)(f:∀Z H Q,t' Z H Q->t Z H Q):PI X tg iter t':=λao s Z H Q I q=>h ao s Z H Q I (f Z H Q q)
theorem zlM(ha:SE X cA aq aj F EX a A):SI X cA aq aj F EX tg a (.seq A):=PI.weak (zlU ha) λZ H R hh=>un hh λU J s hL hS h=>by
 refine bw hL hS h λv H1 U1 d s1 x1 hL1 aJ r1 h1=>?_;cases r1 with
 |@l n ad hl=>
  unfold Run src at h1;dsimp only at h1;cases e:s1[n]? with
  |none=>rw[e] at h1;exact h1.elim
  |some o=>
   rw[e] at h1;cases o with
   |lst xs=>
    obtain⟨vs,q1,q2⟩:=aJ.obj n _ _ e hl;exact⟨ad,rfl,.inl ⟨⟨vs,cV.of q1⟩,h1 U1 H1 Ext.refl aJ _ (jK.live hl)⟩⟩
   |_=>exact h1.elim
 |d r1=>
  cases r1 with
  |tup q r=>exact⟨_,rfl,.inr ⟨⟨_,q.jH⟩,h1 U1 H1 Ext.refl aJ _ (jK.tuple aJ.lz q r)⟩⟩
  |fl q r=>exact⟨_,rfl,.inl ⟨⟨_,q.sW⟩,h1 U1 H1 Ext.refl aJ _ (jK.list aJ.lz q r)⟩⟩
  |_=>exact h1.elim
theorem zeH{i:Int}(h:gq i=true) : -(2^62)<=i/\i<2^62:=by
 unfold gq at h;rw[gG,Fb,Fb] at h;exact⟨by lia,h.2⟩
theorem ziu{K:W.Frag}{U:Ph}{H:Hp}{s:S}{i j:Int}{P:Src×Nat->S->Ph->Hp->Prop}{Ee:Nat->List D->S->Ph->Hp->Prop}(hS:aD K cA U H s)(h:Run K cA (if (gq i&&gq j)=true then M.ret (Src.fix (jF i j),(jF i j).length) else M.no) U H s P Ee):(-(2^62)<=i/\i<2^62/\-(2^62)<=j/\j<2^62)/\P (.fix (jF i j),(jF i j).length) s U H:=by
 by_cases hk:(gq i&&gq j)=true
 ·rw[if_pos hk] at h;rw[gG] at hk;obtain⟨a,b⟩:=zeH hk.1;obtain⟨c,d⟩:=zeH hk.2;exact⟨⟨a,b,c,d⟩,h.bH hS⟩
 ·rw[if_neg hk] at h;exact h.elim
theorem zm8(qz:Gl X "range")(hmg:X.mg "range"=none)(ha:SE X cA aq aj F EX a A)(hb:SE X cA aq aj F EX b B)(h1:starEach [a,b] X.env=(false,eval a X.env)::starEach [b] X.env)(h2:starEach [b] X.env=(false,eval b X.env)::starEach [] X.env) :
  SI X cA aq aj F EX tg (.Call (.Name "range" pp) [a,b] [] pos) (.rg A B):=PI.weak (zgl qz hmg (sy ha (sy hb yd h2) h1) (by rw[h1,h2];rfl) (by rw[h2];rfl)) λZ H R hh=>un hh λU J s hL hS h=>by
 refine bw hL hS h λx H1 U1 d1 s1 x1 hL1 aJ r1 h1=>bw hL1 aJ h1 λy H2 U2 d2 s2 x2 hL2 aR r2 h2=>?_;obtain⟨i,_,e1,h3⟩:=Dj (r1.mono x2 aJ.lz) h2;obtain⟨j,_,e2,h4⟩:=Dj r2 h3;obtain⟨hz,q⟩:=ziu aR h4;subst e1 e2;exact⟨i,j,rfl,hz,q _ jK.range⟩
theorem zmi(qz:Gl X "range")(hmg:X.mg "range"=none)(hb:SE X cA aq aj F EX b B)(h2:starEach [b] X.env=(false,eval b X.env)::starEach [] X.env) :
  SI X cA aq aj F EX tg (.Call (.Name "range" pp) [b] [] pos) (.rg (.c (.int 0)) B):=PI.weak (zfQ qz hmg (sy hb yd h2) (by rw[h2];rfl)) λZ H R hh=>un hh λU J s hL hS h=>by
 have h:Run X.K cA (M.bd (ev aq aj F B J) λy=>M.bd (int (.d (.int 0))) λi=>M.bd (int y) λj=>if (gq i&&gq j)=true then M.ret (Src.fix (jF i j),(jF i j).length) else M.no) U H s _ _:=h;refine bw hL hS h λy H2 U2 d2 s2 x2 hL2 aR r2 h2=>?_;obtain⟨j,_,e2,h4⟩:=Dj r2 (show Run X.K cA (M.bd (int d2) λj=>if (gq 0&&gq j)=true then M.ret (Src.fix (jF 0 j),(jF 0 j).length) else M.no) U2 H2 s2 _ _ from h2);obtain⟨hz,q⟩:=ziu aR h4;subst e2;refine⟨j,rfl,hz.2.2.1,hz.2.2.2,q _ ?_⟩;have:=jK.range (K:=X.K) (cA:=cA) (U:=U2) (H:=H2) (a:=0) (b:=j);rw[Int.sub_zero] at this;exact this
end
section
variable {K:W.Frag}{cA:Cl}{U U' U0:Ph}{H H' H0:Hp}{s:S}
theorem Run.bd0(x:Ext U0 H0 U H)(h:Run K cA (M.bd m k) U0 H0 s P Ee) :
  Run K cA m U H s (λa s1 U1 H1=>Ext U H U1 H1/\aD K cA U1 H1 s1/\Run K cA (k a) U0 H0 s1 P Ee) Ee:=by
 unfold Run M.bd at *;cases e:m s with
 |none=>rw[e] at h;exact h
 |some r=>
  obtain⟨r,s1⟩:=r;rw[e] at h;cases r with
  |er c f=>exact λU1 H1 x1 r1=>h U1 H1 (x.trans x1) r1
  |ok a=>exact λU1 H1 x1 r1=>⟨x1,r1,h⟩
theorem Kv{α β:Type}{m:M α}{k:α->M β}{P:β->S->Ph->Hp->Prop}{Ee Ee':Nat->List D->S->Ph->Hp->Prop}(x:Ext U0 H0 U H)(h:Run K cA (M.bd (M.qt m) k) U0 H0 s P Ee) :
  Run K cA m U H s (λa s1 U1 H1=>Ext U H U1 H1/\aD K cA U1 H1 s1/\Run K cA (k a) U0 H0 s1 P Ee) Ee':=by
 have h2:=h.bd0 x;unfold Run at h2 ⊢;unfold M.qt at h2;cases e:m s with
 |none=>rw[e] at h2;exact h2
 |some r=>
  obtain⟨r,s1⟩:=r;rw[e] at h2;cases r with
  |ok a=>exact h2
  |er c f=>exact h2.elim
theorem Uj{α β:Type}{m m':M α}{k:α->M β}{P:β->S->Ph->Hp->Prop}{Ee:Nat->List D->S->Ph->Hp->Prop}(e:m s=m' s)(h:Run K cA (M.bd m k) U H s P Ee):Run K cA (M.bd m' k) U H s P Ee:=by
 unfold Run M.bd at *;rw[<-e];exact h
end
section
variable {X:Cx}{cA:Cl}{aq:Nat->Nat->Bool}{aj:Bool}{F:Fn}{EX:XS}{elt iter tg:Expr}{A B:E}{pos p:Pos}{ifs:List Expr}{scope:Scope}{N:List Str}{cond:Eo}{fr aO:List Nat}{many:Nat}{fz:Bool}{w:Wk}
def Gp(X:Cx)(cA:Cl)(aq:Nat->Nat->Bool)(aj:Bool)(F:Fn)(EX:XS)(ifs:List Expr)(m:Eo):Prop:=FW X ifs (rC X.K cA EX (oO aq aj F m))
theorem zlg:Gp X cA aq aj F EX [] .no:=λao s Z H Q I ⟨U,J,st,hL,hS,h⟩=>zi6 ao s Z H Q I (h.bH hS)
theorem zkh(h:ST X cA aq aj F EX c C):Gp X cA aq aj F EX [c] (.yes C):=zjh h
structure gA(K:W.Frag)(cA:Cl)(g:TG)(aO:List Nat):Prop where
 run:∀(U:Ph) (H:Hp) (s:S) (Z:L2.St) (J J':Vs) (d:D) (v:V) (Q:L2.St->Hp->Prop),aX K cA U H Z J->aD K cA U H s->Rep K cA U H d v->dZ aO d J=some J'->
  (∀Z',aX K cA U H Z' J'->Z'.length=Z.length->(∀i,i∉aO->Z'[i]?=Z[i]?)->Q Z' H)->g v Z H Q
theorem nF{K:W.Frag}(i:Nat):gA K cA (dM i) [i] where
 run:=λU H s Z J J' d v Q hL hS r e k=>by
  cases e;exact k _ (hL.set (.d r)) (pP ..) λj hj=>qK (by simpa using λz=>hj (by simp[z]))
theorem Ou{K:W.Frag}(i j:Nat):gA K cA (uy K 2 (iM (dM i) (iM (dM j) ux))) [i,j] where
 run:=λU H s Z J J' d v Q hL hS r e k=>by
  have e:(kj d).bind (λds=>gw [i,j] (ds.map Xv.d) J)=some J':=e;obtain⟨ds,e1,e2⟩:=zm.mp e;cases r with
  |@tup ad xs vs h1 h2=>
   have e1:xs=ds:=cI e1;subst e1;cases h2 with
   |nil=>cases e2
   |cons r1 t1=>
    cases t1 with
    |nil=>cases e2
    |cons r2 t2=>
     cases t2 with
     |nil=>
      have e2:=cI e2;subst e2;refine⟨ad,_,rfl,h1.jH,rfl,_,_,rfl,_,_,rfl,rfl,k _ ((hL.set (.d r1)).set (.d r2)) (by rw[pP,pP]) λm hm=>?_⟩;rw[qK (λz=>hm (by simp[z])),qK (λz=>hm (by simp[z]))]
     |cons r3 t3=>cases e2
  |_=>cases e1
noncomputable def bI(many:Nat)(fr:List Nat)(Z:L2.St):L2.St:=List.replicate many none++fr.map λj=>(Z[j]?).join
theorem zft{U:Ph}{H:Hp}{Z:L2.St}{J:Vs}(hL:aX X.K cA U H Z J){Z':L2.St}(hl:Z'.length=many+fr.length)(hf:∀(i:Nat) j v,fr[i]?=some j->Z[j]?=some (some v)->Z'[many+i]?=some (some v)):aX X.K cA U H Z' (blk many fr J):=by
 refine⟨by unfold blk;simp[hl],λi d e=>?_⟩;unfold blk at e;by_cases hi:i<many
 ·rw[pB (by simpa using hi),Ay,if_pos hi] at e;cases e
 ·rw[pK (by simpa using M8 hi),Hg,gM] at e;cases z:fr[i-many]? with
  |none=>rw[z] at e;cases e
  |some j=>
   rw[z] at e;have e3:J[j]?.join=some d:=by simpa using e
   obtain⟨v,q1,q2⟩:=hL.2 j d (Om e3);refine⟨v,?_,q2⟩;have:=hf (i-many) j v z q1;rw[show many+(i-many)=i by omega] at this;exact this
structure fD(U:Ph)(H:Hp)(Dd:Addr)(o:HO):Prop where
 at_:H Dd=some o
 nl:Dd∉U.l
 z:U.z Dd
 t:NT o:=by exact trivial
abbrev Keep(U:Ph)(H:Hp)(Dd:Addr)(vs:List V):Prop:=fD U H Dd (.lst vs)
theorem fD.mono{U U':Ph}{H H':Hp}{Dd:Addr}{o:HO}(x:Ext U H U' H')(k:fD U H Dd o):fD U' H' Dd o:=by
 refine⟨x.frame _ _ k.at_ k.t k.nl,λz=>?_,x.qx _ k.z,k.t⟩;obtain⟨r,er,hr⟩:=x.more;rw[er] at z;rcases mC.mp z with z|z
 ·exact k.nl z
 ·have:=hr _ z;rw[k.at_] at this;cases this
theorem fD.ext{U:Ph}{H:Hp}{Dd:Addr}{o u:HO}(k:fD U H Dd o)(tu:NT u:=by exact trivial):(∀a o,H a=some o->¬U.z a->(upd H Dd u) a=some o)/\fD U (upd H Dd u) Dd u:=
 ⟨λa o e n=>by rw[bT (λz=>n (by rw[z];exact k.z))];exact e,iJ,k.nl,k.z,tu⟩
end
section
variable {K:W.Frag}{cA:Cl}{U U':Ph}{H H':Hp}
theorem aD.keep{s:S}{Dd:Addr}{o u:HO}(h:aD K cA U H s)(k:fD U H Dd o)(tu:NT u:=by exact trivial):aD K cA U (upd H Dd u) s:=by
 have x:cL U H (upd H Dd u):=(k.ext tu).1;refine⟨h.len,λn o a e1 e2=>?_,h.uniq,h.lz,λa z=>?_⟩
 ·have na:a≠Dd:=λy=>k.nl (by rw[<-y];exact eG e2);exact(h.obj n o a e1 e2).map (λ_ _ q=>by rw[bT na];exact q) λ_ _ r=>r.out x
 ·by_cases e:a=Dd
  ·subst e;exact⟨_,iJ⟩
  ·obtain⟨o,q⟩:=h.zt a z;exact⟨o,by rw[bT e];exact q⟩
theorem Ext.keep{U1:Ph}{H1:Hp}{Dd:Addr}{vs:List V}{u:HO}(x:Ext U1 H1 U H)(hD:H1 Dd=none):Ext U1 H1 U (upd H Dd u):=by
 refine⟨x.more,x.qx,x.kE,λa o h t n=>?_,λa o h=>?_⟩
 ·rw[bT (λz=>by rw[z,hD] at h;cases h)];exact x.frame a o h t n
 ·rw[bT (λz=>by rw[z,hD] at h;cases h)];exact x.stay a o h
theorem zdh{U1:Ph}{H1:Hp}{s':S}{fz:Bool}{acc:List D}{vs:List V}{Dd:Addr}{Q:VK}{Ee:Nat->List D->S->Ph->Hp->Prop}(h:Run K cA (newL fz acc) U1 H1 s' (λd _ U' H'=>∀v,aU K cA U' H' d v->Q v H') Ee)
  (x2:Ext U1 H1 U' H') (hD:H1 Dd=none) (nz:¬U1.z Dd) (aR:aD K cA U' H' s') (k:Keep U' H' Dd vs) (pG:aC K cA U' H' acc vs):Q (.ref Dd) H':=by
 cases fz with
 |true=>
  have zq:∀a,(λa=>U'.z a/\a≠Dd) a->U'.z a:=λa z=>z.1;refine h ⟨λa=>U'.z a/\a≠Dd,U'.l⟩ H' ⟨x2.more,λa z=>⟨x2.qx a z,λe=>nz (by rw[<-e];exact z)⟩,λa z=>x2.kE a z.1,x2.frame,x2.stay⟩ ?_ _ (.d (.fl (.inl ⟨.inl k.at_,λz=>z.2 rfl⟩) (aC.kO (U:=U') zq pG)));refine⟨aR.len,λn o a e1 e2=>lq.kO (U:=U') zq (aR.obj n o a e1 e2),aR.uniq,λa ha=>⟨aR.lz a ha,λe=>k.nl (by rw[<-e];exact ha)⟩,λa z=>aR.zt a z.1⟩
 |false=>
  obtain⟨r,er,hr⟩:=x2.more;refine h ⟨U'.z,U'.l++[Dd]⟩ H' ⟨⟨r++[Dd],by show U'.l++[Dd]=_;rw[er,M7],λb hb=>?_⟩,x2.qx,x2.kE,x2.frame,x2.stay⟩ ?_ _ (.l (by show (U'.l++[Dd])[s'.length]?=_;rw[<-aR.len];simp))
  ·rcases mC.mp hb with z|z
   ·exact hr b z
   ·simp at z;subst z;exact hD
  ·refine⟨by show (U'.l++[Dd]).length=_;rw[mj,mj,aR.len];rfl,λm o' a' e1 e2=>?_,?_,λb hb=>?_,aR.zt⟩
   ·have e2:(U'.l++[Dd])[m]?=some a':=e2;by_cases hm:m<s'.length
    ·rw[pB hm] at e1;rw[pB (by rw[aR.len];exact hm)] at e2;exact lq.zl (aR.obj m o' a' e1 e2) _
    ·have vf:m=s'.length:=by
      have z:=(dW.mp e2).1;rw[mj,aR.len] at z;simp at z;omega
     subst vf;rw[pK (bQ _)] at e1;rw[pK (by rw[aR.len];exact bQ _)] at e2;simp at e1;simp[aR.len] at e2;subst e1 e2;exact⟨vs,k.at_,aC.zl pG _⟩
   ·show (U'.l++[Dd]).Nodup;rw[Hu];refine⟨aR.uniq,by simp,λb hb c hc e=>?_⟩;simp at hc;subst hc e;exact k.nl hb
   ·have hb:b∈U'.l++[Dd]:=hb;rcases mC.mp hb with z|z
    ·exact aR.lz b z
    ·simp at z;subst z;exact k.z
noncomputable def Ph.mark(U:Ph)(p:Addr):Ph:=⟨λa=>U.z a\/a=p,U.l⟩
theorem zcp{s:S}{p:Addr}(hS:aD K cA U H s)(hp:H p=none):Ext U H (U.mark p) (upd H p (.lst []))/\aD K cA (U.mark p) (upd H p (.lst [])) s/\Keep (U.mark p) (upd H p (.lst [])) p []:=by
 have g:=bC.new (o:=.lst []) hp;have nz:=hS.nz hp;refine⟨⟨⟨[],by simp[Ph.mark],by simp⟩,λa z=>.inl z,λa z=>z.imp id λe=>by rw[e];exact hp,λa o h _ _=>g a o h,λa o h=>⟨o,g a o h⟩⟩,⟨hS.len,λn o a e1 e2=>?_,hS.uniq,λa ha=>.inl (hS.lz a ha),λa z=>?_⟩,iJ,λz=>nz (hS.lz p z),.inr rfl,trivial⟩
 ·have x:Ext U H (U.mark p) (upd H p (.lst [])):=⟨⟨[],by simp[Ph.mark],by simp⟩,λa z=>.inl z,λa z=>z.imp id λe=>by rw[e];exact hp,λa o h _ _=>g a o h,λa o h=>⟨o,g a o h⟩⟩;exact(hS.obj n o a e1 e2).map (λu _=>g _ u) λ_ _ r=>r.mono x hS.lz
 ·rcases z with z|z
  ·obtain⟨o,e⟩:=hS.zt a z;exact⟨o,g _ _ e⟩
  ·subst z;exact⟨_,iJ⟩
end
section
variable {X:Cx}{cA:Cl}{aq:Nat->Nat->Bool}{aj:Bool}{F:Fn}{EX:XS}{elt iter tg:Expr}{A B:E}{pos p:Pos}{ifs:List Expr}{scope:Scope}{N:List Str}{cond:Eo}{fr aO:List Nat}{many:Nat}{fz:Bool}{w:Wk}
noncomputable abbrev bU(aq:Nat->Nat->Bool)(aj:Bool)(F:Fn)(B:E)(cond:Eo)(aO:List Nat)(Jb:Vs):D->List D->M (List D):=λd acc=>M.bd (M.opt (dZ aO d Jb)) λJ'=>M.bd (M.qt (oO aq aj F cond J')) λok=>
    if ok=true then M.bd (M.qt (ev aq aj F B J')) λy=>M.bd (dat y) λe=>if acc.length<sizeLine then M.ret (acc++[e]) else M.no else M.ret acc
theorem Gq{H:Hp}{a:Addr}{o:HO}(h:H a=some o):upd H a o=H:=funext λb=>by
 by_cases z:b=a
 ·subst z;rw[iJ,h]
 ·rw[bT z]
theorem zg1{K:W.Frag}{g:TG}{U1 U':Ph}{H1 H2:Hp}{s':S}{Z':L2.St}{Jb:Vs}{Dd:Addr}{acc:List D}{vs:List V}{xi:D}{v:V}{β:Type}{kk:List D->M β}{P:β->S->Ph->Hp->Prop}{Ee:Nat->List D->S->Ph->Hp->Prop}(hT:gA K cA g aO)(eE:∀i∈aO,i<many)
  (hD:H1 Dd=none) (x2:Ext U1 H1 U' H2) (hL2:aX K cA U' H2 Z' Jb) (aR:aD K cA U' H2 s') (kp:Keep U' H2 Dd vs) (pG:aC K cA U' H2 acc vs) (rx:Rep K cA U' H2 xi v)
  (h:Run K cA (M.bd (bU aq aj F B cond aO Jb xi acc) kk) U1 H1 s' P Ee) {Nn:L2.St->Hp->Prop}
  (hN:∀Z3 H3 U3 s3 m8 yI,Z3.length=Z'.length->(∀i,many<=i->Z3[i]?=Z'[i]?)->Ext U1 H1 U3 H3->Ext U' H2 U3 (upd H3 Dd (.lst vs))->aD K cA U3 H3 s3->Keep U3 H3 Dd yI->aC K cA U3 H3 m8 yI->Run K cA (kk m8) U1 H1 s3 P Ee->Nn Z3 H3) :
  g v Z' H2 λZ3 H3=>rC K cA (λ_ _ _ _=>False) (oO aq aj F cond) Z3 H3 λok H4=>
   if ok=true then tE K cA (λ_ _ _ _=>False) (ev aq aj F B) Z3 H4 λy H5=>∃ys,H5 Dd=some (.lst ys)/\ys.length<sizeLine/\Nn Z3 (upd H5 Dd (.lst (ys++[y]))) else Nn Z3 H4:=by
 unfold bU at h;rw[gW] at h;obtain⟨J',e1,h1⟩:=Run.m7 h;refine hT.run U' H2 s' Z' Jb J' xi v _ hL2 aR rx e1 λZ3 oU Dl Gs=>?_;rw[gW] at h1;have kf:∀i,many<=i->Z3[i]?=Z'[i]?:=λi hi=>Gs i λz=>absurd (eE i z) (Fw.mpr hi);refine⟨U',J',s',oU,aR,(Kv x2 h1).imp λok s4 U4 H4 ⟨x4,rE,h6⟩=>?_⟩;cases ok with
 |false=>
  refine iF (hN Z3 H4 U4 s4 acc vs Dl kf (x2.trans x4) (by rw[Gq (kp.mono x4).at_];exact x4) rE (kp.mono x4) (pG.mono x4 aR.lz) ?_);rw[if_neg Tc] at h6;exact h6
 |true=>
  rw[if_pos rfl,gW] at h6;refine iT ⟨U4,J',s4,oU.mono x4 aR.lz,rE,(Kv (x2.trans x4) h6).imp λy s5 U5 H5 ⟨x5,Kw,h7⟩ u ru=>?_⟩;rw[gW] at h7;have k5:=(kp.mono x4).mono x5;have r5:=(pG.mono x4 aR.lz).mono x5 rE.lz;have Uk:=(x2.trans x4).trans x5;obtain⟨dd,ey,rd,h8⟩ : ∃d,y=.d d/\Rep K cA U5 H5 d u/\Run K cA (M.bd (if acc.length<sizeLine then M.ret (acc++[d]) else M.no) kk) U1 H1 s5 P Ee:=by
   cases ru with
   |l _=>exact h7.elim
   |d r=>exact⟨_,rfl,r,h7⟩
  by_cases hz:acc.length<sizeLine
  ·rw[if_pos hz] at h8;refine⟨vs,k5.at_,by rw[<-r5.len];exact hz,?_⟩;have ox:cL U5 H5 (upd H5 Dd (.lst (vs++[u]))):=k5.ext.1;exact hN Z3 _ U5 s5 (acc++[dd]) (vs++[u]) Dl kf (Ext.keep (vs:=vs) Uk hD) (by rw[Yc,Gq k5.at_];exact x4.trans x5) (Kw.keep k5) k5.ext.2 ((r5.app (.cons rd .nil)).out ox) h8
  ·rw[if_neg hz] at h8;exact h8.elim
theorem zdi{g:TG}{iter':Expr}(hT:gA X.K cA g aO)(eE:∀i∈aO,i<many){Z:L2.St}{H:Hp}{Q:VK}(hh:tE X.K cA EX (ev aq aj F (.comp fz B aO w fr many cond)) Z H Q) :
  uN (tI X.K cA EX (jg aq aj F w)) (bI many fr) g (rC X.K cA (λ_ _ _ _=>False) (oO aq aj F cond)) (tE X.K cA (λ_ _ _ _=>False) (ev aq aj F B)) Z H Q:=un hh λU J s hL hS h=>by
 by_cases dj:aj=true
 ·have h:Run X.K cA (if aj=true then M.bd (jg aq aj F w J) λcn=>M.bd (walk cn.1 (bU aq aj F B cond aO (blk many fr J)) (cn.2+1) 0 []) λxs=>newL fz xs else M.no) U H s (λd _ U' H'=>∀v,aU X.K cA U' H' d v->Q v H') (eX X.K cA EX Z):=h;rw[if_pos dj] at h;refine⟨U,J,s,hL,hS,h.bd.imp λcn s1 U1 H1 ⟨x1,aJ,h1⟩ aZ hJ=>?_⟩;have hL1:=hL.mono x1 hS.lz;obtain⟨c,n⟩:=cn;dsimp only at h1 hJ;intro Dd hD;obtain⟨x0,Ul,k0⟩:=zcp aJ hD;have Dm:∀{Z':L2.St},(Z'.length=many+fr.length/\∀i,many<=i->Z'[i]?=(bI many fr Z)[i]?)->∀{U' H'},Ext U1 H1 U' H'->aX X.K cA U' H' Z' (blk many fr J):=λ{Z'} hZ {U' H'} x=>zft (hL1.mono x aJ.lz) hZ.1 λi j v e1 e2=>by
   rw[hZ.2 _ (by omega)];unfold bI;rw[pK Zaa,Hg,gM,show many+i-many=i by omega,e1];simp[e2]
  refine⟨λi m Z' H'=>m=n+1-i/\(Z'.length=many+fr.length/\∀i,many<=i->Z'[i]?=(bI many fr Z)[i]?)/\∃U' s' acc vs,Ext U1 H1 U' H'/\aD X.K cA U' H' s'/\Keep U' H' Dd vs/\aC X.K cA U' H' acc vs /\
   Run X.K cA (M.bd (walk c (bU aq aj F B cond aO (blk many fr J)) (n+1-i) i acc) λxs=>newL fz xs) U1 H1 s' (λd _ U' H'=>∀v,aU X.K cA U' H' d v->Q v H') (eX X.K cA EX Z),⟨n+1,rfl,⟨by simp[bI],λi _=>rfl⟩,U1.mark Dd,s1,[],[],x0,Ul,k0,.nil,h1⟩,?_⟩
  rintro i m Z' H' ⟨rfl,hZ,U',s',acc,vs,x2,aR,kp,pG,h3⟩;have hL2:=Dm hZ x2;cases ek:n+1-i with
  |zero=>rw[ek] at h3;exact h3.elim
  |succ k=>
   rw[ek] at h3;cases ei:c.at i s' with
   |none=>
    exfalso
    unfold Run M.bd walk at h3;simp only[ei] at h3
   |some oi=>
    cases oi with
    |none=>
     refine .inl ⟨hJ.stop U' H' H' s' i x2 cL.refl aR ei,?_⟩;have h4:Run X.K cA (newL fz acc) U1 H1 s' (λd _ U' H'=>∀v,aU X.K cA U' H' d v->Q v H') (eX X.K cA EX Z):=by
      unfold Run M.bd walk at h3;simp only[ei] at h3;exact h3
     exact zdh h4 x2 hD (aJ.nz hD) aR kp pG
    |some xi=>
     refine .inr ⟨hJ.go U' H' H' s' i xi x2 cL.refl aR ei,λZ2 H2=>(Z2.length=many+fr.length/\∀i,many<=i->Z2[i]?=(bI many fr Z)[i]?)/\∃U' s' acc vs,Ext U1 H1 U' H2/\aD X.K cA U' H2 s'/\Keep U' H2 Dd vs/\aC X.K cA U' H2 acc vs /\
      Run X.K cA (M.bd (walk c (bU aq aj F B cond aO (blk many fr J)) k (i+1) acc) λxs=>newL fz xs) U1 H1 s' (λd _ U' H'=>∀v,aU X.K cA U' H' d v->Q v H') (eX X.K cA EX Z),λZ2 H2 hn=>⟨k,by omega,by omega,hn.1,?_⟩,λv H2 hy=>?_⟩
     ·have:n+1-(i+1)=k:=by omega
      rw[this];exact hn.2
     ·obtain⟨gr,rx⟩:=hJ.uD U' H' H' s' i xi v H2 x2 cL.refl aR ei hy;have h4:Run X.K cA (M.bd (bU aq aj F B cond aO (blk many fr J) xi acc) λacc'=>M.bd (walk c (bU aq aj F B cond aO (blk many fr J)) k (i+1) acc') λxs=>newL fz xs) U1 H1 s' (λd _ U' H'=>∀v,aU X.K cA U' H' d v->Q v H') (eX X.K cA EX Z):=by
       have h5:=Uj (m':=M.bd (bU aq aj F B cond aO (blk many fr J) xi acc) λacc'=>walk c (bU aq aj F B cond aO (blk many fr J)) k (i+1) acc') (by rw[walk];simp only[ei]) h3;rw[gW] at h5;exact h5
      exact zg1 hT eE hD (x2.trans gr.ext) (hL2.mono gr.ext aR.lz) (aR.grow gr) (kp.mono gr.ext) (pG.mono gr.ext aR.lz) rx h4 λZ3 H3 U3 s3 m8 yI l3 f3 x3 _ gO k3 r3 h6=>⟨⟨l3.trans hZ.1,λi hi=>(f3 i hi).trans (hZ.2 i hi)⟩,U3,s3,m8,yI,x3,gO,k3,r3,h6⟩
 ·have h:Run X.K cA (if aj=true then M.bd (jg aq aj F w J) λcn=>M.bd (walk cn.1 (bU aq aj F B cond aO (blk many fr J)) (cn.2+1) 0 []) λxs=>newL fz xs else M.no) U H s (λd _ U' H'=>∀v,aU X.K cA U' H' d v->Q v H') (eX X.K cA EX Z):=h;rw[if_neg dj] at h;exact h.elim
theorem Um{XN:List Str}(qY:∀(i:Nat) (y:Str) (j:Nat),N[many+i]?=some y->fr[i]?=some j->scope.names.lookup y=some .free/\XN[j]?=some y)(Z:L2.St)(i:Nat)(x:Str)(v:V)(e1:N[i]?=some x)(e2:(bI many fr Z)[i]?=some (some v)):scope.names.lookup x=some .free/\∃j:Nat,XN[j]?=some x/\Z[j]?=some (some v):=by
 unfold bI at e2;by_cases hi:i<many
 ·rw[pB (by simpa using hi),Ay,if_pos hi] at e2;cases e2
 ·rw[pK (by simpa using M8 hi),Hg,gM] at e2;cases z:fr[i-many]? with
  |none=>rw[z] at e2;cases e2
  |some j=>
   rw[z] at e2;have e3:(Z[j]?).join=some v:=by simpa using e2
   obtain⟨a1,a2⟩:=qY (i-many) x j (by rw[show many+(i-many)=i by omega];exact e1) z;exact⟨a1,j,a2,Om e3⟩
theorem zfL{g:TG}(hc:X.aj=true)(B':cN X.env.scope scope)(hi:SI X cA aq aj F EX tg iter w)(hN:N.length=many+fr.length)
  (qY:∀(i:Nat) (y:Str) (j:Nat),N[many+i]?=some y->fr[i]?=some j->scope.names.lookup y=some .free/\X.N[j]?=some y)
  (hg:∀cl C s3 H3 fp ao,PG (X.blk scope cl N C s3 H3 fp ao) tg g) (hT:gA X.K cA g aO) (eE:∀i∈aO,i<many)
  (ht:∀cl C s3 H3 fp ao,Gp (X.blk scope cl N C s3 H3 fp ao) cA aq aj F (λ_ _ _ _=>False) ifs cond) (he:∀cl C s3 H3 fp ao,SE (X.blk scope cl N C s3 H3 fp ao) cA aq aj F (λ_ _ _ _=>False) elt B)
  (hs:∀x,foldedSetIterable iter X.env x=pure x:=by intro _;rfl):SE X cA aq aj F EX (.ListComp elt [⟨tg,iter,ifs,0⟩] scope pos) (.comp fz B aO w fr many cond):=
 PE.weak (zj4 hc B' hi (⟨hg,ht,he⟩ : Parts X elt tg ifs scope N g (rC X.K cA (λ_ _ _ _=>False) (oO aq aj F cond)) (tE X.K cA (λ_ _ _ _=>False) (ev aq aj F B))) (ZY:=bI many fr) (λZ=>by simp[bI,hN]) (λZ i x v e1 e2=>Um qY Z i x v e1 e2) hs) λZ H Q hh=>zdi (iter':=iter) hT eE hh
end
section
variable (K:W.Frag)(cA:Cl)
def aV(m:MS)(U:Ph)(H:Hp)(s:S)(D:Ends)(EX:XS):Prop:=match m s with
 |some (.nx J,s')=>∀U' H' Z',Ext U H U' H'->aD K cA U' H' s'->aX K cA U' H' Z' J->D.nx Z' H'
 |some (.bk J,s')=>∀U' H' Z',Ext U H U' H'->aD K cA U' H' s'->aX K cA U' H' Z' J->D.bk Z' H'
 |some (.ct J,s')=>∀U' H' Z',Ext U H U' H'->aD K cA U' H' s'->aX K cA U' H' Z' J->D.ct Z' H'
 |some (.rt d,s')=>∀U' H' v,Ext U H U' H'->aD K cA U' H' s'->aU K cA U' H' d v->D.rt v H'
 |some (.er c fs J,s')=>∀U' H' Z',Ext U H U' H'->aD K cA U' H' s'->aX K cA U' H' Z' J->∀dx,kJ K cA U' H' c fs dx->EX Z' (.ref (cA.a c)) dx H'
 |none=>False
noncomputable def tS(EX:XS)(m:Vs->MS):TS:=λD Z H=>∃U J s,aX K cA U H Z J/\aD K cA U H s/\aV K cA (m J) U H s D EX
end
section
variable {K:W.Frag}{cA:Cl}{U U':Ph}{H H':Hp}{s:S}{Z:L2.St}{J:Vs}{EX:XS}{D:Ends}
theorem aV.ext{m:MS}(x:Ext U H U' H')(h:aV K cA m U H s D EX):aV K cA m U' H' s D EX:=by
 unfold aV at *;split at h<;>first
  |exact λU2 H2 a y r l=>h U2 H2 a (x.trans y) r l
  |exact h.elim
theorem aV.ofM{α:Type}{m:M α}{k:α->MS}(hL:aX K cA U H Z J)(hz:∀a∈U.l,U.z a)(h:aV K cA (ofM m J k) U H s D EX):Run K cA m U H s (λa s1 U1 H1=>Ext U H U1 H1/\aD K cA U1 H1 s1/\aV K cA (k a) U1 H1 s1 D EX) (eX K cA EX Z):=by
 unfold aV Mi.ofM at h;unfold Run;cases e:m s with
 |none=>rw[e] at h;exact h
 |some r=>
  obtain⟨r,s1⟩:=r;rw[e] at h;cases r with
  |er c fs=>exact λU1 H1 x r=>h U1 H1 Z x r (hL.mono x hz)
  |ok a=>
   intro U1 H1 x r;refine⟨x,r,?_⟩;have h2:aV K cA (k a) U H s1 D EX:=h;exact h2.ext x
theorem aV.then_(h:aV K cA (cP m k) U H s D EX):aV K cA m U H s {D with nx:=λZ' H'=>∃U' J' s',aX K cA U' H' Z' J'/\aD K cA U' H' s'/\aV K cA (k J') U' H' s' D EX} EX:=by
 unfold aV cP at h;unfold aV;cases e:m s with
 |none=>rw[e] at h;exact h
 |some r=>
  obtain⟨r,s1⟩:=r;rw[e] at h;cases r with
  |nx J=>
   intro U1 H1 Z1 x r l;have h2:aV K cA (k J) U H s1 D EX:=h;exact⟨U1,J,s1,l,r,h2.ext x⟩
  |bk J=>exact h
  |ct J=>exact h
  |rt d=>exact h
  |er c fs J=>exact h
end
section
variable (X:Cx)(cA:Cl)(aq:Nat->Nat->Bool)(aj:Bool)(F:Bool->Fn)(EX:XS)
def SS(st:Stmt)(m:St):Prop:=PS X st (tS X.K cA EX (ex aq aj F m))
def wM(st:List Stmt)(m:bZ):Prop:=pW X st (tS X.K cA EX (exs aq aj F m))
end
section
variable {X:Cx}{cA:Cl}{aq:Nat->Nat->Bool}{aj:Bool}{F:Bool->Fn}{EX:XS}{a b c d e:Expr}{A B C:E}{pos p p2:Pos}{st:Stmt}{sts body orelse:List Stmt}{m:St}{ms mb me mh:bZ}{es:List Expr}{Xs:Es}{x y n:Str}{i j:Nat}
theorem PS.weak{t t':TS}(h:PS X st t)(f:∀D Z H,t' D Z H->t D Z H):PS X st t':=λao s Z H D I q=>h ao s Z H D I (f D Z H q)
theorem pW.weak{t t':TS}(h:pW X sts t)(f:∀D Z H,t' D Z H->t D Z H):pW X sts t':=λao s Z H D I q=>h ao s Z H D I (f D Z H q)
theorem zne:SS X cA aq aj F EX st .no:=λ_ _ _ _ _ _ ⟨_,_,_,_,_,h⟩=>h.elim
theorem zkl:wM X cA aq aj F EX [] .nil:=pW.weak Yo λD Z H hh=>un hh λU J s hL hS h=>h U H Z Ext.refl hS hL
theorem zhL(h1:SS X cA aq aj F EX st m)(h2:wM X cA aq aj F EX sts ms):wM X cA aq aj F EX (st::sts) (.cons m ms):=pW.weak (Yp h1 h2) λD Z H hh=>un hh λU J s hL hS h=>by
 have h:aV X.K cA (cP (ex aq aj F m J) λJ'=>exs aq aj F ms J') U H s D EX:=h;exact⟨U,J,s,hL,hS,h.then_⟩
theorem znK(ha:SE X cA aq aj (F aj) EX a A)(hs:swapsWith a none pos.line X.env=pure false:=by rfl):SS X cA aq aj F EX (.Expr a pos) (.ex A):=PS.weak (zi3 ha hs) λD Z H hh=>un hh λU J s hL hS h=>
 ⟨U,J,s,hL,hS,(aV.ofM hL hS.lz h).imp λd s1 U1 H1 ⟨x1,aJ,h1⟩ v rv=>h1 U1 H1 Z Ext.refl aJ (hL.mono x1 hS.lz)⟩
theorem zk5(ha:SE X cA aq aj (F aj) EX a A):SS X cA aq aj F EX (.Return (some a) pos) (.ret A):=PS.weak (zkY ha) λD Z H hh=>un hh λU J s hL hS h=>
 ⟨U,J,s,hL,hS,(aV.ofM hL hS.lz h).imp λd s1 U1 H1 ⟨x1,aJ,h1⟩ v rv=>h1 U1 H1 v Ext.refl aJ rv⟩
theorem zkE(hN:X.N.Nodup)(hi:X.N[i]?=some x)(hx:Loc X.env.scope x)(ha:SE X cA aq aj (F aj) EX a A)(hs:swapsWith a (some (.Name x p)) pos.line X.env=pure false:=by rfl)(hf:X.fn x=true\/X.env.scope.names.lookup x=some .local:=by first|exact .inl rfl|exact .inr rfl) :
  SS X cA aq aj F EX (.Assign [.Name x p] a pos) (.asg (.nm i) A):=PS.weak (zlZ hN hi hx ha hs hf) λD Z H hh=>un hh λU J s hL hS h=>
 ⟨U,J,s,hL,hS,(aV.ofM hL hS.lz h).imp λd s1 U1 H1 ⟨x1,aJ,h1⟩ v rv=>h1 U1 H1 _ Ext.refl aJ ((hL.mono x1 hS.lz).set rv)⟩
theorem Uo{k}(hc:X.aj=true)(hN:X.N.Nodup)(hi:X.N[i]?=some x)(hj:X.N[j]?=some y)(hx:Loc X.env.scope x)(hy:Loc X.env.scope y)(yJ:X.fn x=true\/X.env.scope.names.lookup x=some .local)(yK:X.fn y=true\/X.env.scope.names.lookup y=some .local) :
  PG X (.Tuple [.Name x px,.Name y py] k pos) (uy X.K 2 (iM (dM i) (iM (dM j) ux))):=zl2 hc (Yr (Nv hN hi hx yJ) (Yr (Nv hN hj hy yK) zjx))
theorem zc8{K:W.Frag}{U:Ph}{H:Hp}{s:S}{J:Vs}{Z:L2.St}{D:Ends}{d:Xv}{v:V}(dj:aj=true)(hL:aX K cA U H Z J)(hS:aD K cA U H s)(rv:aU K cA U H d v)(h:aV K cA (store aq aj (F aj) (.tp [i,j]) d J) U H s D EX):uy K 2 (iM (dM i) (iM (dM j) ux)) v Z H D.nx:=by
 have h:aV K cA (if aj=true then ofM (M.bd (dat d) λd=>M.opt ((kj d).bind λds=>gw [i,j] (ds.map Xv.d) J)) J (λJ' s=>some (Out.nx J',s)) else λ_=>none) U H s D EX:=h;rw[if_pos dj] at h;obtain⟨dd,e0,rd,h1⟩:=Oj rv (aV.ofM hL hS.lz h);obtain⟨J',e,_,aJ,h2⟩:=Run.opt hS h1;refine(Ou i j).run U H s Z J J' dd v _ hL hS rd e λZ' hL' _ _=>h2 U H Z' Ext.refl hS hL'
theorem ziR{k}(hc:X.aj=true)(dj:aj=true)(hN:X.N.Nodup)(hi:X.N[i]?=some x)(hj:X.N[j]?=some y)(hx:Loc X.env.scope x)(hy:Loc X.env.scope y)(yJ:X.fn x=true\/X.env.scope.names.lookup x=some .local)(yK:X.fn y=true\/X.env.scope.names.lookup y=some .local)(ha:SE X cA aq aj (F aj) EX a A)
  (hs:swapsWithSole [.Tuple [.Name x px,.Name y py] k pt] a pos.line X.env=pure false:=by rfl) (hw:swappedStores [.Tuple [.Name x px,.Name y py] k pt] a X.env=pure none:=by rfl)
  (h1:(assignEach [.Tuple [.Name x px,.Name y py] k pt] X.env).map (·.2)=[assign (.Tuple [.Name x px,.Name y py] k pt) X.env]:=by rfl) :
  SS X cA aq aj F EX (.Assign [.Tuple [.Name x px,.Name y py] k pt] a pos) (.asg (.tp [i,j]) A):=PS.weak (Ys ha (Uo hc hN hi hj hx hy yJ yK) hs hw h1) λD Z H hh=>un hh λU J s hL hS h=>
 ⟨U,J,s,hL,hS,(aV.ofM hL hS.lz h).imp λd s1 U1 H1 ⟨x1,aJ,h1⟩ v rv=>zc8 dj (hL.mono x1 hS.lz) aJ rv h1⟩
theorem zlK(hO:SE X cA aq aj (F aj) EX oo O)(hI:SE X cA aq aj (F aj) EX ii I')(ha:SE X cA aq aj (F aj) EX a A)
  (Uq:∀v,assign (.Subscript oo ii p) X.env v=(do
   let ov <-holding [v] (eval oo X.env)
   let iv <-holding [v,ov] (eval ii X.env)
   standAt p
   holding [v,ov,iv] (setItem ov iv v)
   release [v,ov,iv] []):=by intro _;rfl) (hs:swapsWithSole [.Subscript oo ii p] a pos.line X.env=pure false:=by rfl) (hw:swappedStores [.Subscript oo ii p] a X.env=pure none:=by rfl)
  (h1:(assignEach [.Subscript oo ii p] X.env).map (·.2)=[assign (.Subscript oo ii p) X.env]:=by rfl) :
  SS X cA aq aj F EX (.Assign [.Subscript oo ii p] a pos) (.asg (.aq O I') A):=PS.weak (Ys ha (zkH hO hI zg3 Uq) hs hw h1) λD Z H hh=>un hh λU J s hL hS h=>by
 refine⟨U,J,s,hL,hS,(aV.ofM hL hS.lz h).imp λd s1 U1 H1 ⟨x1,aJ,h1⟩ v rv=>?_⟩;obtain⟨dd,e0,rd,h2⟩:=Oj rv (aV.ofM (hL.mono x1 hS.lz) aJ.lz h1);refine bw (hL.mono x1 hS.lz) aJ h2 λxo H2 U2 d2 s2 x2 hL2 aR r2 h3=>bw hL2 aR h3 λyi H3 U3 d3 s3 x3 oU gO r3 h4=>?_;obtain⟨k,_,ek,h5⟩:=Dj r3 h4;obtain⟨n,ad,xs,vs,_,ea,e1,f1,g1,q1,h6⟩:=Ue gO (r2.mono x3 aR.lz) h5;subst ek ea;cases ej:L2.pF xs.length k with
 |none=>simp only[ej] at h6;exact h6.elim
 |some jj=>
  simp only[ej] at h6;refine⟨ad,vs,k,jj,rfl,rfl,g1,by rw[<-q1.len];exact ej,?_⟩;have rv3:=(rd.mono x2 aJ.lz).mono x3 aR.lz;have rE:=gO.write e1 f1 (q1.set rv3 jj);have x4:Ext U3 H3 U3 (upd H3 ad (.lst (vs.set jj v))):=Ext.write f1 ⟨_,g1⟩;obtain⟨_,_,h8⟩:=h6 U3 _ x4 rE;exact h8 U3 _ Z Ext.refl rE (oU.mono x4 gO.lz)
theorem zlC{kt k2 uz}(hc:X.aj=true)(dj:aj=true)(hN:X.N.Nodup)(hi:X.N[i]?=some x)(hj:X.N[j]?=some y)(qU:i≠j)(hx:X.env.scope.names.lookup x=some .local)(hy:X.env.scope.names.lookup y=some .local)
  (ha:SE X cA aq aj (F aj) EX a A) (hb:SE X cA aq aj (F aj) EX b B) (h1:starEach [a,b] X.env=(false,eval a X.env)::starEach [b] X.env) (h2:starEach [b] X.env=(false,eval b X.env)::starEach [] X.env)
  (hw:swappedStores [.Tuple [.Name x px,.Name y py] kt pt] (.Tuple [a,b] k2 uz) X.env=pure (some [x,y]))
  (hs:swapsWithSole [.Tuple [.Name x px,.Name y py] kt pt] (.Tuple [a,b] k2 uz) pos.line X.env=pure false:=by rfl) :
  SS X cA aq aj F EX (.Assign [.Tuple [.Name x px,.Name y py] kt pt] (.Tuple [a,b] k2 uz) pos) (.par i j A B):=PS.weak (zmH hc hN hi hj qU hx hy (sy ha (sy hb yd h2) h1) hw hs) λD Z H hh=>un hh λU J s hL hS h=>by
 have h:aV X.K cA (if aj=true then ofM (M.bd (ev aq aj (F aj) A J) λx=>M.bd (ev aq aj (F aj) B J) λy=>M.ret (x,y)) J (λxy s=>some (.nx ((J.set i (some xy.1)).set j (some xy.2)),s)) else λ_=>none) U H s D EX:=h;rw[if_pos dj] at h;refine bw hL hS (aV.ofM hL hS.lz h) λx H1 U1 d1 s1 x1 hL1 aJ r1 h1=>bw hL1 aJ h1 λy H2 U2 d2 s2 x2 hL2 aR r2 h2=>?_;obtain⟨_,_,h3⟩:=h2.bH aR;exact⟨x,y,rfl,h3 U2 H2 _ Ext.refl aR ((hL2.set (r1.mono x2 aJ.lz)).set r2)⟩
theorem zkz{pos':Pos}(hN:X.N.Nodup)(hi:X.N[i]?=some x)(hx:Loc X.env.scope x)(ha:SE X cA aq aj (F aj) EX a A)(hf:X.fn x=true\/X.env.scope.names.lookup x=some .local)(hr:PS X (.AugAssign (.Name x p) .Add a pos) (Iw i (tE X.K cA EX (ev aq aj (F aj) A)) (Yt λi j=>i+j))) :
  SS X cA aq aj F EX (.AugAssign (.Name x p) .Add a pos) (.aug i A):=PS.weak hr λD Z H hh=>un hh λU J s hL hS h=>by
 have h:=aV.ofM hL hS.lz h;obtain⟨xv,e,h1⟩:=Run.m7 h;obtain⟨v,q1,q2⟩:=hL.2 i xv (Om e);refine⟨v,q1,bw hL hS h1 λy H1 U1 d1 s1 x1 hL1 aJ r1 h2=>?_⟩;obtain⟨p1,_,e1,h3⟩:=Dj (q2.mono x1 hS.lz) h2;obtain⟨p2,_,e2,h4⟩:=Dj r1 h3;obtain⟨_,_,h5⟩:=h4.bH aJ;exact⟨p1,p2,e1,e2,h5 U1 H1 _ Ext.refl aJ (hL1.set (.d (.int _)))⟩
theorem znE(hc:ST X cA aq aj (F aj) EX c C)(ht:wM X cA aq aj F EX body mb)(he:wM X cA aq aj F EX orelse me):SS X cA aq aj F EX (.If c body orelse pos) (.iff C mb me):=PS.weak (znM hc ht he) λD Z H hh=>un hh λU J s hL hS h=>by
 refine⟨U,J,s,hL,hS,(aV.ofM hL hS.lz h).imp λk s1 U1 H1 ⟨x1,aJ,h1⟩=>?_⟩;cases k with
 |true=>exact iT ⟨U1,J,s1,hL.mono x1 hS.lz,aJ,h1⟩
 |false=>exact iF ⟨U1,J,s1,hL.mono x1 hS.lz,aJ,h1⟩
theorem ziM{g:TG}{elt iter tg:Expr}{ifs:List Expr}{scope:Scope}{N:List Str}{cond:Eo}{fr aO:List Nat}{many:Nat}{fz:Bool}{w:Wk}{spos py:Pos}(hc:X.aj=true)(rG:X.N.Nodup)(qg:X.N[i]?=some y)(hx:Loc X.env.scope y)(hf:X.fn y=true\/X.env.scope.names.lookup y=some .local)(B':cN X.env.scope scope)(hi:SI X cA aq aj (F aj) EX tg iter w)(hN:N.length=many+fr.length)
  (qY:∀(i:Nat) (y:Str) (j:Nat),N[many+i]?=some y->fr[i]?=some j->scope.names.lookup y=some .free/\X.N[j]?=some y)
  (hg:∀cl C s3 H3 fp ao,PG (X.blk scope cl N C s3 H3 fp ao) tg g) (hT:gA X.K cA g aO) (eE:∀i∈aO,i<many)
  (ht:∀cl C s3 H3 fp ao,Gp (X.blk scope cl N C s3 H3 fp ao) cA aq aj (F aj) (λ_ _ _ _=>False) ifs cond) (he:∀cl C s3 H3 fp ao,SE (X.blk scope cl N C s3 H3 fp ao) cA aq aj (F aj) (λ_ _ _ _=>False) elt B)
  (uO:swapsWith (.ListComp elt [⟨tg,iter,ifs,0⟩] scope pos) (some (.Name y py)) spos.line X.env=pure true) (hs:∀x,foldedSetIterable iter X.env x=pure x:=by intro _;rfl) :
  SS X cA aq aj F EX (.Assign [.Name y py] (.ListComp elt [⟨tg,iter,ifs,0⟩] scope pos) spos) (.asg (.nm i) (.comp fz B aO w fr many cond)):=
 PS.weak (zeT hc rG qg hx hf B' hi (⟨hg,ht,he⟩ : Parts X elt tg ifs scope N g (rC X.K cA (λ_ _ _ _=>False) (oO aq aj (F aj) cond)) (tE X.K cA (λ_ _ _ _=>False) (ev aq aj (F aj) B))) (ZY:=bI many fr) (λZ=>by simp[bI,hN]) (λZ i x v e1 e2=>Um qY Z i x v e1 e2) uO hs) λD Z H hh=>un hh λU J s hL hS h=>
  zdi (iter':=iter) hT eE ⟨U,J,s,hL,hS,(aV.ofM hL hS.lz h).imp λd s1 U1 H1 ⟨x1,aJ,h1⟩ v rv=>h1 U1 H1 _ Ext.refl aJ ((hL.mono x1 hS.lz).set rv)⟩
noncomputable def oV(m:MS)(kN:Vs->MS):MS:=λs=>match m s with
 |some (.nx J',s')=>kN J' s'
 |some (.ct J',s')=>kN J' s'
 |some (.bk J',s')=>some (.nx J',s')
 |r=>r
theorem Kag{K:W.Frag}{U:Ph}{H:Hp}{s:S}{D:Ends}{m:MS}{kN:Vs->MS}{N:L2.St->Hp->Prop}(hN:∀U' J' s' Z' H',Ext U H U' H'->aX K cA U' H' Z' J'->aD K cA U' H' s'->aV K cA (kN J') U' H' s' D EX->N Z' H')(h:aV K cA (oV m kN) U H s D EX) :
  aV K cA m U H s {D with nx:=N,ct:=N,bk:=D.nx} EX:=by
 unfold aV oV at h;unfold aV;cases e:m s with
 |none=>rw[e] at h;exact h
 |some r=>
  obtain⟨r,s1⟩:=r;rw[e] at h;cases r with
  |nx J'=>
   intro U1 H1 Z1 x r l;have h2:aV K cA (kN J') U H s1 D EX:=h;exact hN U1 J' s1 Z1 H1 x l r (h2.ext x)
  |ct J'=>
   intro U1 H1 Z1 x r l;have h2:aV K cA (kN J') U H s1 D EX:=h;exact hN U1 J' s1 Z1 H1 x l r (h2.ext x)
  |bk J'=>exact h
  |rt d=>exact h
  |er c fs J'=>exact h
theorem zhQ(hp:PassesOwn (model X.prog X.w) X.A X.env X.xe)(hc:ST X cA aq aj (F aj) EX c C)(hb:wM X cA aq aj F EX body mb):SS X cA aq aj F EX (.While c body [] pos) (.wh C mb):=PS.weak (zh7 hp hc hb) λD Z H hh=>un hh λU J s hL hS h=>by
 refine⟨λm Z H=>∃U J s,aX X.K cA U H Z J/\aD X.K cA U H s/\aV X.K cA (iz (λJ=>M.bd (ev aq aj (F aj) C J) bool) (λJ=>exs aq aj F mb J) m J) U H s D EX,⟨oR,U,J,s,hL,hS,h⟩,?_⟩;rintro m Z H ⟨U,J,s,hL,hS,h⟩;cases m with
 |zero=>exact h.elim
 |succ m=>
  refine⟨U,J,s,hL,hS,(aV.ofM (k:=λok=>if ok=true then oV (exs aq aj F mb J) (iz (λJ=>M.bd (ev aq aj (F aj) C J) bool) (λJ=>exs aq aj F mb J) m) else λs=>some (.nx J,s)) hL hS.lz h).imp λk s1 U1 H1 ⟨x1,aJ,h1⟩=>?_⟩;cases k with
  |true=>
   rw[if_pos rfl] at h1 ⊢;refine⟨_,λZ' H' z=>⟨m,Hv m,z⟩,U1,J,s1,hL.mono x1 hS.lz,aJ,Kag (λU' J' s' Z' H' _ l r q=>?_) h1⟩;exact⟨U',J',s',l,r,q⟩
  |false=>
   rw[if_neg Hr] at h1 ⊢;exact h1 U1 H1 Z Ext.refl aJ (hL.mono x1 hS.lz)
def SG(X:Cx)(cA:Cl)(aq:Nat->Nat->Bool)(aj:Bool)(F:Bool->Fn)(EX:XS)(tg:Expr)(t:Tg):Prop:=∃g:TG,PG X tg g/\∀(U:Ph) (H:Hp) (s:S) (Z:L2.St) (J:Vs) (d:Xv) (v:V) (D:Ends),aX X.K cA U H Z J->aD X.K cA U H s->aU X.K cA U H d v->
 aV X.K cA (store aq aj (F aj) t d J) U H s D EX->g v Z H D.nx
theorem ziX(hN:X.N.Nodup)(hi:X.N[i]?=some x)(hx:Loc X.env.scope x)(hf:X.fn x=true\/X.env.scope.names.lookup x=some .local:=by first|exact .inl rfl|exact .inr rfl):SG X cA aq aj F EX (.Name x pos) (.nm i):=
 ⟨_,Nv hN hi hx hf,λU H s Z J d v D hL hS r h=>h U H _ Ext.refl hS (hL.set r)⟩
theorem zjP{k}(hc:X.aj=true)(dj:aj=true)(hN:X.N.Nodup)(hi:X.N[i]?=some x)(hj:X.N[j]?=some y)(hx:Loc X.env.scope x)(hy:Loc X.env.scope y)(yJ:X.fn x=true\/X.env.scope.names.lookup x=some .local)(yK:X.fn y=true\/X.env.scope.names.lookup y=some .local) :
  SG X cA aq aj F EX (.Tuple [.Name x px,.Name y py] k pos) (.tp [i,j]):=
 ⟨_,Uo hc hN hi hj hx hy yJ yK,λU H s Z J d v D hL hS r h=>zc8 dj hL hS r h⟩
theorem zk6(hp:PassesOwn (model X.prog X.w) X.A X.env X.xe)(hc:X.aj=true)(dj:aj=true)(ha:SI X cA aq aj (F aj) EX tg a w)(hg:SG X cA aq aj F EX tg t)(hb:wM X cA aq aj F EX body mb)
  (hs:∀x,foldedSetIterable a X.env x=pure x:=by intro _;rfl):SS X cA aq aj F EX (.For tg a body [] pos) (.fr t w mb):=by
 obtain⟨g,hG,hg⟩:=hg;refine PS.weak (zlb hp hc ha hG hb hs) λD Z H hh=>un hh λU J s hL hS h=>?_;have h:aV X.K cA (if aj=true then ofM (jg aq aj (F aj) w J) J λcn=>dU cn.1 (λd J=>cP (store aq aj (F aj) t (.d d) J) λJ'=>exs aq aj F mb J') (cn.2+1) 0 J else λ_=>none) U H s D EX:=h;rw[if_pos dj] at h;refine⟨U,J,s,hL,hS,(aV.ofM hL hS.lz h).imp λcn s1 U1 H1 ⟨x1,aJ,h1⟩ aZ hJ=>?_⟩;have hL1:=hL.mono x1 hS.lz;obtain⟨c,n⟩:=cn;dsimp only at h1 hJ;refine⟨λi m Z' H'=>∃U' J' s',Ext U1 H1 U' H'/\aX X.K cA U' H' Z' J'/\aD X.K cA U' H' s'/\aV X.K cA (dU c (λd J=>cP (store aq aj (F aj) t (.d d) J) λJ'=>exs aq aj F mb J') m i J') U' H' s' D EX,⟨n+1,U1,J,s1,Ext.refl,hL1,aJ,h1⟩,?_⟩;rintro i m Z' H' ⟨U',J',s',x2,hL2,aR,h4⟩;cases m with
 |zero=>exact h4.elim
 |succ m=>
  cases ei:c.at i s' with
  |none=>
   exfalso
   unfold aV dU at h4;simp only[ei] at h4
  |some oi=>
   cases oi with
   |none=>
    refine .inl ⟨hJ.stop U' H' H' s' i x2 cL.refl aR ei,?_⟩;unfold aV dU at h4;simp only[ei] at h4;exact h4 U' H' Z' Ext.refl aR hL2
   |some xi=>
    refine .inr ⟨hJ.go U' H' H' s' i xi x2 cL.refl aR ei,_,λZ3 H3 z=>⟨m,Hv m,z⟩,λv H3 hy=>?_⟩;obtain⟨gr,rx⟩:=hJ.uD U' H' H' s' i xi v H3 x2 cL.refl aR ei hy;have h5:aV X.K cA (oV (cP (store aq aj (F aj) t (.d xi) J') λJ'=>exs aq aj F mb J') (dU c (λd J=>cP (store aq aj (F aj) t (.d d) J) λJ'=>exs aq aj F mb J') m (i+1))) U' H' s' D EX:=by
     unfold aV at h4 ⊢;have e:dU c (λd J=>cP (store aq aj (F aj) t (.d d) J) λJ'=>exs aq aj F mb J') (m+1) i J' s'=oV (cP (store aq aj (F aj) t (.d xi) J') λJ'=>exs aq aj F mb J') (dU c (λd J=>cP (store aq aj (F aj) t (.d d) J) λJ'=>exs aq aj F mb J') m (i+1)) s':=by
      rw[dU];simp only[ei];rfl
     rw[e] at h4;exact h4
    exact hg U' H3 s' Z' J' (.d xi) v _ (hL2.mono gr.ext aR.lz) (aR.grow gr) (.d rx) (aV.then_ (Kag (λU4 J4 s4 Z4 H4 x4 l4 r4 q4=>⟨U4,J4,s4,(x2.trans gr.ext).trans x4,l4,r4,q4⟩) (h5.ext gr.ext)))
end
end Mi
namespace L2
open PySem PySem.Spec PyProof.Rows
structure oW(K:W.Frag)(x qual:Str)(st:Stmt)(f:Addr)(fd:FuncData):Prop where
 ex:∃(oc:Value) (od:Option Addr) (kV doc pm:Value) (an:Option Addr) (cdv ct:Value) (osl:Array (Option Value)),
  fd=PySem.W.fnOf x qual (aY st) (aM st) (au st) .none kV doc pm an cdv ct/\K.lookup f=some ⟨oc,od,.func fd,osl⟩/\PySem.W.codeIn K cdv qual=true
 kp:PySem.W.keepIn K (.ref f)=true
end L2
namespace Mi
open PySem PySem.Spec PyProof.Rows L2
section
variable {P:Program}{w:World}{K:W.Frag}{mg:Str->Option Value}{base:Heap}{cA:Cl}{aq:Nat->Nat->Bool}{T:Nat->Option Df}
theorem Ur{U:Ph}{H:Hp}{N:List Str}{ds:List Xv}{vs:List V}{m p:Nat}(r:aQ K cA U H ds vs)(hp:p=ds.length)(hm:m=N.length):aX K cA U H (L2.start N vs) (ds.map some++List.replicate (m-p) none):=by
 subst hp hm;unfold L2.start;have hl:=r.len;refine⟨by simp[hl],λi d e=>?_⟩;by_cases hi:i<ds.length
 ·rw[pB (by simpa using hi),gM] at e;cases z:ds[i]? with
  |none=>rw[z] at e;cases e
  |some x=>
   rw[z] at e;cases e;obtain⟨v,a,b⟩:=r.get z;exact⟨v,by rw[pB (by simp;lia),gM,a];rfl,b⟩
 ·rw[pK (by simpa using hi),Ay] at e;split at e<;>cases e
theorem Ov{U:Ph}{H:Hp}{s:S}{ds:List Xv}{k n:Nat}{cm:Bool}{df:Df}{Q:VK}{E:XK}(hT:T n=some df)
  (h:Run K cA (call aq T (k+1) cm n ds) U H s (λd _ U' H'=>∀v,aU K cA U' H' d v->Q v H') (λc fs _ U' H'=>∀dx,kJ K cA U' H' c fs dx->E (.ref (cA.a c)) dx H')) :
  ds.length=df.iB/\aV K cA (exs aq cm (λc=>call aq T k c) df.body (ds.map some++List.replicate (df.many-df.iB) none)) U H s {nx:=λ_ H'=>Q .non H',rt:=Q} (λ_ C dx H'=>E C dx H'):=by
 unfold call at h;simp only[hT] at h;by_cases hl:ds.length=df.iB
 ·refine⟨hl,?_⟩;rw[if_pos hl] at h;unfold Run at h;unfold aV;cases e:exs aq cm (λc=>call aq T k c) df.body (ds.map some++List.replicate (df.many-df.iB) none) s with
  |none=>simp only[e] at h
  |some r=>
   obtain⟨r,s1⟩:=r;simp only[e] at h;cases r with
   |nx J=>exact λU' H' Z' x r l=>h U' H' x r _ (.d .non)
   |rt d=>exact λU' H' v x r rv=>h U' H' x r v rv
   |er c fs J=>exact λU' H' Z' x r l=>h U' H' x r
   |bk J=>exact h.elim
   |ct J=>exact h.elim
 ·rw[if_neg hl] at h;exact h.elim
theorem cY:cB P w K mg base (fB P w) cm 0 f fd ps (lG K cA (call aq T 0 cm n)):=
 ⟨λvs H Q E ⟨_,_,_,_,_,h⟩=>h.elim,λA outer s H args us vs Q E _ _ _ _ _ ⟨_,_,_,_,_,h⟩=>h.elim⟩
theorem zh8{x qual:Str}{st:Stmt}{f:Addr}{fd:FuncData}{N ps:List Str}{k n:Nat}{cm:Bool}{df:Df}(F:oW K x qual st f fd)(S:bV N ps (au st))(hT:T n=some df)(hp:df.iB=ps.length)(hm:df.many=N.length)
  (hb:∀(cdv:Value) (A:Around) (outer:List Env) (s:Shared) (H:Hp) (E:XK),bB (k+1) A->
   wM (dH (fB P w) P w K mg base N qual (au st) f cdv A outer s H E cm) cA aq cm (λc=>call aq T k c) (λ_ C dx H'=>E C dx H') (aM st) df.body) :
  cB P w K mg base (fB P w) cm (k+1) f fd ps (lG K cA (call aq T (k+1) cm n)):=by
 obtain⟨oc,od,kV,doc,pm,an,cdv,ct,osl,rfl,lk,iK⟩:=F.ex;refine RQ lk iK S (λvs H Q E ⟨U,ds,s,r,hS,h⟩=>?_) λA outer s H vs Q E hr ⟨U,ds,st',r,hS,h⟩=>?_
 ·rw[<-r.len,(Ov hT h).1,hp]
 ·obtain⟨hl,h2⟩:=Ov hT h;exact⟨_,hb cdv A outer s H E hr,U,_,st',Ur r hl.symm hm,hS,h2⟩
theorem zl1{x qual:Str}{st:Stmt}{f:Addr}{fd:FuncData}{N ps:List Str}{k n:Nat}{cm:Bool}{df:Df}(F:oW K x qual st f fd)(S:bV N ps (au st))(hT:T n=some df)(hp:df.iB=ps.length)(hm:df.many=N.length)
  (hb:∀(cdv:Value) (A:Around) (outer:List Env) (s:Shared) (H:Hp) (E:XK),bB k (A.deeper (envOfC qual (au st) s.heap.objs.size f cdv))->
   wM (dH (fB P w) P w K mg base N qual (au st) f cdv A outer s H E cm) cA aq cm (λc=>call aq T k c) (λ_ C dx H'=>E C dx H') (aM st) df.body) :
  cB P w K mg base (fB P w) cm (k+1) f fd ps (lG K cA (call aq T (k+1) cm n)):=zh8 F S hT hp hm λcdv A outer s H E hr=>hb cdv A outer s H E (hr.deeper _)
end
theorem zme{K:W.Frag}{cA:Cl}{m:List Xv->M Xv}{H:Hp}{a:Addr}{ns:List Int}(hq:cV K H a (ns.map V.int))(hm:∃s',m [.d (.fl (ns.map D.int))] []=some (.ok (.d (.bl true)),s')) :
  lG K cA m [.ref a] H (λv _=>v=.bl true) λ_ _ _=>False:=by
 have rs:∀(l:List Int) U,aC K cA U H (l.map D.int) (l.map V.int):=λl U=>by
  induction l with
  |nil=>exact .nil
  |cons i l ih=>exact .cons (.int i) ih
 have hl:LstAt K ⟨λ_=>False,[]⟩ H a (ns.map V.int):=by
  rcases hq with h|h
  ·exact .inl ⟨h,λz=>z⟩
  ·exact .inr (.inr h)
 refine⟨⟨λ_=>False,[]⟩,[.d (.fl (ns.map D.int))],[],.cons (.d (.fl hl (rs ns _))) .nil,⟨rfl,(λn o b e1 e2=>by simp at e1),Bl,(λb hb=>by cases hb),(λb z=>False.elim z)⟩,?_⟩;obtain⟨s',e⟩:=hm;unfold Run;rw[e];intro U' H' _ _ v rv;cases rv with
 |d rv=>cases rv;rfl
theorem zfN:Raises X (λ_ _ _ _=>False):=λ_ _ _ _ _ _ _ _ _ _ _ _ _ z=>z.elim
theorem yL(r:bB k A):A.units+60<cLine:=by have:=r.un;lia
noncomputable def aF:Expr->Bool
 |.Starred _ _=>false
 |_=>true
theorem bA(h:aF e=true):starEach (e::es) env=(false,eval e env)::starEach es env:=by
 cases e<;>first|rfl|cases h
theorem bD:∀{es:List Expr} {env:Env} {pos:Pos},es.all aF=true->(backTo pos (starEach es env)).any (·.1)=false
 |[],_,_,_=>rfl
 |e::es,env,pos,h=>by
  rw[Bq,gG] at h;rw[bA h.1];show (false||(backTo pos (starEach es env)).any (·.1))=false;rw[bD h.2];rfl
theorem rH:∀{es:List Expr} {env:Env} {pos:Pos},es.all aF=true->(backTo pos (starEach es env)).all (λx=>!x.1)=true
 |[],_,_,_=>rfl
 |e::es,env,pos,h=>by
  rw[Bq,gG] at h;rw[bA h.1];show (true&&(backTo pos (starEach es env)).all (λx=>!x.1))=true;rw[rH h.2];rfl
theorem yM(h1:aF e=true)(h2:es.all aF=true)(h3:decide (es.length<28)=true):((backTo pos (starEach (e::es) env)).all (λx=>!x.1)&&(backToKw pos (keywordEach [] env)).all (λx=>x.1.isSome)&&decide ((e::es).length+([]:List Keyword).length+(if ([]:List Keyword).isEmpty then 0 else 1)<30))=true:=by
 rw[rH (es:=e::es) (by rw[Bq,h1,h2];rfl)];have:=jU h3;have z:(e::es).length+([]:List Keyword).length+(if ([]:List Keyword).isEmpty then 0 else 1)<30:=by
  show es.length+1+0+0<30
  lia
 rw[gH z];rfl
noncomputable def sY(sc scope:Scope):Bool:=(match scope.kind with|.function=>true|_=>false)&&scope.names.all λy=>match y.2 with
 |.cell=>(match scope.names.lookup y.1 with|some .cell=>true|_=>false)
 |.free=>(match sc.names.lookup y.1 with|some .cell=>true|some .free=>true|_=>false)
 |.local=>(match scope.names.lookup y.1 with|some .local=>true|_=>false)
 |_=>true
theorem cN.of(h:sY sc scope=true):cN sc scope:=by
 unfold sY at h;rw[gG,jo] at h;obtain⟨h1,h2⟩:=h;refine⟨?_,λy hy z=>?_,λy hy z=>?_,λy hy z=>?_⟩
 ·split at h1
  ·assumption
  ·cases h1
 ·have:=h2 y hy;rw[z] at this;dsimp only at this;split at this
  ·assumption
  ·cases this
 ·have:=h2 y hy;rw[z] at this;dsimp only at this;split at this
  ·exact .inl (by assumption)
  ·exact .inr (by assumption)
  ·cases this
 ·have:=h2 y hy;rw[z] at this;dsimp only at this;split at this
  ·assumption
  ·cases this
noncomputable def frB(scope:Scope)(XN:List Str):List Str->List Nat->Bool
 |y::N,j::fr=>(match scope.names.lookup y with|some .free=>true|_=>false)&&decide (XN[j]?=some y)&&frB scope XN N fr
 |[],[]=>true
 |_,_=>false
theorem zit:∀{N:List Str} {fr:List Nat},frB scope XN N fr=true->N.length=fr.length/\∀(i:Nat) (y:Str) (j:Nat),N[i]?=some y->fr[i]?=some j->scope.names.lookup y=some .free/\XN[j]?=some y
 |[],[],_=>⟨rfl,λi y j h=>by simp at h⟩
 |[],_::_,h=>by cases h
 |_::_,[],h=>by cases h
 |y::N,j::fr,h=>by
  unfold frB at h;rw[gG,gG,Fb] at h;obtain⟨⟨h1,h2⟩,h3⟩:=h;obtain⟨l,q⟩:=zit h3;refine⟨by simp[l],λi z m e1 e2=>?_⟩;cases i with
  |zero=>
   simp at e1 e2;subst e1 e2;refine⟨?_,h2⟩;split at h1
   ·assumption
   ·cases h1
  |succ i=>exact q i z m (by simpa using e1) (by simpa using e2)
noncomputable def okN(x:Str):Bool:=!(x==("__debug__" : Str)) && !(x==("__classdict__" : Str)) && !decide (x="__name__")
theorem vg(h:okN x=true):(x==("__debug__" : Str))=false/\(x==("__classdict__" : Str))=false/\x≠"__name__":=by
 unfold okN at h;simp only[gG,Bool.not_eq_true',QF] at h;exact⟨h.1.1,h.1.2,h.2⟩
theorem Ox{env:Env}{k:NameKind}(hk:k≠.free):∀{names:List (Str×NameKind)} {x:Str},names.lookup x=some k->
  (names.map λ(n,k)=>if (k==NameKind.free&&env.scope.kind==.function&&env.kindOf n==some .cell) then (n,NameKind.cell) else (n,k)).lookup x=some k
 |[],x,h=>by simp at h
 |(n,q)::r,x,h=>by
  rw[pN] at h;rw[jV,pN];have hd:∀c:Bool,(if c=true then (n,NameKind.cell) else (n,q)).1=n:=λc=>by cases c<;>rfl
  rw[hd];by_cases z:x=n
  ·subst z;simp only[Fd] at h ⊢;cases h
   split
   ·rename_i y;simp only[gG,nM] at y;exact absurd y.1.1 hk
   ·rfl
  ·have z':(x==n)=false:=by simpa using z
   simp only[z'] at h ⊢;exact Ox hk h
noncomputable def vh(K:W.Frag):Sp:=λvs H Q _=>∃(a:Addr) (ns:List Int),vs=[.ref a]/\cV K H a (ns.map V.int)/\ns.length<=63/\True/\∀H',Q (.bl true) H'
theorem zjp{K:W.Frag}{cA:Cl}{m:List Xv->M Xv}(hm:∀ns:List Int,ns.length<=63->∃s',m [.d (.fl (ns.map D.int))] []=some (.ok (.d (.bl true)),s'))(vs:List V)(H:Hp)(Q:VK)(E:XK)(h:vh K vs H Q E):lG K cA m vs H Q E:=by
 obtain⟨a,ns,rfl,hq,hl,hO,k⟩:=h;obtain⟨U,ds,s,r1,r2,h⟩:=zme (cA:=cA) (m:=m) hq (hm ns hl);refine⟨U,ds,s,r1,r2,?_⟩;unfold Run at h ⊢;split at h
 ·intro U' H' x r v rv;rw[h U' H' x r v rv];exact k H'
 ·exact λU' H' x r dx q=>(h U' H' x r dx q).elim
 ·exact h
theorem Dn{K:W.Frag}{fd:FuncData}{p:Str}(h:∀a,bindArgs fd ⟨[a],[]⟩=pure [(p,a)]):Binds K fd [p] []:=.all λus hl=>by
 cases us with
 |nil=>cases hl
 |cons a r=>cases r with
  |nil=>exact h a
  |cons b r=>cases hl
theorem vm{K:W.Frag}{fd:FuncData}{p q:Str}(h:∀a b,bindArgs fd ⟨[a,b],[]⟩=pure [(p,a),(q,b)]):Binds K fd [p,q] []:=.all λus hl=>by
 cases us with
 |nil=>cases hl
 |cons a r=>cases r with
  |nil=>cases hl
  |cons b r=>cases r with
   |nil=>exact h a b
   |cons c r=>cases hl
theorem vo{K:W.Frag}{fd:FuncData}{p q t:Str}(h:∀a b c,bindArgs fd ⟨[a,b,c],[]⟩=pure [(p,a),(q,b),(t,c)]):Binds K fd [p,q,t] []:=.all λus hl=>by
 cases us with
 |nil=>cases hl
 |cons a r=>cases r with
  |nil=>cases hl
  |cons b r=>cases r with
   |nil=>cases hl
   |cons c r=>cases r with
    |nil=>exact h a b c
    |cons d r=>cases hl
theorem vp{K:W.Frag}{fd:FuncData}{p q t u:Str}(h:∀a b c d,bindArgs fd ⟨[a,b,c,d],[]⟩=pure [(p,a),(q,b),(t,c),(u,d)]):Binds K fd [p,q,t,u] []:=.all λus hl=>by
 cases us with
 |nil=>cases hl
 |cons a r=>cases r with
  |nil=>cases hl
  |cons b r=>cases r with
   |nil=>cases hl
   |cons c r=>cases r with
    |nil=>cases hl
    |cons d r=>cases r with
     |nil=>exact h a b c d
     |cons e r=>cases hl
theorem zmc:bootBuiltins "int"=some (.type "int"):=by decide +kernel
theorem zji:bootBuiltins "bool"=some (.type "bool"):=by decide +kernel
theorem Oz:bootBuiltins "tuple"=some (.type "tuple"):=by decide +kernel
theorem ziI:bootBuiltins "list"=some (.type "list"):=by decide +kernel
structure JE(X:Cx)(cA:Cl)(aq:Nat->Nat->Bool)(aj:Bool)(F:Fn)(EX:XS)(e:Expr)(m:E):Prop where
 o:SE X cA aq aj F EX e m
structure JA(X:Cx)(cA:Cl)(aq:Nat->Nat->Bool)(aj:Bool)(F:Fn)(EX:XS)(e:List Expr)(m:Es):Prop where
 o:SA X cA aq aj F EX e m
structure JT(X:Cx)(cA:Cl)(aq:Nat->Nat->Bool)(aj:Bool)(F:Fn)(EX:XS)(e:Expr)(m:E):Prop where
 o:ST X cA aq aj F EX e m
structure JW(X:Cx)(cA:Cl)(aq:Nat->Nat->Bool)(aj:Bool)(F:Fn)(EX:XS)(e:Expr)(m:E):Prop where
 o:SW X cA aq aj F EX e m
structure JC(X:Cx)(cA:Cl)(aq:Nat->Nat->Bool)(aj:Bool)(F:Fn)(EX:XS)(e:List Expr)(m:Eo):Prop where
 o:Gp X cA aq aj F EX e m
structure JO(X:Cx)(cA:Cl)(aq:Nat->Nat->Bool)(aj:Bool)(F:Fn)(EX:XS)(e:Option Expr)(m:Eo):Prop where
 o:Ko X cA aq aj F EX e m
structure JI(X:Cx)(cA:Cl)(aq:Nat->Nat->Bool)(aj:Bool)(F:Fn)(EX:XS)(tg e:Expr)(m:Wk):Prop where
 o:SI X cA aq aj F EX tg e m
structure JG(X:Cx)(cA:Cl)(aq:Nat->Nat->Bool)(aj:Bool)(F:Bool->Fn)(EX:XS)(e:Expr)(m:Tg):Prop where
 o:SG X cA aq aj F EX e m
structure JS(X:Cx)(cA:Cl)(aq:Nat->Nat->Bool)(aj:Bool)(F:Bool->Fn)(EX:XS)(e:Stmt)(m:St):Prop where
 o:SS X cA aq aj F EX e m
structure JB(X:Cx)(cA:Cl)(aq:Nat->Nat->Bool)(aj:Bool)(F:Bool->Fn)(EX:XS)(e:List Stmt)(m:bZ):Prop where
 o:wM X cA aq aj F EX e m
structure JK(X:Cx)(x:Str)(k:NameKind):Prop where
 o:X.env.scope.names.lookup x=some k
structure JP(X:Cx)(cA:Cl)(op:CmpOp)(p:Pr):Prop where
 o:∃r,fL X (compareOp op) r/\bG X.K cA p (r2 r)
structure JQ(X:Cx)(cA:Cl)(op:Operator)(p:Pr):Prop where
 o:∃r,fL X (binaryOp op) r/\bG X.K cA p (r2 r)
structure JN(X:Cx)(cA:Cl)(kx:Expr)(k:Kd):Prop where
 o:PE X kx (tC (Gk cA k))
structure JR(X:Cx)(EX:XS):Prop where
 o:Raises X EX
structure JH(X:Cx):Prop where
 o:PassesOwn (model X.prog X.w) X.A X.env X.xe
structure JY(X:Cx)(tg:Expr)(g:TG):Prop where
 o:PG X tg g
noncomputable def lH:NameKind->Bool
 |.local=>true
 |.cell=>true
 |_=>false
noncomputable def Dp:NameKind->Bool
 |.local=>true
 |.cell=>true
 |.free=>true
 |_=>false
section
variable {X:Cx}{cA:Cl}{aq:Nat->Nat->Bool}{aj:Bool}{F:Fn}{EX:XS}{a b c d e:Expr}{A B C Dd E':E}{pos p p2 apos:Pos}{es:List Expr}{Xs:Es}{x y:Str}{k k':NameKind}{q q1 q2 q3:Pr}{fz:Bool}
theorem zoF(h:scope.names.lookup x=some k)(hk:(match k with|.free=>false|_=>true)=true):JK (X.blk scope cl N Cc s3 H3 fp ao) x k:=
 ⟨Ox (by intro z;subst z;cases hk) h⟩
theorem g_v(i:Nat)(hN:X.N[i]?=some x)(h:JK X x k)(hv:Dp k=true)(hd:okN x=true):JE X cA aq aj F EX (.Name x pos) (.v i):=
 ⟨Zx i hN (by cases k<;>first|exact .inl h.o|exact .inr (.inl h.o)|exact .inr (.inr h.o)|cases hv) (vg hd).1 (vg hd).2.1⟩
theorem zoV(i:Nat)(hN:N[i]?=some x)(h:scope.names.lookup x=some .free)(hd:okN x=true):JE (X.blk scope cl N Cc s3 H3 fp ao) cA aq aj F EX (.Name x pos) (.v i):=
 ⟨Zx i hN (.inr (Oa h)) (vg hd).1 (vg hd).2.1⟩
theorem aL{i j p}:JE X cA aq aj F EX (.Constant (.int i) j p) (.c (.int i)):=⟨zmD⟩
theorem pH{i j p}:JE X cA aq aj F EX (.Constant (.bool i) j p) (.c (.bl i)):=⟨znQ⟩
theorem Gu{j p}:JE X cA aq aj F EX (.Constant .none j p) (.c .non):=⟨zlf⟩
theorem OD(h:∃t,X.mg x=some (.int i t))(hg:JK X x .globalImplicit)(hd:okN x=true):JE X cA aq aj F EX (.Name x pos) (.c (.int i)):=by
 obtain⟨t,h⟩:=h;exact⟨zjF hg.o h (vg hd).1⟩
theorem oX:JQ X cA .Add .add:=⟨_,zfM,zmd⟩
theorem yN:JQ X cA .Sub .aq:=⟨_,zmv,zl8⟩
theorem tX:JQ X cA .Mult .mul:=⟨_,zmx,zlN⟩
theorem Gv:JQ X cA .FloorDiv .fdiv:=⟨_,zkg,ziQ⟩
theorem Dq:JQ X cA .Mod .mod:=⟨_,zkP,zlO⟩
theorem znT:JQ X cA .Pow .pow:=⟨_,zml,zkV⟩
theorem cQ(h:JQ X cA op q)(ha:JE X cA aq aj F EX a A)(hb:JE X cA aq aj F EX b B):JE X cA aq aj F EX (.BinOp a op b pos) (.pr fz q (.cons A (.cons B .nil))):=by
 obtain⟨r,h1,h2⟩:=h.o;exact⟨zmo h1 h2 ha.o hb.o⟩
theorem zkK(ha:JE X cA aq aj F EX a A):JE X cA aq aj F EX (.UnaryOp .USub a pos) (.pr true .neg (.cons A .nil)):=⟨zmZ zlY zkO ha.o⟩
theorem zno(ha:JE X cA aq aj F EX a A):JE X cA aq aj F EX (.UnaryOp .Not a pos) (.not A):=⟨zmm ha.o⟩
theorem vq{op}(ha:JE X cA aq aj F EX a A):JE X cA aq aj F EX (.BoolOp op [a] pos) A:=⟨zlS ha.o⟩
theorem wN{rest:List Expr}(ha:JE X cA aq aj F EX a A)(hb:JE X cA aq aj F EX (.BoolOp .And (b::rest) pos) B):JE X cA aq aj F EX (.BoolOp .And (a::b::rest) pos) (.and A B):=⟨zle ha.o hb.o⟩
theorem zoe{rest:List Expr}(ha:JE X cA aq aj F EX a A)(hb:JE X cA aq aj F EX (.BoolOp .Or (b::rest) pos) B):JE X cA aq aj F EX (.BoolOp .Or (a::b::rest) pos) (.or A B):=⟨znm ha.o hb.o⟩
theorem sZ{k:Nat}(hr:bB k X.A):JP X cA .Eq .eq:=⟨_,zlv (yL hr),zm2⟩
theorem OJ{k:Nat}(hr:bB k X.A):JP X cA .NotEq .ne:=⟨_,zlw (yL hr),znP⟩
theorem vA{k:Nat}(hr:bB k X.A):JP X cA .Lt .lt:=⟨_,I9.or (zl3 (by have:=yL hr;lia)),zm5⟩
theorem zoD:JP X cA .LtE .le:=⟨_,znw,zn0⟩
theorem Gw:JP X cA .Gt .gt:=⟨_,znO,znN⟩
theorem Us:JP X cA .GtE .ge:=⟨_,znF,zmW⟩
theorem zoE{k:Nat}(hr:bB k X.A):JP X cA .In .inn:=⟨_,zla (yL hr),znR⟩
noncomputable def oY:Expr->Bool
 |.Set _ _ _=>false
 |_=>true
theorem yO(h:oY b=true):behindInMarks op b=false:=by cases b<;>first|rfl|cases h
theorem tD(ho:JP X cA op q)(ha:JE X cA aq aj F EX a A)(hb:JE X cA aq aj F EX b B)(h1:oY b=true:=by rfl):JE X cA aq aj F EX (.Compare a [op] [b] pos) (.pr true q (.cons A (.cons B .nil))):=by
 obtain⟨r,h2,h3⟩:=ho.o;exact⟨zkA h2 h3 ha.o hb.o (yO h1)⟩
theorem ju(ho:JP X cA op q)(ha:JE X cA aq aj F EX a A)(hb:JE X cA aq aj F EX b B)(h1:oY b=true:=by rfl):JT X cA aq aj F EX (.Compare a [op] [b] pos) (.pr true q (.cons A (.cons B .nil))):=by
 obtain⟨r,h2,h3⟩:=ho.o;exact⟨zmk h2 h3 ha.o hb.o (yO h1)⟩
theorem zny(h1:JP X cA op q1)(h2:JP X cA op' q2)(ha:JE X cA aq aj F EX a A)(hb:JE X cA aq aj F EX b B)(hc:JE X cA aq aj F EX c C)(hm:oY c=true:=by rfl):JE X cA aq aj F EX (.Compare a [op,op'] [b,c] pos) (.zW q1 q2 A B C):=by
 obtain⟨r,h3,h4⟩:=h1.o;obtain⟨r',h5,h6⟩:=h2.o;exact⟨zkW h3 h4 h5 h6 ha.o hb.o hc.o (yO hm)⟩
theorem zkD{j p}(ha:JE X cA aq aj F EX a A):JE X cA aq aj F EX (.Compare a [.Is] [.Constant .none j p] pos) (.pr true .wH (.cons A .nil)):=⟨zkG ha.o⟩
theorem Ut{j p}(ha:JE X cA aq aj F EX a A):JE X cA aq aj F EX (.Compare a [.IsNot] [.Constant .none j p] pos) (.pr true .sH (.cons A .nil)):=⟨zi4 ha.o⟩
theorem zni{j p}(ha:JE X cA aq aj F EX a A):JT X cA aq aj F EX (.Compare a [.Is] [.Constant .none j p] pos) (.pr true .wH (.cons A .nil)):=⟨zld ha.o⟩
theorem Uu{j p}(ha:JE X cA aq aj F EX a A):JT X cA aq aj F EX (.Compare a [.IsNot] [.Constant .none j p] pos) (.pr true .sH (.cons A .nil)):=⟨zjB ha.o⟩
noncomputable def Ae:Expr->Bool
 |.Call _ _ _ _=>true
 |.Name _ _=>true
 |.Subscript _ _ _=>true
 |.Attribute _ _ _=>true
 |_=>false
theorem ji(ha:JE X cA aq aj F EX a A)(he:Ae a=true:=by rfl):JT X cA aq aj F EX a A:=⟨zlu ha.o (by cases a<;>first|(intro _;rfl)|cases he)⟩
theorem nG(ha:JT X cA aq aj F EX a A):JT X cA aq aj F EX (.UnaryOp .Not a pos) (.not A):=⟨zmG ha.o⟩
theorem Af(ha:JT X cA aq aj F EX a A):JW X cA aq aj F EX (.BoolOp .And [a] pos) A:=⟨zke ha.o⟩
theorem Uv(ha:JT X cA aq aj F EX a A):JW X cA aq aj F EX (.BoolOp .Or [a] pos) A:=⟨zk2 ha.o⟩
theorem vB{rest:List Expr}(ha:JT X cA aq aj F EX a A)(hb:JW X cA aq aj F EX (.BoolOp .And (b::rest) pos) B):JW X cA aq aj F EX (.BoolOp .And (a::b::rest) pos) (.and A B):=⟨zln ha.o hb.o⟩
theorem Uw{rest:List Expr}(ha:JT X cA aq aj F EX a A)(hb:JW X cA aq aj F EX (.BoolOp .Or (b::rest) pos) B):JW X cA aq aj F EX (.BoolOp .Or (a::b::rest) pos) (.or A B):=⟨znj ha.o hb.o⟩
theorem vC(h:JW X cA aq aj F EX a A):JT X cA aq aj F EX a A:=⟨zoR h.o⟩
theorem Ux(hc:JT X cA aq aj F EX c C)(ha:JE X cA aq aj F EX a A)(hb:JE X cA aq aj F EX b B):JE X cA aq aj F EX (.IfExp c a b pos) (.ite C A B):=⟨zk0 hc.o ha.o hb.o⟩
theorem aK:JA X cA aq aj F EX [] .nil:=⟨zlV⟩
theorem aA(ha:JE X cA aq aj F EX a A)(hr:JA X cA aq aj F EX es Xs)(hs:aF a=true:=by rfl):JA X cA aq aj F EX (a::es) (.cons A Xs):=⟨ziH ha.o hr.o (bA hs)⟩
theorem gQ{k}(ha:JA X cA aq aj F EX es Xs)(hz:decide (Es.len Xs<=sizeLine)=true:=by rfl):JE X cA aq aj F EX (.Tuple es k pos) (.tup Xs):=⟨zlB ha.o (jU hz)⟩
theorem wO(ha:JA X cA aq aj F EX es Xs)(hz:decide (Es.len Xs<=sizeLine)=true:=by rfl):JE X cA aq aj F EX (.List es pos) (.lst fz Xs):=⟨zk7 ha.o (jU hz)⟩
noncomputable def vD:Expr->Bool
 |.Constant _ _ _=>true
 |.Name _ _=>true
 |.Call _ _ _ _=>true
 |.BinOp _ _ _ _=>true
 |.UnaryOp _ _ _=>true
 |.Subscript _ _ _=>true
 |.IfExp _ _ _ _=>true
 |.Attribute _ _ _=>true
 |.Compare _ _ _ _=>true
 |.BoolOp _ _ _=>true
 |_=>false
theorem cF(ha:JE X cA aq aj F EX a A)(hb:JE X cA aq aj F EX b B)(hs:vD b=true:=by rfl):JE X cA aq aj F EX (.Subscript a b pos) (.pr true .ix (.cons A (.cons B .nil))):=⟨znv znI ha.o hb.o (by cases b<;>first|(intro _ _;rfl)|cases hs)⟩
theorem zoS:JO X cA aq aj F EX none .no:=⟨znV⟩
theorem Uy(ha:JE X cA aq aj F EX a A):JO X cA aq aj F EX (some a) (.yes A):=⟨zmM ha.o⟩
theorem zoj{lo hi:Option Expr}{Lo Hi:Eo}(ha:JE X cA aq aj F EX a A)(hl:JO X cA aq aj F EX lo Lo)(hh:JO X cA aq aj F EX hi Hi):JE X cA aq aj F EX (.Subscript a (.Slice lo hi none p2) pos) (.sl fz A Lo Hi):=⟨znd ha.o hl.o hh.o⟩
theorem zl9(f:Nat){cm:Bool}{k:Nat}{fa:Addr}{fd:FuncData}{ps:List Str}(Fo:cB X.prog X.w X.K X.mg X.base (fB X.prog X.w) cm k fa fd ps (lG X.K cA (F f)))(je:cm=true->X.aj=true)(hr:bB k X.A)(hm:X.mg x=some (.ref fa))(hk:PySem.W.keepIn X.K (.ref fa)=true)(hb:Binds X.K fd ps [])(R:JR X EX)(hg:JK X x .globalImplicit)
  (ha:JA X cA aq aj F EX (e::es) Xs) (hd:okN x=true) (he:aF e=true:=by rfl) (cT:es.all aF=true:=by rfl) :
  JE X cA aq aj F EX (.Call (.Name x p) (e::es) [] pos) (.call f Xs):=⟨zjd Fo je hr hg.o hm hk hb R.o ha.o (vg hd).1 (bA he) (bD cT)⟩
theorem O1(hv:Gk cA kd=.ty T)(hm:X.mg x=none)(hb:bootBuiltins x=some (.type T))(hg:JK X x .globalImplicit)(hd:okN x=true):JN X cA (.Name x pos) kd:=⟨λao s Z H Q I h=>by
 rw[hv] at h;exact wD I hg.o hm hb ⟨.ty T,H,I,rfl,h⟩ (vg hd).2.2 (vg hd).1⟩
theorem O2(h0:(u6 kd).isSome=true)(hm:X.mg "isinstance"=none)(hg:JK X "isinstance" .globalImplicit)(ha:JE X cA aq aj F EX a A)(hk:JN X cA kx kd)(h1:aF a=true:=by rfl)(h2:aF kx=true:=by rfl):JE X cA aq aj F EX (.Call (.Name "isinstance" p) [a,kx] [] pos) (.rm A kd):=
 ⟨zmq (λz=>by rw[z] at h0;cases h0) hg.o hm ha.o hk.o (bA h1) (bA h2) (bD (by rw[Bq,h2];rfl))⟩
theorem Gx(hm:X.mg "len"=none)(hg:JK X "len" .globalImplicit)(ha:JA X cA aq aj F EX (e::es) Xs)(he:aF e=true:=by rfl)(cT:es.all aF=true:=by rfl):JE X cA aq aj F EX (.Call (.Name "len" p) (e::es) [] pos) (.pr fz .len Xs):=⟨Ab zcY zkZ hg.o hm PySem.boot_len ha.o Tc Tc (bA he) (bD cT)⟩
theorem zn4(hm:X.mg "abs"=none)(hg:JK X "abs" .globalImplicit)(ha:JA X cA aq aj F EX (e::es) Xs)(he:aF e=true:=by rfl)(cT:es.all aF=true:=by rfl):JE X cA aq aj F EX (.Call (.Name "abs" p) (e::es) [] pos) (.pr fz .abs Xs):=⟨Ab zho zms hg.o hm PyProof.Rows.boot_abs ha.o Tc Tc (bA he) (bD cT)⟩
theorem Uz(hc:X.aj=true)(hm:X.mg "max"=none)(hg:JK X "max" .globalImplicit)(ha:JA X cA aq aj F EX (e::es) Xs)(he:aF e=true:=by rfl)(cT:es.all aF=true:=by rfl):JE X cA aq aj F EX (.Call (.Name "max" p) (e::es) [] pos) (.pr fz .max2 Xs):=⟨Ab (zfW hc) zjq hg.o hm PyProof.Rows.boot_max ha.o Tc Tc (bA he) (bD cT)⟩
theorem UG(hc:X.aj=true)(hm:X.mg "min"=none)(hg:JK X "min" .globalImplicit)(ha:JA X cA aq aj F EX (e::es) Xs)(he:aF e=true:=by rfl)(cT:es.all aF=true:=by rfl):JE X cA aq aj F EX (.Call (.Name "min" p) (e::es) [] pos) (.pr fz .min2 Xs):=⟨Ab (zfv hc) ziD hg.o hm PyProof.Rows.boot_min ha.o Tc Tc (bA he) (bD cT)⟩
theorem zlD(hm:X.mg "int"=none)(hg:JK X "int" .globalImplicit)(ha:JA X cA aq aj F EX (e::es) Xs)(he:aF e=true:=by rfl)(cT:es.all aF=true:=by rfl):JE X cA aq aj F EX (.Call (.Name "int" p) (e::es) [] pos) (.pr fz .yx Xs):=⟨T5 zfw zka hg.o hm PyProof.Rows.boot_int ha.o Tc Tc (bA he) (bD cT)⟩
theorem zhT(hm:X.mg "divmod"=none)(hg:JK X "divmod" .globalImplicit)(ha:JA X cA aq aj F EX (e::es) Xs)(he:aF e=true:=by rfl)(cT:es.all aF=true:=by rfl):JE X cA aq aj F EX (.Call (.Name "divmod" p) (e::es) [] pos) (.pr fz .divmod Xs):=⟨Ab zdM zgE hg.o hm PyProof.Rows.boot_divmod ha.o Tc Tc (bA he) (bD cT)⟩
theorem O4(hc:X.aj=true)(hm:X.mg "all"=none)(hg:JK X "all" .globalImplicit)(ha:JA X cA aq aj F EX (e::es) Xs)(he:aF e=true:=by rfl)(cT:es.all aF=true:=by rfl):JE X cA aq aj F EX (.Call (.Name "all" p) (e::es) [] pos) (.pr fz .all Xs):=⟨Ab (zgQ hc) zmj hg.o hm PyProof.Rows.boot_all ha.o Tc Tc (bA he) (bD cT)⟩
theorem zlR(hm:X.mg "list"=none)(hg:JK X "list" .globalImplicit)(ha:JA X cA aq aj F EX (e::es) Xs)(he:aF e=true:=by rfl)(cT:es.all aF=true:=by rfl):JE X cA aq aj F EX (.Call (.Name "list" p) (e::es) [] pos) (.pr fz .list Xs):=⟨T5 zc2 zj5 hg.o hm ziI ha.o Tc Tc (bA he) (bD cT)⟩
theorem yP(hm:X.mg "tuple"=none)(hg:JK X "tuple" .globalImplicit)(ha:JA X cA aq aj F EX (e::es) Xs)(he:aF e=true:=by rfl)(cT:es.all aF=true:=by rfl):JE X cA aq aj F EX (.Call (.Name "tuple" p) (e::es) [] pos) (.pr fz .tuple Xs):=⟨T5 zcS zg8 hg.o hm Oz ha.o Tc Tc (bA he) (bD cT)⟩
theorem ziv(ho:JE X cA aq aj F EX a A)(hb:JE X cA aq aj F EX b B)(n_:attributeBase a "append" X.env (eval a X.env)=eval a X.env:=by rfl)(oh:(apos.endLine==pos.line)=true:=by rfl)(hs:aF b=true:=by rfl) :
  JE X cA aq aj F EX (.Call (.Attribute a "append" apos) [b] [] pos) (.push A B):=⟨zi0 ho.o hb.o n_ (yM hs rfl rfl) oh (bA hs) rfl⟩
theorem rJ:JC X cA aq aj F EX [] .no:=⟨zlg⟩
theorem Gy(h:JT X cA aq aj F EX c C):JC X cA aq aj F EX [c] (.yes C):=⟨zkh h.o⟩
theorem tY(ha:JE X cA aq aj F EX a A):JI X cA aq aj F EX tg a (.seq A):=⟨zlM ha.o⟩
theorem O5(hmg:X.mg "range"=none)(qz:JK X "range" .globalImplicit)(ha:JE X cA aq aj F EX a A)(hb:JE X cA aq aj F EX b B)(h1:aF a=true:=by rfl)(h2:aF b=true:=by rfl):JI X cA aq aj F EX tg (.Call (.Name "range" p) [a,b] [] pos) (.rg A B):=⟨zm8 qz.o hmg ha.o hb.o (bA h1) (bA h2)⟩
theorem vG(hmg:X.mg "range"=none)(qz:JK X "range" .globalImplicit)(hb:JE X cA aq aj F EX b B)(h2:aF b=true:=by rfl):JI X cA aq aj F EX tg (.Call (.Name "range" p) [b] [] pos) (.rg (.c (.int 0)) B):=⟨zmi qz.o hmg hb.o (bA h2)⟩
noncomputable def Ky(scope:Scope)(x:Str):Bool:=match scope.names.lookup x with
 |some .local=>true
 |some .cell=>true
 |_=>false
theorem Gz(h:Ky scope x=true):Loc (X.blk scope cl N Cc s3 H3 fp ao).env.scope x/\((X.blk scope cl N Cc s3 H3 fp ao).fn x=true\/(X.blk scope cl N Cc s3 H3 fp ao).env.scope.names.lookup x=some .local):=by
 unfold Ky at h;split at h
 ·rename_i z;exact⟨.inl (lookup_relabel_local z),.inr (lookup_relabel_local z)⟩
 ·rename_i z;exact⟨.inr (Ox (by intro y;cases y) z),.inl (by show (scope.names.lookup x==some NameKind.cell)=true;rw[z];rfl)⟩
 ·cases h
theorem nH(i:Nat)(UJ:N.Nodup)(hi:N[i]?=some x)(hl:Ky scope x=true):JY (X.blk scope cl N Cc s3 H3 fp ao) (.Name x tp) (dM i):=
 ⟨Nv UJ hi (Gz hl).1 (Gz hl).2⟩
theorem UL(i j:Nat)(hc:X.aj=true)(UJ:N.Nodup)(hi:N[i]?=some x)(hj:N[j]?=some y)(hl:Ky scope x=true)(vf:Ky scope y=true):JY (X.blk scope cl N Cc s3 H3 fp ao) (.Tuple [.Name x px,.Name y py] kt tp) (uy X.K 2 (iM (dM i) (iM (dM j) ux))):=
 ⟨Uo (X:=X.blk scope cl N Cc s3 H3 fp ao) hc UJ hi hj (Gz hl).1 (Gz vf).1 (Gz hl).2 (Gz vf).2⟩
theorem Ag{scope:Scope}{XN:List Str}{M0 N:List Str}{fr:List Nat}(h:frB scope XN N fr=true):(M0++N).length=M0.length+fr.length/\∀(i:Nat) (y:Str) (j:Nat),(M0++N)[M0.length+i]?=some y->fr[i]?=some j->scope.names.lookup y=some .free/\XN[j]?=some y:=by
 obtain⟨l,q⟩:=zit h;refine⟨by rw[mj,l],λi y j e1 e2=>q i y j ?_ e2⟩;rw[pK gV] at e1;rw[show M0.length+i-M0.length=i by lia] at e1;exact e1
theorem pI{elt iter tg:Expr}{ifs:List Expr}{scope:Scope}{cond:Eo}{aO:List Nat}{g:TG}{w:Wk}(sc:Scope)(XN M0 N:List Str)(fr:List Nat)(hc:X.aj=true)(Kz:X.env.scope=sc)(rG:X.N=XN)(hB:sY sc scope=true)(hf:frB scope XN N fr=true)(hT:gA X.K cA g aO)(eE:aO.all (λi=>decide (i<M0.length))=true)
  (hi:JI X cA aq aj F EX tg iter w) (hg:∀cl C s3 H3 fp ao,JY (X.blk scope cl (M0++N) C s3 H3 fp ao) tg g)
  (ht:∀cl C s3 H3 fp ao,JC (X.blk scope cl (M0++N) C s3 H3 fp ao) cA aq aj F (λ_ _ _ _=>False) ifs cond) (he:∀cl C s3 H3 fp ao,JE (X.blk scope cl (M0++N) C s3 H3 fp ao) cA aq aj F (λ_ _ _ _=>False) elt B)
  (hs:∀x,foldedSetIterable iter X.env x=pure x:=by intro _;rfl):JE X cA aq aj F EX (.ListComp elt [⟨tg,iter,ifs,0⟩] scope pos) (.comp fz B aO w fr M0.length cond):=
 ⟨zfL hc (cN.of (Kz▸hB)) hi.o (Ag (rG▸hf)).1 (Ag (rG▸hf)).2 (λa b c d e f=>(hg a b c d e f).o) hT (λi hi=>jU (jo.mp eE i hi)) (λa b c d e f=>(ht a b c d e f).o) (λa b c d e f=>(he a b c d e f).o) hs⟩
theorem Kaa{scope eU:Scope}{env:Env}(h:cN scope eU):cN (relabel scope env) eU:=⟨h.kind,h.Y9,λy hy z=>by
 rcases h.free y hy z with q|q
 ·exact .inl (Ox (by intro y;cases y) q)
 ·exact Oa q,h.loc⟩
theorem zjU{elt iter tg:Expr}{ifs:List Expr}{scope eU:Scope}{cond:Eo}{aO:List Nat}{g:TG}{w:Wk}{cl:List (Str×Addr)}{Ah:List Str}{Cc:Addr}{s3:Shared}{H3:Hp}{fp:List Addr}{ao:List (Addr×Obj)}(XN M0 N:List Str)(fr:List Nat)(hc:X.aj=true)(rG:Ah=XN)(hB:sY scope eU=true)(hf:frB eU XN N fr=true)(hT:gA X.K cA g aO)(eE:aO.all (λi=>decide (i<M0.length))=true)
  (hi:JI (X.blk scope cl Ah Cc s3 H3 fp ao) cA aq aj F EX tg iter w) (hg:∀cl2 C s3' KC fp' jq,JY ((X.blk scope cl Ah Cc s3 H3 fp ao).blk eU cl2 (M0++N) C s3' KC fp' jq) tg g)
  (ht:∀cl2 C s3' KC fp' jq,JC ((X.blk scope cl Ah Cc s3 H3 fp ao).blk eU cl2 (M0++N) C s3' KC fp' jq) cA aq aj F (λ_ _ _ _=>False) ifs cond) (he:∀cl2 C s3' KC fp' jq,JE ((X.blk scope cl Ah Cc s3 H3 fp ao).blk eU cl2 (M0++N) C s3' KC fp' jq) cA aq aj F (λ_ _ _ _=>False) elt B)
  (hs:∀x,foldedSetIterable iter (X.blk scope cl Ah Cc s3 H3 fp ao).env x=pure x:=by intro _;rfl):JE (X.blk scope cl Ah Cc s3 H3 fp ao) cA aq aj F EX (.ListComp elt [⟨tg,iter,ifs,0⟩] eU pos) (.comp fz B aO w fr M0.length cond):=by
 subst rG;exact⟨zfL (X:=X.blk scope cl Ah Cc s3 H3 fp ao) hc (Kaa (cN.of hB)) hi.o (Ag hf).1 (Ag hf).2 (λa b c d e f=>(hg a b c d e f).o) hT (λi hi=>jU (jo.mp eE i hi)) (λa b c d e f=>(ht a b c d e f).o) (λa b c d e f=>(he a b c d e f).o) hs⟩
theorem GC:JR X (λ_ _ _ _=>False):=⟨zfN⟩
theorem bK{P:Program}{w:World}{K:W.Frag}{mg:Str->Option Value}{base:Heap}{N:List Str}{qual:Str}{scope:Scope}{f:Addr}{cd:Value}{A:Around}{outer:List Env}{s:Shared}{H:Hp}{E:XK}{cm:Bool} :
  JR (dH (fB P w) P w K mg base N qual scope f cd A outer s H E cm) (λ_ C dx H'=>E C dx H'):=⟨ze2⟩
theorem vH{CX:sE}{P:Program}{w:World}{K:W.Frag}{mg:Str->Option Value}{base:Heap}{N:List Str}{qual:Str}{scope:Scope}{f:Addr}{cd:Value}{A:Around}{outer:List Env}{s:Shared}{H:Hp}{E:XK}{cm:Bool} :
  JH (dH CX P w K mg base N qual scope f cd A outer s H E cm):=⟨PassesOwn.leaving⟩
end
section
variable {X:Cx}{cA:Cl}{aq:Nat->Nat->Bool}{aj:Bool}{F:Bool->Fn}{EX:XS}{a b c d e:Expr}{A B C:E}{pos p p2:Pos}{st:Stmt}{sts body orelse:List Stmt}{m:St}{ms mb me mh:bZ}{es:List Expr}{Xs:Es}{x y n:Str}{k k':NameKind}
theorem wQ(h:JK X x k)(hv:lH k=true):Loc X.env.scope x:=by cases k<;>first|exact .inl h.o|exact .inr h.o|cases hv
theorem wR(h:JK X x k)(hv:X.fn x=true\/k=.local):X.fn x=true\/X.env.scope.names.lookup x=some .local:=by
 rcases hv with hv|hv
 ·exact .inl hv
 ·subst hv;exact .inr h.o
theorem aN:JB X cA aq aj F EX [] .nil:=⟨zkl⟩
theorem aH(h1:JS X cA aq aj F EX st m)(h2:JB X cA aq aj F EX sts ms):JB X cA aq aj F EX (st::sts) (.cons m ms):=⟨zhL h1.o h2.o⟩
theorem O6:JS X cA aq aj F EX st .no:=⟨zne⟩
theorem vI(ha:JE X cA aq aj (F aj) EX a A)(hs:swapsWith a none pos.line X.env=pure false:=by rfl):JS X cA aq aj F EX (.Expr a pos) (.ex A):=⟨znK ha.o hs⟩
theorem bY(ha:JE X cA aq aj (F aj) EX a A):JS X cA aq aj F EX (.Return (some a) pos) (.ret A):=⟨zk5 ha.o⟩
theorem fU(i:Nat)(hN:X.N.Nodup)(hi:X.N[i]?=some x)(hx:JK X x k)(hl:lH k=true)(ha:JE X cA aq aj (F aj) EX a A)(hs:swapsWith a (some (.Name x p)) pos.line X.env=pure false:=by rfl)(hf:X.fn x=true\/k=.local:=by first|exact .inl rfl|exact .inr rfl):JS X cA aq aj F EX (.Assign [.Name x p] a pos) (.asg (.nm i) A):=
 ⟨zkE hN hi (wQ hx hl) ha.o hs (wR hx hf)⟩
theorem zij{elt iter tg:Expr}{ifs:List Expr}{scope:Scope}{cond:Eo}{aO:List Nat}{g:TG}{w:Wk}{fz:Bool}{py spos:Pos}(i:Nat)(sc:Scope)(XN M0 N:List Str)(fr:List Nat)(hN:X.N.Nodup)(qg:X.N[i]?=some y)(hx:JK X y k)(hl:lH k=true)(hc:X.aj=true)(Kz:X.env.scope=sc)(rG:X.N=XN)(hB:sY sc scope=true)(hf:frB scope XN N fr=true)(hT:gA X.K cA g aO)(eE:aO.all (λi=>decide (i<M0.length))=true)
  (hi:JI X cA aq aj (F aj) EX tg iter w) (hg:∀cl C s3 H3 fp ao,JY (X.blk scope cl (M0++N) C s3 H3 fp ao) tg g)
  (ht:∀cl C s3 H3 fp ao,JC (X.blk scope cl (M0++N) C s3 H3 fp ao) cA aq aj (F aj) (λ_ _ _ _=>False) ifs cond) (he:∀cl C s3 H3 fp ao,JE (X.blk scope cl (M0++N) C s3 H3 fp ao) cA aq aj (F aj) (λ_ _ _ _=>False) elt B)
  (uO:swapsWith (.ListComp elt [⟨tg,iter,ifs,0⟩] scope pos) (some (.Name y py)) spos.line X.env=pure true:=by rfl) (UW:X.fn y=true\/k=.local:=by first|exact .inl rfl|exact .inr rfl) (hs:∀x,foldedSetIterable iter X.env x=pure x:=by intro _;rfl) :
  JS X cA aq aj F EX (.Assign [.Name y py] (.ListComp elt [⟨tg,iter,ifs,0⟩] scope pos) spos) (.asg (.nm i) (.comp fz B aO w fr M0.length cond)):=
 ⟨ziM hc hN qg (wQ hx hl) (wR hx UW) (cN.of (Kz▸hB)) hi.o (Ag (rG▸hf)).1 (Ag (rG▸hf)).2 (λa b c d e f=>(hg a b c d e f).o) hT (λi hi=>jU (jo.mp eE i hi)) (λa b c d e f=>(ht a b c d e f).o) (λa b c d e f=>(he a b c d e f).o) uO hs⟩
theorem KD(i j:Nat){k0}(hc:X.aj=true)(dj:aj=true)(hN:X.N.Nodup)(hi:X.N[i]?=some x)(hj:X.N[j]?=some y)(hx:JK X x k)(hy:JK X y k')(U6:lH k=true)(U7:lH k'=true)(ha:JE X cA aq aj (F aj) EX a A)
  (yJ:X.fn x=true\/k=.local:=by first|exact .inl rfl|exact .inr rfl) (yK:X.fn y=true\/k'=.local:=by first|exact .inl rfl|exact .inr rfl)
  (hs:swapsWithSole [.Tuple [.Name x px,.Name y py] k0 pt] a pos.line X.env=pure false:=by rfl) (hw:swappedStores [.Tuple [.Name x px,.Name y py] k0 pt] a X.env=pure none:=by rfl) (h1:(assignEach [.Tuple [.Name x px,.Name y py] k0 pt] X.env).map (·.2)=[assign (.Tuple [.Name x px,.Name y py] k0 pt) X.env]:=by rfl) :
  JS X cA aq aj F EX (.Assign [.Tuple [.Name x px,.Name y py] k0 pt] a pos) (.asg (.tp [i,j]) A):=⟨ziR hc dj hN hi hj (wQ hx U6) (wQ hy U7) (wR hx yJ) (wR hy yK) ha.o hs hw h1⟩
theorem O7(hO:JE X cA aq aj (F aj) EX oo O)(hI:JE X cA aq aj (F aj) EX ii I')(ha:JE X cA aq aj (F aj) EX a A)
  (Uq:∀v,assign (.Subscript oo ii p) X.env v=(do
   let obj <-holding [v] (eval oo X.env)
   let at_ <-holding [v,obj] (eval ii X.env)
   standAt p
   holding [v,obj,at_] (setItem obj at_ v)
   release [v,obj,at_] []):=by intro _;rfl) (hs:swapsWithSole [.Subscript oo ii p] a pos.line X.env=pure false:=by rfl) (hw:swappedStores [.Subscript oo ii p] a X.env=pure none:=by rfl)
  (h1:(assignEach [.Subscript oo ii p] X.env).map (·.2)=[assign (.Subscript oo ii p) X.env]:=by rfl):JS X cA aq aj F EX (.Assign [.Subscript oo ii p] a pos) (.asg (.aq O I') A):=⟨zlK hO.o hI.o ha.o Uq hs hw h1⟩
theorem U8(i j:Nat){kt k2 uz}(hc:X.aj=true)(dj:aj=true)(hN:X.N.Nodup)(hi:X.N[i]?=some x)(hj:X.N[j]?=some y)(qU:i≠j)(hx:JK X x .local)(hy:JK X y .local)
  (ha:JE X cA aq aj (F aj) EX a A) (hb:JE X cA aq aj (F aj) EX b B) (hw:swappedStores [.Tuple [.Name x px,.Name y py] kt pt] (.Tuple [a,b] k2 uz) X.env=pure (some [x,y])) (h1:aF a=true:=by rfl) (h2:aF b=true:=by rfl)
  (hs:swapsWithSole [.Tuple [.Name x px,.Name y py] kt pt] (.Tuple [a,b] k2 uz) pos.line X.env=pure false:=by rfl):JS X cA aq aj F EX (.Assign [.Tuple [.Name x px,.Name y py] kt pt] (.Tuple [a,b] k2 uz) pos) (.par i j A B):=
 ⟨zlC hc dj hN hi hj qU hx.o hy.o ha.o hb.o (bA h1) (bA h2) hw hs⟩
theorem znq(i:Nat)(hN:X.N.Nodup)(hi:X.N[i]?=some x)(hx:JK X x k)(hl:lH k=true)(ha:JE X cA aq aj (F aj) EX a A)(hf:X.fn x=true\/k=.local:=by first|exact .inl rfl|exact .inr rfl)(hd:okN x=true:=by decide +kernel):JS X cA aq aj F EX (.AugAssign (.Name x p) .Add a pos) (.aug i A):=
 ⟨zkz (pos':=pos) hN hi (wQ hx hl) ha.o (wR hx hf) (zlp hN hi (wQ hx hl) ha.o zl6 (wR hx hf))⟩
theorem gK(hc:JT X cA aq aj (F aj) EX c C)(ht:JB X cA aq aj F EX body mb)(he:JB X cA aq aj F EX orelse me):JS X cA aq aj F EX (.If c body orelse pos) (.iff C mb me):=⟨znE hc.o ht.o he.o⟩
theorem zfK(hp:JH X)(hc:JT X cA aq aj (F aj) EX c C)(hb:JB X cA aq aj F EX body mb):JS X cA aq aj F EX (.While c body [] pos) (.wh C mb):=⟨zhQ hp.o hc.o hb.o⟩
theorem Dr(i:Nat)(hN:X.N.Nodup)(hi:X.N[i]?=some x)(hx:JK X x k)(hl:lH k=true)(hf:X.fn x=true\/k=.local:=by first|exact .inl rfl|exact .inr rfl):JG X cA aq aj F EX (.Name x pos) (.nm i):=⟨ziX hN hi (wQ hx hl) (wR hx hf)⟩
theorem zis(i j:Nat){k0}(hc:X.aj=true)(dj:aj=true)(hN:X.N.Nodup)(hi:X.N[i]?=some x)(hj:X.N[j]?=some y)(hx:JK X x k)(hy:JK X y k')(U6:lH k=true)(U7:lH k'=true)(yJ:X.fn x=true\/k=.local:=by first|exact .inl rfl|exact .inr rfl)(yK:X.fn y=true\/k'=.local:=by first|exact .inl rfl|exact .inr rfl) :
  JG X cA aq aj F EX (.Tuple [.Name x px,.Name y py] k0 pos) (.tp [i,j]):=⟨zjP hc dj hN hi hj (wQ hx U6) (wQ hy U7) (wR hx yJ) (wR hy yK)⟩
theorem yQ(hp:JH X)(hc:X.aj=true)(dj:aj=true)(ha:JI X cA aq aj (F aj) EX tg a w)(hg:JG X cA aq aj F EX tg t)(hb:JB X cA aq aj F EX body mb)(hs:∀x,foldedSetIterable a X.env x=pure x:=by intro _;rfl):JS X cA aq aj F EX (.For tg a body [] pos) (.fr t w mb):=
 ⟨zk6 hp.o hc dj ha.o hg.o hb.o hs⟩
end
theorem zia{P:Program}{w:World}{K:W.Frag}{mg:Str->Option Value}{base:Heap}{cA:Cl}{aq:Nat->Nat->Bool}{T:Nat->Option Df}{x qual:Str}{st:Stmt}{f:Addr}{fd:FuncData}{N ps:List Str}{k n:Nat}{cm:Bool}{df:Df}(F:oW K x qual st f fd)(S:bV N ps (au st))(hT:T n=some df)(hp:df.iB=ps.length)(hm:df.many=N.length)
  (hb:∀(cdv:Value) (A:Around) (outer:List Env) (s:Shared) (H:Hp) (E:XK),bB k (A.deeper (envOfC qual (au st) s.heap.objs.size f cdv))->
   JB (dH (fB P w) P w K mg base N qual (au st) f cdv A outer s H E cm) cA aq cm (λc=>call aq T k c) (λ_ C dx H'=>E C dx H') (aM st) df.body) :
  cB P w K mg base (fB P w) cm (k+1) f fd ps (lG K cA (call aq T (k+1) cm n)):=zl1 F S hT hp hm λcdv A outer s H E hr=>(hb cdv A outer s H E hr).o
section
variable {K:W.Frag}{cA:Cl}{U:Ph}{H:Hp}{kvs:iV}{xs:m5}{k:List Kx}
theorem jr.len(r:jr K cA U H kvs xs):kvs.length=xs.length:=by
 induction r with
 |nil=>rfl
 |cons _ _ _ _ ih=>rw[h_,h_,ih]
theorem zkt{j:List Kx}{a:Addr}{u:Value}{r:m5}:atKey ((j,a,u)::r) k=if j=k then some (a,u) else atKey r k:=by
 unfold atKey;rw[List.find?_cons];by_cases e:j=k
 ·simp[e]
 ·simp[e]
theorem jr.at(r:jr K cA U H kvs xs):(cg k kvs=none/\atKey xs k=none)\/∃d p v,cg k kvs=some d/\atKey xs k=some p/\RelV v p.2/\Rep K cA U H d v:=by
 induction r with
 |nil=>exact .inl ⟨rfl,rfl⟩
 |@cons j d ka u v r xs hk hu hv q ih=>
  rw[zkt];unfold cg;by_cases e:j=k
  ·rw[if_pos e,if_pos e];exact .inr ⟨d,(ka,u),v,rfl,rfl,hu,hv⟩
  ·rw[if_neg e,if_neg e];exact ih
theorem jr.isSome(r:jr K cA U H kvs xs):(atKey xs k).isSome=(cg k kvs).isSome:=by
 rcases r.at (k:=k) with ⟨a,b⟩|⟨d,p,v,a,b,_⟩<;>rw[a,b]<;>rfl
theorem jr.app{kvs':iV}{xs':m5}(r:jr K cA U H kvs xs)(r':jr K cA U H kvs' xs'):jr K cA U H (kvs++kvs') (xs++xs'):=by
 induction r with
 |nil=>exact r'
 |cons a b c _ ih=>exact .cons a b c ih
theorem jr.put{ka:Addr}{u:Value}{v:V}{d:D}(r:jr K cA U H kvs xs)(hk:Rep K cA U H (jh k) (.ref ka))(hu:RelV v u)(hv:Rep K cA U H d v):jr K cA U H (jE k d kvs) (storedH xs k ka u):=by
 unfold jE storedH;rw[r.isSome];by_cases e:(cg k kvs).isSome=true
 ·rw[if_pos e,if_pos e];clear e
  induction r with
  |nil=>exact .nil
  |@cons j d' ka' u' v' r xs GD hu' RG q ih=>
   rw[jV,jV];show jr K cA U H ((if j=k then (j,d) else (j,d'))::_) ((if j=k then (j,ka',u) else (j,ka',u'))::_);by_cases e:j=k
   ·rw[if_pos e,if_pos e];exact .cons GD hu hv ih
   ·rw[if_neg e,if_neg e];exact .cons GD hu' RG ih
 ·rw[if_neg e,if_neg e];exact r.app (.cons hk hu hv .nil)
end
section
variable {X:Cx}{cA:Cl}{ao:List (Addr×Obj)}{Z:L2.St}{H:Hp}{s:Shared}{U:Ph}{a:Addr}{kvs:iV}{xs:m5}{k:List Kx}{y v:V}{u:Value}{A:Around}{E:Value->Shared->Prop}
theorem U9(I:Inv X ao Z H s)(e:H a=some (uV a xs))(r:jr X.K cA U H kvs xs):(a==sysModules)=false/\xs.length<=sizeLine/\s.heap.DictOfH (jP X.prog X.w) a xs:=by
 have z:=(I.hok a _ e).1;obtain⟨h1,h2,o,es,ep,h3,h4,h5,h6,h7⟩:=z;refine⟨h1,h2,o,es,ep,h3,h4,h5,h6,?_,h7⟩;clear h2 h6 h7 e
 induction r with
 |nil=>exact λx hx=>nomatch hx
 |cons hk hu hv q ih=>exact List.forall_mem_cons.mpr ⟨sX I hk rfl,ih⟩
theorem U_{d:D}(hk:Rep X.K cA U H (jh k) y):∃b,y=.ref b:=by cases hk;exact⟨_,rfl⟩
noncomputable def tGx(K:W.Frag)(cA:Cl)(td ty:TE):TE:=λZ H Q=>td Z H λx H1=>ty Z H1 λy H2=>∃a U kvs xs k d,x=.ref a/\H2 a=some (uV a xs)/\jr K cA U H2 kvs xs/\Rep K cA U H2 (jh k) y/\cg k kvs=some d/\∀v,Rep K cA U H2 d v->Q v H2
noncomputable def tIx(K:W.Frag)(cA:Cl)(f:Bool->Bool)(ty td:TE):TE:=λZ H Q=>ty Z H λy H1=>td Z H1 λx H2=>∃a U kvs xs k,x=.ref a/\H2 a=some (uV a xs)/\jr K cA U H2 kvs xs/\Rep K cA U H2 (jh k) y/\Q (.bl (f (cg k kvs).isSome)) H2
noncomputable def sPx(K:W.Frag)(cA:Cl)(td ty tv:TE):TS:=λD Z H=>tv Z H λv H1=>td Z H1 λx H2=>ty Z H2 λy H3=>∃a b U kvs xs k d,x=.ref a/\H3 a=some (uV a xs)/\jr K cA U H3 kvs xs/\y=.ref b/\Rep K cA U H3 (jh k) y/\Rep K cA U H3 d v/\kvs.length<sizeLine /\
 ∀u,RelV v u->D.nx Z (upd H3 a (uV a (storedH xs k b u)))
variable {o i value:Expr}{pos pos':Pos}{td ty tv:TE}
theorem zns(hu:X.A.units+5<cLine)(ho:PE X o td)(hi:PE X i ty)(hs:Dk i):PE X (.Subscript o i pos) (tGx X.K cA td ty):=by
 intro ao s Z H Q I h;refine zjZ PySem.F.slot_dict_getitem.lookup hs (aW (ho ao s Z H _ I h) λu s1 hx=>fu hx λx H1 I1 rx q1=>aW (hi ao s1 Z H1 _ I1 q1) λiv s2 ⟨y,H2,I2,ry,a,U,kvs,xs,k,d,ex,ea,rr,rk,g,q2⟩=>?_);subst ex;obtain rfl:u=Value.ref a:=rx;obtain⟨b,rfl⟩:=U_ (d:=d) rk;obtain rfl:iv=Value.ref b:=ry;obtain⟨z1,z2,dd⟩:=U9 I2 ea rr;rcases rr.at (k:=k) with ⟨z,_⟩|⟨d',p,v,z,hp,rv,rd⟩
 ·rw[g] at z;cases z
 ·rw[g] at z;cases z;exact⟨dd.typeIs,wpAny_getItem_heap (knd:=jP X.prog X.w) (show X.A.units+1+4<cLine by lia) (sX I2 rk rfl) dd hp ⟨v,H2,I2.tok _,rv,q2 v rd⟩⟩
theorem zmN(hu:X.A.units+5<cLine)(hi:PE X i ty)(ho:PE X o td):PC X .NotIn i o (tIx X.K cA not ty td):=by
 intro ao s Z H Q I h;refine aW (hi ao s Z H _ I h) λiv s1 hx=>fu hx λy H1 I1 ry q1=>aW (ho ao s1 Z H1 _ I1 q1) λu s2 ⟨x,H2,I2,rx,a,U,kvs,xs,k,ex,ea,rr,rk,q2⟩=>?_;subst ex;obtain rfl:u=Value.ref a:=rx;obtain⟨b,rfl⟩:=U_ (d:=.non) rk;obtain rfl:iv=Value.ref b:=ry;obtain⟨z1,z2,dd⟩:=U9 I2 ea rr;exact wpAny_notIn_heap (knd:=jP X.prog X.w) (show X.A.units+1+4<cLine by lia) (sX I2 rk rfl) z1 dd ⟨_,H2,I2.tok _,by rw[rr.isSome];rfl,q2⟩
theorem zfk{xs:m5}{b:Addr}{u:Value}:(storedH xs k b u).length<=xs.length+1:=by
 unfold storedH
 split
 ·rw[cR];lia
 ·simp
theorem zmY(hu:X.A.units+5<cLine)(ho:PE X o td)(hi:PE X i ty)(hv:PE X value tv)(hs:swapsWith value (some (.Subscript o i pos')) pos.line X.env=pure false):PS X (.Assign [.Subscript o i pos'] value pos) (sPx X.K cA td ty tv):=by
 intro ao s Z H D I h;refine wpAny_Assign_Subscript (aW (hv ao s Z H _ I h) λr s1 hx=>fu hx λv H1 I1 rv q1=>aW (ho ao s1 Z H1 _ I1 q1) λu s2 hx=>fu hx λx H2 I2 rx q2=>aW (hi ao s2 Z H2 _ I2 q2) λiv s3 ⟨y,H3,I3,ry,a,b,U,kvs,xs,k,d,ex,ea,rr,ey,rk,rd,hl,q3⟩=>?_) hs;subst ex ey;obtain rfl:u=Value.ref a:=rx;obtain rfl:iv=Value.ref b:=ry;obtain⟨z1,z2,dd⟩:=U9 I3 ea rr;have vf:xs.length+1<=sizeLine:=by rw[<-rr.len];exact hl
 refine wpAny_setItem_heap (knd:=jP X.prog X.w) (hsz:=z2) (show X.A.units+1+4<cLine by lia) (sX I3 rk rfl) dd λh' dd' KH=>⟨Z,_,?_,q3 r rv⟩;obtain⟨q,es,ep,hq,h2,h3,h4,_,h5⟩:=dd';exact zjD I3 (by rw[ea];exact True.intro) KH ⟨q,hq⟩ ⟨⟨z1,jW zfk vf,q,es,ep,hq,h2,h3,h4,h5⟩,⟨q,hq⟩,λh1 h2 ⟨a1,a2,o,es,ep,a3,a4⟩ kp=>⟨a1,a2,o,es,ep,kp o a3,a4⟩⟩
theorem znZ:PE X (.Dict [] [] pos) (λ_ H Q=>∀p,H p=none->Q (.ref p) (upd H p (uV p []))):=λao s Z H Q I h=>
 wpAny_Dict_empty ⟨.ref s.heap.objs.size,_,I.laid (a:=s.heap.objs.size) (o:=uV s.heap.objs.size []) (t':=s.toks) (λ_ _ q=>cj _ q) (bQ _)
  ⟨⟨Er.mpr (Ne.symm (cU I.big)),rY _,_,#[],0,eN _ rfl,⟨rfl,rfl,rfl⟩,rfl,rfl,Bl⟩,⟨_,eN _ rfl⟩,λh1 h2 ⟨a1,a2,o,es,ep,a3,a4⟩ kp=>⟨a1,a2,o,es,ep,kp o a3,a4⟩⟩,rfl,h _ (I.hok.fresh (bQ _))⟩
end
section
variable {X:Cx}{cA:Cl}{aq:Nat->Nat->Bool}{aj:Bool}{F:Fn}{EX:XS}{a b:Expr}{A B:E}{pos p:Pos}{K:W.Frag}{U:Ph}{H:Hp}{s:S}
theorem Va{β:Type}{x:Xv}{v:V}{k:List Kx->M β}{P:β->S->Ph->Hp->Prop}{Ee:Nat->List D->S->Ph->Hp->Prop}(r:aU K cA U H x v)(h:Run K cA (M.bd (key x) k) U H s P Ee):∃kx,Rep K cA U H (jh kx) v/\Run K cA (k kx) U H s P Ee:=by
 cases r with
 |l _=>exact h.elim
 |@d y _ r=>
  obtain⟨kx,e,h2⟩:=Run.m7 (o:=kOf y) h;rw[zmy e] at r;exact⟨kx,r,h2⟩
theorem Vb{β:Type}{x:Xv}{v:V}{k:Nat×iV->M β}{P:β->S->Ph->Hp->Prop}{Ee:Nat->List D->S->Ph->Hp->Prop}(hS:aD K cA U H s)(r:aU K cA U H x v)(h:Run K cA (M.bd (gj x) k) U H s P Ee) :
  ∃n ad kvs xs,x=.l n/\v=.ref ad/\s[n]?=some (.dct kvs)/\U.l[n]?=some ad/\H ad=some (uV ad xs)/\jr K cA U H kvs xs/\Run K cA (k (n,kvs)) U H s P Ee:=by
 cases r with
 |d _=>exact h.elim
 |@l n ad hl=>
  unfold Run M.bd gj at h;dsimp only at h;cases e:s[n]? with
  |none=>rw[e] at h;exact h.elim
  |some o=>
   rw[e] at h;cases o with
   |dct kvs=>
    obtain⟨xs,q1,q2⟩:=hS.obj n _ _ e hl;exact⟨n,ad,kvs,xs,rfl,rfl,e,hl,q1,q2,h⟩
   |_=>exact h.elim
theorem zlH{k:Nat}(hr:bB k X.A)(ha:JE X cA aq aj F EX a A)(hb:JE X cA aq aj F EX b B)(hs:Dk b:=by exact λ_ _=>rfl):JE X cA aq aj F EX (.Subscript a b pos) (.ql A B):=⟨PE.weak (zns (cA:=cA) (by have:=hr.un;lia) ha.o hb.o hs) λZ H Q hh=>un hh λU J s hL hS h=>by
 refine bw hL hS h λx H1 U1 d1 s1 x1 hL1 aJ r1 h1=>bw hL1 aJ h1 λy H2 U2 d2 s2 x2 hL2 aR r2 h2=>?_;obtain⟨kx,rk,h3⟩:=Va r2 h2;obtain⟨n,ad,kvs,xs,_,rfl,e1,e2,e3,rr,h4⟩:=Vb aR (r1.mono x2 aJ.lz) h3;have h4:Run X.K cA (M.opt ((cg kx kvs).map Xv.d)) U2 H2 s2 (λd _ U' H'=>∀v,aU X.K cA U' H' d v->Q v H') (eX X.K cA EX Z):=h4;cases e:cg kx kvs with
 |none=>rw[e] at h4;exact h4.elim
 |some d=>
  rw[e] at h4;exact⟨ad,U2,kvs,xs,kx,d,rfl,e3,rr,rk,e,λv rv=>h4.bH aR v (.d rv)⟩⟩
theorem ziV{b':Bool}{Z:L2.St}{Q:VK}(f:Bool->Bool)(hf:∀c,f c=(c==b'))(hh:tE X.K cA EX (ev aq aj F (.CK b' A B)) Z H Q):tIx X.K cA f (tE X.K cA EX (ev aq aj F A)) (tE X.K cA EX (ev aq aj F B)) Z H Q:=un hh λU J s hL hS h=>by
 refine bw hL hS h λx H1 U1 d1 s1 x1 hL1 aJ r1 h1=>bw hL1 aJ h1 λy H2 U2 d2 s2 x2 hL2 aR r2 h2=>?_;obtain⟨kx,rk,h3⟩:=Va (r1.mono x2 aJ.lz) h2;obtain⟨n,ad,kvs,xs,_,rfl,e1,e2,e3,rr,h4⟩:=Vb aR r2 h3;refine⟨ad,U2,kvs,xs,kx,rfl,e3,rr,rk,?_⟩;rw[hf];exact h4.bH aR _ (.d (.bl _))
theorem zfH{m:Vs->M Xv}{Z:L2.St}{Q:Bool->Hp->Prop}(hh:rC K cA EX (λJ=>M.bd (m J) bool) Z H Q):tE K cA EX m Z H λx H1=>∃c,x=.bl c/\Q c H1:=un hh λU J s hL hS h=>
 ⟨U,J,s,hL,hS,h.bd.imp λd s1 U1 H1 ⟨_,r1,h1⟩ v rv=>zhC r1 rv h1⟩
theorem zlW{k:Nat}(hr:bB k X.A)(ha:JE X cA aq aj F EX a A)(hb:JE X cA aq aj F EX b B)(h1:oY b=true:=by rfl):JT X cA aq aj F EX (.Compare a [.NotIn] [b] pos) (.CK false A B):=⟨PT.weak (Ri (zmN (cA:=cA) (by have:=hr.un;lia) ha.o hb.o) (yO h1)) λZ H Q hh=>ziV not (λc=>by cases c<;>rfl) (zfH hh)⟩
theorem zmb:JE X cA aq aj F EX (.Dict [] [] pos) .sO:=⟨PE.weak znZ λZ H Q hh=>un hh λU J s hL hS h p hp=>
 h (U.add p) _ (Ext.add hp) (hS.J_ hp ⟨[],iJ,.nil⟩) _ (.l (by show (U.l++[p])[s.length]?=_;rw[<-hS.len];simp))⟩
end
section
variable {X:Cx}{cA:Cl}{aq:Nat->Nat->Bool}{aj:Bool}{F:Bool->Fn}{EX:XS}{a oo ii:Expr}{A O I':E}{pos p:Pos}
theorem zlA{k:Nat}(hr:bB k X.A)(hO:JE X cA aq aj (F aj) EX oo O)(hI:JE X cA aq aj (F aj) EX ii I')(ha:JE X cA aq aj (F aj) EX a A)(hs:swapsWith a (some (.Subscript oo ii p)) pos.line X.env=pure false:=by rfl) :
  JS X cA aq aj F EX (.Assign [.Subscript oo ii p] a pos) (.dput O I' A):=⟨PS.weak (zmY (cA:=cA) (by have:=hr.un;lia) hO.o hI.o ha.o hs) λD Z H hh=>un hh λU J s hL hS h=>by
 refine bw hL hS (aV.ofM hL hS.lz h) λz H1 U1 d1 s1 x1 hL1 aJ r1 h1=>?_;obtain⟨w,_,lE,h2⟩:=Oj r1 h1;refine bw hL1 aJ h2 λx H2 U2 d2 s2 x2 hL2 aR r2 h3=>bw hL2 aR h3 λy H3 U3 d3 s3 x3 oU gO r3 h4=>?_;obtain⟨kx,rk,h5⟩:=Va r3 h4;obtain⟨n,ad,kvs,xs,_,rfl,e1,e2,e3,rr,h6⟩:=Vb gO (r2.mono x3 aR.lz) h5;obtain⟨b,rfl⟩:=U_ (X:=X) (d:=.non) rk;have rw3:=(lE.mono x2 aJ.lz).mono x3 aR.lz;by_cases hz:kvs.length<sizeLine
 ·refine⟨ad,b,U3,kvs,xs,kx,w,rfl,e3,rr,rfl,rk,rw3,hz,λu ru=>?_⟩;have h6:Run X.K cA (if kvs.length<sizeLine then putD n (jE kx w kvs) else M.no) U3 H3 s3 _ _:=h6;rw[if_pos hz] at h6;have x4:Ext U3 H3 U3 (upd H3 ad (uV ad (storedH xs kx b u))):=Ext.write e2 ⟨_,e3⟩;have rS:=gO.uW (so:=.dct (jE kx w kvs)) (ho:=uV ad (storedH xs kx b u)) (dW.mp e1).1 e2 ⟨_,iJ,(rr.put rk ru rw3).map λ_ _ r=>r.mono x4 gO.lz⟩;obtain⟨x5,r5,h7⟩:=h6 U3 _ x4 rS;exact h7 U3 _ Z Ext.refl rS (oU.mono x4 gO.lz)
 ·have h6:Run X.K cA (if kvs.length<sizeLine then putD n (jE kx w kvs) else M.no) U3 H3 s3 _ _:=h6;rw[if_neg hz] at h6;exact h6.elim⟩
end
end Mi
namespace Mi
open PySem PySem.Spec PyProof.Rows L2 PySem.W
theorem zlj{fd:FuncData}{x:Str}{st:Stmt}(h:nQ fd=wA x st):fd=fnOf x x (aY st) (aM st) (au st) .none fd.kwdefaults fd.doc fd.pyModule fd.annotations fd.code fd.closureTuple:=by
 cases fd;unfold nQ wA at h;cases h;rfl
noncomputable def fQ(K:Frag)(x:Str):Addr:=match xK K x with
 |some p=>p.1
 |none=>0
noncomputable def fdOf(K:Frag)(x:Str)(st:Stmt):FuncData:=match xK K x with
 |some p=>p.2
 |none=>wA x st
structure FnAt(K:Frag)(x:Str)(st:Stmt):Prop where
 ns:nsIn K mainGlobals x=some (some (.ref (fQ K x)))
 fn:oW K x x st (fQ K x) (fdOf K x st)
theorem znk{K:Frag}{x:Str}{st:Stmt}(h:(xK K x).map (λp=>nQ p.2)=some (wA x st)):FnAt K x st:=by
 cases e:xK K x with
 |none=>rw[e] at h;cases h
 |some p=>
  rw[e] at h;have hp:nQ p.2=wA x st:=cI h;have h1:fQ K x=p.1:=by unfold fQ;rw[e]
  have h2:fdOf K x st=p.2:=by unfold fdOf;rw[e]
  unfold xK at e;split at e
  ·rename_i f hf;split at e
   ·rename_i oc od fd sl hl;split at e
    ·rename_i hc;cases e;rw[gG] at hc;refine⟨by rw[h1];exact hf,?_⟩;rw[h1,h2];exact⟨⟨oc,od,_,_,_,_,_,_,sl,zlj hp,hl,hc.1⟩,hc.2⟩
    ·cases e
   ·cases e
  ·cases e
theorem FnAt.m{K:Frag}{x:Str}{st:Stmt}(F:FnAt K x st){h:Heap}{mg:Str->Option Value}(X:K.In h)(G:h.Ns mainGlobals mg):mg x=some (.ref (fQ K x)):=mg_of X G F.ns
theorem znf{K:Frag}{x:Str}(h:uq K x=true){hp:Heap}{mg:Str->Option Value}(X:K.In hp)(G:hp.Ns mainGlobals mg):mg x=some (.ref (dX K x)):=by
 refine mg_of X G ?_;unfold uq at h;unfold dX;split at h
 ·rename_i C e;rw[e]
 ·cases h
theorem Vc{K:Frag}{x:Str}{i:Int}(h:mH K (x,i)=true){hp:Heap}{mg:Str->Option Value}(X:K.In hp)(G:hp.Ns mainGlobals mg):∃t,mg x=some (.int i t):=by
 unfold mH at h;split at h
 ·rename_i j t e;rw[Fb] at h;subst h;exact⟨t,mg_of X G e⟩
 ·cases h
theorem qC{K:Frag}{x:Str}(h:qN K x=true){hp:Heap}{mg:Str->Option Value}(X:K.In hp)(G:hp.Ns mainGlobals mg):mg x=none:=by
 refine mg_none_of X G ?_;unfold qN at h;split at h
 ·rename_i e;exact e
 ·cases h
structure Ai(l:Lk)(K:Frag):Prop where
 cl:∀x∈l.HY,uq K x=true
 cs:l.HY.isEmpty=true\/zK K (l.L K)=true
 ra:∀k∈l.X8,HX K (iW (l.L K) k)=true
 ca:∀k∈l.X_,subB K (l.L K) k=true
 it:∀p∈l.xM,mH K p=true
 no:∀x∈l.X7,qN K x=true
theorem Kab{l:Lk}{K:Frag}(h:l.good K=true):Ai l K:=by
 unfold Lk.good at h;simp only[gG,Nb,jo] at h;obtain⟨⟨⟨⟨⟨h1,h2⟩,h3⟩,h4⟩,h5⟩,h6⟩:=h;exact⟨h1,h2,h3,h4,h5,h6⟩
theorem yR{K:Frag}{x:Str}{st:Stmt}{f:Addr}{fd:FuncData}{p:Str}(F:oW K x x st f fd)(h:∀(kV doc pm:Value) (an:Option Addr) (cdv ct a:Value),bindArgs (fnOf x x (aY st) (aM st) (au st) .none kV doc pm an cdv ct) ⟨[a],[]⟩=pure [(p,a)]):Binds K fd [p] []:=by
 obtain⟨oc,od,kV,doc,pm,an,cdv,ct,osl,rfl,lk,iK⟩:=F.ex;exact Dn (h kV doc pm an cdv ct)
theorem yS{K:Frag}{x:Str}{st:Stmt}{f:Addr}{fd:FuncData}{p q:Str}(F:oW K x x st f fd)(h:∀(kV doc pm:Value) (an:Option Addr) (cdv ct a b:Value),bindArgs (fnOf x x (aY st) (aM st) (au st) .none kV doc pm an cdv ct) ⟨[a,b],[]⟩=pure [(p,a),(q,b)]):Binds K fd [p,q] []:=by
 obtain⟨oc,od,kV,doc,pm,an,cdv,ct,osl,rfl,lk,iK⟩:=F.ex;exact vm (h kV doc pm an cdv ct)
theorem yU{K:Frag}{x:Str}{st:Stmt}{f:Addr}{fd:FuncData}{p q t:Str}(F:oW K x x st f fd)(h:∀(kV doc pm:Value) (an:Option Addr) (cdv ct a b c:Value),bindArgs (fnOf x x (aY st) (aM st) (au st) .none kV doc pm an cdv ct) ⟨[a,b,c],[]⟩=pure [(p,a),(q,b),(t,c)]):Binds K fd [p,q,t] []:=by
 obtain⟨oc,od,kV,doc,pm,an,cdv,ct,osl,rfl,lk,iK⟩:=F.ex;exact vo (h kV doc pm an cdv ct)
theorem yV{K:Frag}{x:Str}{st:Stmt}{f:Addr}{fd:FuncData}{p q t u:Str}(F:oW K x x st f fd)(h:∀(kV doc pm:Value) (an:Option Addr) (cdv ct a b c d:Value),bindArgs (fnOf x x (aY st) (aM st) (au st) .none kV doc pm an cdv ct) ⟨[a,b,c,d],[]⟩=pure [(p,a),(q,b),(t,c),(u,d)]):Binds K fd [p,q,t,u] []:=by
 obtain⟨oc,od,kV,doc,pm,an,cdv,ct,osl,rfl,lk,iK⟩:=F.ex;exact vp (h kV doc pm an cdv ct)
theorem Ds{K:Frag}{x:Str}{st:Stmt}{f:Addr}{fd:FuncData}{p:Str}(F:oW K x x st f fd)(h:∀(kV doc pm:Value) (an:Option Addr) (cdv ct a:Value),bindArgs (fnOf x x (aY st) (aM st) (au st) .none kV doc pm an cdv ct) ⟨[a],[]⟩=pure [(p,a)]):∀(s:Shared) (u:Value),BindsTo s fd ⟨[u],[]⟩ [(p,u)]:=by
 obtain⟨oc,od,kV,doc,pm,an,cdv,ct,osl,rfl,lk,iK⟩:=F.ex;exact λs u=>.of_eq (h kV doc pm an cdv ct u)
end Mi
namespace Mi
open PySem PySem.Spec PyProof.Rows L2
theorem zdd:∀{is:List Nat} {ds:List α} {J J':List (Option α)},gw is ds J=some J'->∀j,j∉is->J'[j]?=J[j]?
 |[],[],J,J',e,j,_=>by cases e;rfl
 |[],_::_,J,J',e,j,_=>by cases e
 |_::_,[],J,J',e,j,_=>by cases e
 |i::is,d::ds,J,J',e,j,h=>by
  have h1:=zdd (is:=is) (ds:=ds) e j (λz=>h (iI _ z));rw[h1,qK (λz=>h (by rw[z];exact lA))]
theorem zhs{tg:List Nat}{x:D}{J J':Vs}(e:dZ tg x J=some J')(j:Nat)(h:j∉tg):J'[j]?=J[j]?:=by
 unfold dZ at e;split at e
 ·cases e;rw[qK (λz=>h (by simp[z]))]
 ·cases ht:kj x with
  |none=>rw[ht] at e;cases e
  |some ds=>rw[ht] at e;exact zdd e j h
theorem zg7{many:Nat}{fr:List Nat}{J:Vs}{i:Nat}(h:i<many):(blk many fr J)[i]?=some none:=by
 unfold blk;rw[pB (by simpa using h),Ay,if_pos h]
section
variable {K:W.Frag}{cA:Cl}{U U' kI:Ph}{H H' m6:Hp}{s:S}
theorem Ext.put{Dd:Addr}{us vs:List V}(x:Ext U H U' (upd H' Dd (.lst us)))(k:Keep U H Dd us):Ext U (upd H Dd (.lst vs)) U' (upd H' Dd (.lst vs)):=by
 obtain⟨r,er,hr⟩:=x.more;have nD:∀b,H b=none->b≠Dd:=λb e z=>by rw[z,k.at_] at e;cases e
 refine⟨⟨r,er,λb hb=>by rw[bT (nD b (hr b hb))];exact hr b hb⟩,x.qx,λa z=>?_,λa o e t n=>?_,λa o e=>?_⟩
 ·rcases x.kE a z with z|z
  ·exact .inl z
  ·exact .inr (by rw[bT (nD a z)];exact z)
 ·by_cases z:a=Dd
  ·subst z;rw[iJ] at e ⊢;exact e
  ·rw[bT z] at e ⊢;have:=x.frame a o e t n;rw[bT z] at this;exact this
 ·by_cases z:a=Dd
  ·subst z;exact⟨_,iJ⟩
  ·rw[bT z] at e ⊢;have:=x.stay a o e;rw[bT z] at this;exact this
theorem aX.slots{Z Z':L2.St}{J:Vs}{is:List Nat}(h:aX K cA U H Z J)(hl:Z'.length=Z.length)(he:∀j,j∉is->Z'[j]?=Z[j]?)(hn:∀i∈is,∀x,J[i]?≠some (some x)):aX K cA U H Z' J:=by
 refine⟨hl.trans h.1,λi x e=>?_⟩;obtain⟨v,a,b⟩:=h.2 i x e;exact⟨v,by rw[he i λz=>hn i z x e];exact a,b⟩
end
section
variable {X:Cx}{cA:Cl}{aq:Nat->Nat->Bool}{aj:Bool}{F:Fn}{EX:XS}{elt iter tg iter₂ tg₂:Expr}{A B:E}{pos p:Pos}{ifs:List Expr}{scope:Scope}{N:List Str}{cond:Eo}{fr aO aO₂:List Nat}{many:Nat}{fz:Bool}{w w₂:Wk}
theorem ziy{K:W.Frag}{g:TG}{U1 U':Ph}{H1 H':Hp}{s':S}{Z3:L2.St}{J':Vs}{Dd:Addr}{acc:List D}{vs:List V}{β:Type}{kk:List D->M β}{P:β->S->Ph->Hp->Prop}{Ee:Nat->List D->S->Ph->Hp->Prop}{c:Src}{n:Nat}{aZ:It}
  (hT:gA K cA g aO) (eE:∀i∈aO,i<many) (gU:∀i∈aO,∀x,J'[i]?≠some (some x)) (hD:H1 Dd=none) (x2:Ext U1 H1 U' H') (hL:aX K cA U' H' Z3 J') (aR:aD K cA U' H' s') (kp:Keep U' H' Dd vs) (pG:aC K cA U' H' acc vs) (hJ:jK K cA c U' H' aZ)
  (h:Run K cA (M.bd (walk c (bU aq aj F B cond aO J') (n+1) 0 acc) kk) U1 H1 s' P Ee) {Nn:L2.St->Hp->Prop}
  (hN:∀Z4 H4 U4 s4 KJ vs4,Z4.length=Z3.length->(∀i,i∉aO->Z4[i]?=Z3[i]?)->Ext U1 H1 U4 H4->Ext U' H' U4 (upd H4 Dd (.lst vs))->aD K cA U4 H4 s4->Keep U4 H4 Dd vs4->aC K cA U4 H4 KJ vs4->Run K cA (kk KJ) U1 H1 s4 P Ee->Nn Z4 H4) :
  S7 g (rC K cA (λ_ _ _ _=>False) (oO aq aj F cond)) (tE K cA (λ_ _ _ _=>False) (ev aq aj F B)) Dd aZ Z3 H' Nn:=by
 refine⟨λi m KN m6=>m=n+1-i/\(KN.length=Z3.length/\∀j,j∉aO->KN[j]?=Z3[j]?)/\∃kI s'' gY vs'',Ext U1 H1 kI m6/\Ext U' H' kI (upd m6 Dd (.lst vs))/\aD K cA kI m6 s''/\Keep kI m6 Dd vs''/\aC K cA kI m6 gY vs'' /\
  Run K cA (M.bd (walk c (bU aq aj F B cond aO J') (n+1-i) i gY) kk) U1 H1 s'' P Ee,⟨n+1,rfl,⟨rfl,λ_ _=>rfl⟩,U',s',acc,vs,x2,by rw[Gq kp.at_];exact Ext.refl,aR,kp,pG,h⟩,?_⟩
 rintro i m KN m6 ⟨rfl,hZ,kI,s'',gY,vs'',x3,xb,gO,k3,r3,h3⟩;have ox:cL kI (upd m6 Dd (.lst vs)) m6:=λa o e nz=>by
  rw[bT (λz=>nz (by rw[z];exact k3.z))] at e;exact e
 have oU:aX K cA kI m6 KN J':=((hL.mono xb aR.lz).out ox).slots hZ.1 hZ.2 gU;cases ek:n+1-i with
 |zero=>rw[ek] at h3;exact h3.elim
 |succ k=>
  rw[ek] at h3;cases ei:c.at i s'' with
  |none=>
   exfalso
   unfold Run M.bd walk at h3;simp only[ei] at h3
  |some oi=>
   cases oi with
   |none=>
    refine .inl ⟨hJ.stop kI _ m6 s'' i xb ox gO ei,?_⟩;have h4:Run K cA (kk gY) U1 H1 s'' P Ee:=by
     unfold Run M.bd walk at h3;simp only[ei] at h3;exact h3
    exact hN KN m6 kI s'' gY vs'' hZ.1 hZ.2 x3 xb gO k3 r3 h4
   |some xi=>
    refine .inr ⟨hJ.go kI _ m6 s'' i xi xb ox gO ei,λZ2 H2=>(Z2.length=Z3.length/\∀j,j∉aO->Z2[j]?=Z3[j]?)/\∃kI s'' gY vs'',Ext U1 H1 kI H2/\Ext U' H' kI (upd H2 Dd (.lst vs))/\aD K cA kI H2 s''/\Keep kI H2 Dd vs''/\aC K cA kI H2 gY vs'' /\
     Run K cA (M.bd (walk c (bU aq aj F B cond aO J') k (i+1) gY) kk) U1 H1 s'' P Ee,λZ2 H2 hn=>⟨k,by omega,by omega,hn.1,?_⟩,λv H2 hy=>?_⟩
    ·have:n+1-(i+1)=k:=by omega
     rw[this];exact hn.2
    ·obtain⟨gr,rx⟩:=hJ.uD kI _ m6 s'' i xi v H2 xb ox gO ei hy;have h4:Run K cA (M.bd (bU aq aj F B cond aO J' xi gY) λacc'=>M.bd (walk c (bU aq aj F B cond aO J') k (i+1) acc') kk) U1 H1 s'' P Ee:=by
      have h5:=Uj (m':=M.bd (bU aq aj F B cond aO J' xi gY) λacc'=>walk c (bU aq aj F B cond aO J') k (i+1) acc') (by rw[walk];simp only[ei]) h3;rw[gW] at h5;exact h5
     have kg:=k3.mono gr.ext;have xg:Ext U' H' kI (upd H2 Dd (.lst vs)):=xb.trans (Ext.put (us:=vs'') (vs:=vs) (by rw[Gq kg.at_];exact gr.ext) k3);refine tG hT (x3.trans gr.ext) hD (oU.mono gr.ext gO.lz) (gO.grow gr) kg (r3.mono gr.ext gO.lz) rx h4 λZ3' H3 U3 s3 m8 yI l3 f3 x3' xe Vd k3' r3' h6=>⟨⟨l3.trans hZ.1,λj hj=>(f3 j hj).trans (hZ.2 j hj)⟩,U3,s3,m8,yI,x3',xg.trans (Ext.put (us:=vs'') (vs:=vs) xe kg),Vd,k3',r3',h6⟩
where
 tG {K:W.Frag} {g:TG} {U1 U':Ph} {H1 H2:Hp} {s':S} {Z':L2.St} {Jb:Vs} {Dd:Addr} {acc:List D} {vs:List V} {xi:D} {v:V} {β:Type} {kk:List D->M β} {P:β->S->Ph->Hp->Prop} {Ee:Nat->List D->S->Ph->Hp->Prop} (hT:gA K cA g aO)
  (x2:Ext U1 H1 U' H2) (hD:H1 Dd=none) (hL2:aX K cA U' H2 Z' Jb) (aR:aD K cA U' H2 s') (kp:Keep U' H2 Dd vs) (pG:aC K cA U' H2 acc vs) (rx:Rep K cA U' H2 xi v)
  (h:Run K cA (M.bd (bU aq aj F B cond aO Jb xi acc) kk) U1 H1 s' P Ee) {Nn:L2.St->Hp->Prop}
  (hN:∀Z3 H3 U3 s3 m8 yI,Z3.length=Z'.length->(∀i,i∉aO->Z3[i]?=Z'[i]?)->Ext U1 H1 U3 H3->Ext U' H2 U3 (upd H3 Dd (.lst vs))->aD K cA U3 H3 s3->Keep U3 H3 Dd yI->aC K cA U3 H3 m8 yI->Run K cA (kk m8) U1 H1 s3 P Ee->Nn Z3 H3) :
  g v Z' H2 λZ3 H3=>rC K cA (λ_ _ _ _=>False) (oO aq aj F cond) Z3 H3 λok H4=>
   if ok=true then tE K cA (λ_ _ _ _=>False) (ev aq aj F B) Z3 H4 λy H5=>∃ys,H5 Dd=some (.lst ys)/\ys.length<sizeLine/\Nn Z3 (upd H5 Dd (.lst (ys++[y]))) else Nn Z3 H4:=by
  unfold bU at h;rw[gW] at h;obtain⟨J',e1,h1⟩:=Run.m7 h;refine hT.run U' H2 s' Z' Jb J' xi v _ hL2 aR rx e1 λZ3 oU Dl Gs=>?_;rw[gW] at h1;refine⟨U',J',s',oU,aR,(Kv x2 h1).imp λok s4 U4 H4 ⟨x4,rE,h6⟩=>?_⟩;cases ok with
  |false=>
   refine iF (hN Z3 H4 U4 s4 acc vs Dl Gs (x2.trans x4) (by rw[Gq (kp.mono x4).at_];exact x4) rE (kp.mono x4) (pG.mono x4 aR.lz) ?_);rw[if_neg Tc] at h6;exact h6
  |true=>
   rw[if_pos rfl,gW] at h6;refine iT ⟨U4,J',s4,oU.mono x4 aR.lz,rE,(Kv (x2.trans x4) h6).imp λy s5 U5 H5 ⟨x5,Kw,h7⟩ u ru=>?_⟩;rw[gW] at h7;have k5:=(kp.mono x4).mono x5;have r5:=(pG.mono x4 aR.lz).mono x5 rE.lz;have Uk:=(x2.trans x4).trans x5;obtain⟨dd,ey,rd,h8⟩ : ∃d,y=.d d/\Rep K cA U5 H5 d u/\Run K cA (M.bd (if acc.length<sizeLine then M.ret (acc++[d]) else M.no) kk) U1 H1 s5 P Ee:=by
    cases ru with
    |l _=>exact h7.elim
    |d r=>exact⟨_,rfl,r,h7⟩
   by_cases hz:acc.length<sizeLine
   ·rw[if_pos hz] at h8;refine⟨vs,k5.at_,by rw[<-r5.len];exact hz,?_⟩;have ox:cL U5 H5 (upd H5 Dd (.lst (vs++[u]))):=k5.ext.1;exact hN Z3 _ U5 s5 (acc++[dd]) (vs++[u]) Dl Gs (Ext.keep (vs:=vs) Uk hD) (by rw[Yc,Gq k5.at_];exact x4.trans x5) (Kw.keep k5) k5.ext.2 ((r5.app (.cons rd .nil)).out ox) h8
   ·rw[if_neg hz] at h8;exact h8.elim
noncomputable abbrev gZ(aq:Nat->Nat->Bool)(aj:Bool)(F:Fn)(B:E)(cond:Eo)(aO aO₂:List Nat)(w₂:Wk)(Jb:Vs):D->List D->M (List D):=λd acc=>M.bd (M.opt (dZ aO d Jb)) λJ'=>M.bd (M.qt (jg aq aj F w₂ J')) λqu=>
    walk qu.1 (bU aq aj F B cond aO₂ J') (qu.2+1) 0 acc
theorem zeW{g₁ g:TG}(hT:gA X.K cA g₁ aO)(eE:∀i∈aO,i<many)(hT₂:gA X.K cA g aO₂)(eE₂:∀i∈aO₂,i<many)(Dt:∀i∈aO₂,i∉aO){Z:L2.St}{H:Hp}{Q:VK}(hh:tE X.K cA EX (ev aq aj F (.oG fz B aO w aO₂ w₂ fr many cond)) Z H Q) :
  uP (tI X.K cA EX (jg aq aj F w)) (bI many fr) g₁ (tI X.K cA (λ_ _ _ _=>False) (jg aq aj F w₂)) g (rC X.K cA (λ_ _ _ _=>False) (oO aq aj F cond)) (tE X.K cA (λ_ _ _ _=>False) (ev aq aj F B)) Z H Q:=un hh λU J s hL hS h=>by
 by_cases dj:aj=true
 ·have h:Run X.K cA (if aj=true then M.bd (jg aq aj F w J) λcn=>M.bd (walk cn.1 (gZ aq aj F B cond aO aO₂ w₂ (blk many fr J)) (cn.2+1) 0 []) λxs=>newL fz xs else M.no) U H s (λd _ U' H'=>∀v,aU X.K cA U' H' d v->Q v H') (eX X.K cA EX Z):=h;rw[if_pos dj] at h;refine⟨U,J,s,hL,hS,h.bd.imp λcn s1 U1 H1 ⟨x1,aJ,h1⟩ aZ hJ=>?_⟩;have hL1:=hL.mono x1 hS.lz;obtain⟨c,n⟩:=cn;dsimp only at h1 hJ;intro Dd hD;obtain⟨x0,Ul,k0⟩:=zcp aJ hD;have Dm:∀{Z':L2.St},(Z'.length=many+fr.length/\∀i,many<=i->Z'[i]?=(bI many fr Z)[i]?)->∀{U' H'},Ext U1 H1 U' H'->aX X.K cA U' H' Z' (blk many fr J):=λ{Z'} hZ {U' H'} x=>zft (hL1.mono x aJ.lz) hZ.1 λi j v e1 e2=>by
   rw[hZ.2 _ (by omega)];unfold bI;rw[pK Zaa,Hg,gM,show many+i-many=i by omega,e1];simp[e2]
  refine⟨λi m Z' H'=>m=n+1-i/\(Z'.length=many+fr.length/\∀i,many<=i->Z'[i]?=(bI many fr Z)[i]?)/\∃U' s' acc vs,Ext U1 H1 U' H'/\aD X.K cA U' H' s'/\Keep U' H' Dd vs/\aC X.K cA U' H' acc vs /\
   Run X.K cA (M.bd (walk c (gZ aq aj F B cond aO aO₂ w₂ (blk many fr J)) (n+1-i) i acc) λxs=>newL fz xs) U1 H1 s' (λd _ U' H'=>∀v,aU X.K cA U' H' d v->Q v H') (eX X.K cA EX Z),⟨n+1,rfl,⟨by simp[bI],λi _=>rfl⟩,U1.mark Dd,s1,[],[],x0,Ul,k0,.nil,h1⟩,?_⟩
  rintro i m Z' H' ⟨rfl,hZ,U',s',acc,vs,x2,aR,kp,pG,h3⟩;have hL2:=Dm hZ x2;cases ek:n+1-i with
  |zero=>rw[ek] at h3;exact h3.elim
  |succ k=>
   rw[ek] at h3;cases ei:c.at i s' with
   |none=>
    exfalso
    unfold Run M.bd walk at h3;simp only[ei] at h3
   |some oi=>
    cases oi with
    |none=>
     refine .inl ⟨hJ.stop U' H' H' s' i x2 cL.refl aR ei,?_⟩;have h4:Run X.K cA (newL fz acc) U1 H1 s' (λd _ U' H'=>∀v,aU X.K cA U' H' d v->Q v H') (eX X.K cA EX Z):=by
      unfold Run M.bd walk at h3;simp only[ei] at h3;exact h3
     exact zdh h4 x2 hD (aJ.nz hD) aR kp pG
    |some xi=>
     refine .inr ⟨hJ.go U' H' H' s' i xi x2 cL.refl aR ei,λZ2 H2=>(Z2.length=many+fr.length/\∀i,many<=i->Z2[i]?=(bI many fr Z)[i]?)/\∃U' s' acc vs,Ext U1 H1 U' H2/\aD X.K cA U' H2 s'/\Keep U' H2 Dd vs/\aC X.K cA U' H2 acc vs /\
      Run X.K cA (M.bd (walk c (gZ aq aj F B cond aO aO₂ w₂ (blk many fr J)) k (i+1) acc) λxs=>newL fz xs) U1 H1 s' (λd _ U' H'=>∀v,aU X.K cA U' H' d v->Q v H') (eX X.K cA EX Z),λZ2 H2 hn=>⟨k,by omega,by omega,hn.1,?_⟩,λv H2 hy=>?_⟩
     ·have:n+1-(i+1)=k:=by omega
      rw[this];exact hn.2
     ·obtain⟨gr,rx⟩:=hJ.uD U' H' H' s' i xi v H2 x2 cL.refl aR ei hy;have h4:Run X.K cA (M.bd (M.opt (dZ aO xi (blk many fr J))) λJ'=>M.bd (M.qt (jg aq aj F w₂ J')) λqu=>M.bd (walk qu.1 (bU aq aj F B cond aO₂ J') (qu.2+1) 0 acc) λacc'=>M.bd (walk c (gZ aq aj F B cond aO aO₂ w₂ (blk many fr J)) k (i+1) acc') λxs=>newL fz xs) U1 H1 s' (λd _ U' H'=>∀v,aU X.K cA U' H' d v->Q v H') (eX X.K cA EX Z):=by
       have h5:=Uj (m':=M.bd (gZ aq aj F B cond aO aO₂ w₂ (blk many fr J) xi acc) λacc'=>walk c (gZ aq aj F B cond aO aO₂ w₂ (blk many fr J)) k (i+1) acc') (by rw[walk];simp only[ei]) h3;rw[gW] at h5;unfold gZ at h5;rw[gW] at h5;have e:(λJ'=>M.bd (M.bd (M.qt (jg aq aj F w₂ J')) λqu=>walk qu.1 (bU aq aj F B cond aO₂ J') (qu.2+1) 0 acc) λacc'=>M.bd (walk c (gZ aq aj F B cond aO aO₂ w₂ (blk many fr J)) k (i+1) acc') λxs=>newL fz xs)=λJ'=>M.bd (M.qt (jg aq aj F w₂ J')) λqu=>M.bd (walk qu.1 (bU aq aj F B cond aO₂ J') (qu.2+1) 0 acc) λacc'=>M.bd (walk c (gZ aq aj F B cond aO aO₂ w₂ (blk many fr J)) k (i+1) acc') λxs=>newL fz xs:=funext λJ'=>gW _ _ _;rw[<-e];exact h5
      obtain⟨J',e1,h6⟩:=Run.m7 h4;have gO:=aR.grow gr;refine hT.run U' H2 s' Z' _ J' xi v _ (hL2.mono gr.ext aR.lz) gO rx e1 λZ3 oU Dl Gs=>?_;have kg:=kp.mono gr.ext;have rg:=pG.mono gr.ext aR.lz;have xg:=x2.trans gr.ext;refine⟨U',J',s',oU,gO,(Kv xg h6).imp λqu s4 U4 H4 ⟨x4,rE,h7⟩ aZ₂ hJ₂=>?_⟩;refine ziy (many:=many) hT₂ eE₂ (λi hi x z=>?_) hD (xg.trans x4) (oU.mono x4 gO.lz) rE (kg.mono x4) (rg.mono x4 gO.lz) hJ₂ h7 λZ4 H5 U5 s5 Ve vs5 l5 f5 x5 _ Kw k5 r5 h8=>⟨⟨l5.trans (Dl.trans hZ.1),λi hi=>?_⟩,U5,s5,Ve,vs5,x5,Kw,k5,r5,h8⟩
      ·rw[zhs e1 i (Dt i hi),zg7 (eE₂ i hi)] at z;cases z
      ·rw[f5 i λz=>absurd (eE₂ i z) (Fw.mpr hi),Gs i λz=>absurd (eE i z) (Fw.mpr hi)];exact hZ.2 i hi
 ·have h:Run X.K cA (if aj=true then M.bd (jg aq aj F w J) λcn=>M.bd (walk cn.1 (gZ aq aj F B cond aO aO₂ w₂ (blk many fr J)) (cn.2+1) 0 []) λxs=>newL fz xs else M.no) U H s (λd _ U' H'=>∀v,aU X.K cA U' H' d v->Q v H') (eX X.K cA EX Z):=h;rw[if_neg dj] at h;exact h.elim
end
section
variable {X:Cx}{cA:Cl}{aq:Nat->Nat->Bool}{aj:Bool}{F:Bool->Fn}{EX:XS}{elt iter tg iter₂ tg₂:Expr}{A B:E}{pos p:Pos}{ifs:List Expr}{scope:Scope}{N:List Str}{cond:Eo}{fr aO aO₂:List Nat}{many:Nat}{fz:Bool}{w w₂:Wk}{i:Nat}{y:Str}
theorem zg6(hc:X.aj=true)(rG:X.N.Nodup)(qg:X.N[i]?=some y)(hx:Loc X.env.scope y)(hf:X.fn y=true\/X.env.scope.names.lookup y=some .local)(B':cN X.env.scope scope)(hi:SI X cA aq aj (F aj) EX tg iter w)(hN:N.length=many+fr.length)
  (qY:∀(i:Nat) (y:Str) (j:Nat),N[many+i]?=some y->fr[i]?=some j->scope.names.lookup y=some .free/\X.N[j]?=some y)
  (hg₁:∀cl C s3 H3 fp ao,PG (X.blk scope cl N C s3 H3 fp ao) tg g₁) (hT:gA X.K cA g₁ aO) (eE:∀i∈aO,i<many) (hi₂:∀cl C s3 H3 fp ao,SI (X.blk scope cl N C s3 H3 fp ao) cA aq aj (F aj) (λ_ _ _ _=>False) tg₂ iter₂ w₂)
  (hg:∀cl C s3 H3 fp ao,PG (X.blk scope cl N C s3 H3 fp ao) tg₂ g) (hT₂:gA X.K cA g aO₂) (eE₂:∀i∈aO₂,i<many) (Dt:∀i∈aO₂,i∉aO)
  (ht:∀cl C s3 H3 fp ao,Gp (X.blk scope cl N C s3 H3 fp ao) cA aq aj (F aj) (λ_ _ _ _=>False) ifs cond) (he:∀cl C s3 H3 fp ao,SE (X.blk scope cl N C s3 H3 fp ao) cA aq aj (F aj) (λ_ _ _ _=>False) elt B)
  (uO:swapsWith (.ListComp elt [⟨tg,iter,[],0⟩,⟨tg₂,iter₂,ifs,0⟩] scope pos) (some (.Name y py)) spos.line X.env=pure true)
  (hs₂:∀env x,foldedSetIterable iter₂ env x=pure x) (hs:∀x,foldedSetIterable iter X.env x=pure x:=by intro _;rfl) :
  SS X cA aq aj F EX (.Assign [.Name y py] (.ListComp elt [⟨tg,iter,[],0⟩,⟨tg₂,iter₂,ifs,0⟩] scope pos) spos) (.asg (.nm i) (.oG fz B aO w aO₂ w₂ fr many cond)):=
 PS.weak (zdA hc rG qg hx hf B' hi (⟨hg₁,hi₂,hg,ht,he⟩ : qj X elt tg tg₂ iter₂ ifs scope N g₁ (tI X.K cA (λ_ _ _ _=>False) (jg aq aj (F aj) w₂)) g (rC X.K cA (λ_ _ _ _=>False) (oO aq aj (F aj) cond)) (tE X.K cA (λ_ _ _ _=>False) (ev aq aj (F aj) B))) hs₂ (ZY:=bI many fr) (λZ=>by simp[bI,hN]) (λZ i x v e1 e2=>Um qY Z i x v e1 e2) uO hs) λD Z H hh=>un hh λU J s hL hS h=>
  zeW hT eE hT₂ eE₂ Dt ⟨U,J,s,hL,hS,(aV.ofM hL hS.lz h).imp λd s1 U1 H1 ⟨x1,aJ,h1⟩ v rv=>h1 U1 H1 _ Ext.refl aJ ((hL.mono x1 hS.lz).set rv)⟩
noncomputable def Du(aO aO₂:List Nat)(m:Nat):Bool:=aO.all (λi=>decide (i<m))&&aO₂.all (λi=>decide (i<m) && !aO.contains i)
theorem Vf(h:Du aO aO₂ m=true):(∀i∈aO,i<m)/\(∀i∈aO₂,i<m)/\∀i∈aO₂,i∉aO:=by
 unfold Du at h;simp only[gG,jo,Fb,Bool.not_eq_true'] at h;exact⟨h.1,λi hi=>(h.2 i hi).1,λi hi z=>by have:=(h.2 i hi).2;rw[List.contains_iff_mem.mpr z] at this;cases this⟩
noncomputable def vJ:Expr->Bool
 |.Call _ _ _ _=>true
 |.Name _ _=>true
 |.BinOp _ _ _ _=>true
 |.Subscript _ _ _=>true
 |.Attribute _ _ _=>true
 |_=>false
theorem ziW(h:vJ e=true):∀env x,foldedSetIterable e env x=pure x:=by cases e<;>first|(intro _ _;rfl)|cases h
theorem zj6(i:Nat)(sc:Scope)(XN M0 N:List Str)(fr:List Nat)(hN:X.N.Nodup)(qg:X.N[i]?=some y)(hx:JK X y k)(hl:lH k=true)(hc:X.aj=true)(Kz:X.env.scope=sc)(rG:X.N=XN)(hB:sY sc scope=true)(hf:frB scope XN N fr=true)(hT:gA X.K cA g₁ aO)(hT₂:gA X.K cA g aO₂)(eE:Du aO aO₂ M0.length=true)
  (hi:JI X cA aq aj (F aj) EX tg iter w) (hg₁:∀cl C s3 H3 fp ao,JY (X.blk scope cl (M0++N) C s3 H3 fp ao) tg g₁) (hi₂:∀cl C s3 H3 fp ao,JI (X.blk scope cl (M0++N) C s3 H3 fp ao) cA aq aj (F aj) (λ_ _ _ _=>False) tg₂ iter₂ w₂) (hg:∀cl C s3 H3 fp ao,JY (X.blk scope cl (M0++N) C s3 H3 fp ao) tg₂ g)
  (ht:∀cl C s3 H3 fp ao,JC (X.blk scope cl (M0++N) C s3 H3 fp ao) cA aq aj (F aj) (λ_ _ _ _=>False) ifs cond) (he:∀cl C s3 H3 fp ao,JE (X.blk scope cl (M0++N) C s3 H3 fp ao) cA aq aj (F aj) (λ_ _ _ _=>False) elt B)
  (Dv:vJ iter₂=true:=by rfl) (uO:swapsWith (.ListComp elt [⟨tg,iter,[],0⟩,⟨tg₂,iter₂,ifs,0⟩] scope pos) (some (.Name y py)) spos.line X.env=pure true:=by rfl) (UW:X.fn y=true\/k=.local:=by first|exact .inl rfl|exact .inr rfl) (hs:∀x,foldedSetIterable iter X.env x=pure x:=by intro _;rfl) :
  JS X cA aq aj F EX (.Assign [.Name y py] (.ListComp elt [⟨tg,iter,[],0⟩,⟨tg₂,iter₂,ifs,0⟩] scope pos) spos) (.asg (.nm i) (.oG fz B aO w aO₂ w₂ fr M0.length cond)):=
 ⟨zg6 hc hN qg (wQ hx hl) (wR hx UW) (cN.of (Kz▸hB)) hi.o (Ag (rG▸hf)).1 (Ag (rG▸hf)).2 (λa b c d e f=>(hg₁ a b c d e f).o) hT (Vf eE).1 (λa b c d e f=>(hi₂ a b c d e f).o) (λa b c d e f=>(hg a b c d e f).o) hT₂ (Vf eE).2.1 (Vf eE).2.2 (λa b c d e f=>(ht a b c d e f).o) (λa b c d e f=>(he a b c d e f).o) uO (ziW Dv) hs⟩
end
section
variable {K:W.Frag}{cA:Cl}{U:Ph}{H:Hp}
theorem aC.Dw(r:aC K cA U H xs ys):∀l:List Nat,aC K cA U H (l.map λi=>xs.getD i .non) (l.map λi=>ys.getD i .non)
 |[]=>.nil
 |i::l=>by
  refine .cons ?_ (aC.Dw r l);show Rep K cA U H (xs.getD i .non) (ys.getD i .non);cases e:xs[i]? with
  |some x=>
   obtain⟨u,e1,e2⟩:=r.get e;rw[jM,jM,e,e1];exact e2
  |none=>
   have e1:ys[i]?=Option.none:=r.none e;rw[jM,jM,e,e1];exact .non
theorem aC.mem(r:aC K cA U H xs ys):∀v∈ys,∃d∈xs,Rep K cA U H d v:=by
 intro v hv;obtain⟨i,hi,e⟩:=zx hv;have e':ys[i]?=some v:=by rw[cZ hi,e]
 cases ex:xs[i]? with
 |none=>rw[r.none ex] at e';cases e'
 |some d=>
  obtain⟨u,e1,e2⟩:=r.get ex;rw[e1] at e';cases e';exact⟨d,eG ex,e2⟩
theorem zgR:∀{us ws:List D} {xs ys:List V},aC K cA U H us xs->aC K cA U H ws ys->∀{b:Bool},oJ us ws=some b->lF xs ys=some b
 |[],ws,_,ys,r1,r2,b,h=>by
  cases r1;unfold oJ at h;unfold lF;rw[<-r2.len];exact h
 |_::_,[],_,_,r1,r2,b,h=>by
  cases r2;cases r1;unfold oJ at h;unfold lF;exact h
 |x::us,y::ws,_,_,r1,r2,b,h=>by
  cases r1 with
  |cons a1 b1=>
   cases r2 with
   |cons a2 b2=>
    unfold oJ at h;split at h
    ·rename_i z;cases z
    ·rename_i z;cases z
    ·rename_i p ps q qs e1 e2;cases e1;cases e2;cases a1;cases a2;unfold lF;by_cases e:p=q
     ·rw[if_pos e] at h ⊢;exact zgR b1 b2 h
     ·rw[if_neg e] at h ⊢;exact h
    ·cases h
theorem zhw(r:aC K cA U H xs ys)(h:(xs.all jf||xs.all iw)=true):uQ K H ys (wI xs):=by
 rw[Nb] at h;rcases h with h|h
 ·left
  rw[jo] at h;refine⟨λv hv=>?_,λi j b e=>?_⟩
  ·obtain⟨d,hd,q⟩:=r.mem v hv;have:=h d hd;cases q<;>first|exact⟨_,rfl⟩|cases this
  ·unfold wI at e;cases e1:xs[i]? with
   |none=>rw[e1] at e;cases e
   |some d1=>
    cases e2:xs[j]? with
    |none=>rw[e1,e2] at e;cases d1<;>cases e
    |some d2=>
     have h1:=h d1 (eG e1);have h2:=h d2 (eG e2);rw[e1,e2] at e;obtain⟨v1,a1,b1⟩:=r.get e1;obtain⟨v2,a2,b2⟩:=r.get e2;cases d1<;>first|cases h1|skip
     cases d2<;>first|cases h2|skip
     cases b1;cases b2;cases e;exact⟨_,_,a1,a2,rfl⟩
 ·right
  rw[jo] at h;refine⟨λv hv=>?_,λi j b e=>?_⟩
  ·obtain⟨d,hd,q⟩:=r.mem v hv;have:=h d hd;unfold iw at this;split at this
   ·cases q with
    |tup t r'=>
     cases r' with
     |cons a1 b1=>
      cases a1;exact⟨_,_,_,rfl,t.jH⟩
   ·cases this
  ·unfold wI at e;cases e1:xs[i]? with
   |none=>rw[e1] at e;cases e
   |some d1=>
    cases e2:xs[j]? with
    |none=>rw[e1,e2] at e;cases d1<;>cases e
    |some d2=>
     have h1:=h d1 (eG e1);have h2:=h d2 (eG e2);rw[e1,e2] at e;obtain⟨v1,a1,b1⟩:=r.get e1;obtain⟨v2,a2,b2⟩:=r.get e2;unfold iw at h1 h2;split at h1
     ·split at h2
      ·cases b1 with
       |tup t1 r1=>
        cases b2 with
        |tup t2 r2=>exact⟨_,_,_,_,a1,a2,t1.jH,t2.jH,zgR r1 r2 e⟩
      ·cases h2
     ·cases h1
theorem zfs:bG K cA .sorted (λxs H Q=>∃l ys lt p,xs=[.ref l]/\cV K H l ys/\ys.length<64/\(2<=ys.length->uQ K H ys lt/\bf lt (PySem.W.kas_sort ys.length)=some p/\p.size=ys.length)/\∀r,H r=none->Q (.ref r) (upd H r (.lst (fP ys p)))):=by
 intro U H ds vs Q zt rs o;have o:bL K cA U H (mY ds) Q:=o;unfold mY at o;split at o
 ·rename_i xs _;obtain⟨v,rfl,r1⟩:=rs.one;obtain⟨z,e⟩:=o.some';obtain⟨zs,e1,e2⟩:=lu.mp e;subst e2;obtain⟨a,us,rfl,sq,q⟩ : ∃a us,v=.ref a/\cV K H a us/\aC K cA U H xs us:=r1;have hl:=q.len;unfold uR at e1;by_cases hk:(xs.all jf||xs.all iw)=true
  ·rw[if_pos hk] at e1;unfold iR at e1;by_cases h2:xs.length<2
   ·rw[if_pos h2] at e1;cases e1;refine⟨a,us,λ_ _=>none,#[],rfl,sq,by lia,λz=>absurd z gV,λr hr=>?_⟩;have:fP us #[]=us:=by unfold fP;rw[if_pos gV]
    rw[this];exact(o.of e) r us hr q
   ·rw[if_neg h2] at e1;by_cases nA:xs.length<64
    ·rw[if_pos nA] at e1;cases ek:bf (wI xs) (PySem.W.kas_sort xs.length) with
     |none=>rw[ek] at e1;cases e1
     |some p=>
      rw[ek] at e1;dsimp only at e1;by_cases hp:p.size=xs.length
      ·rw[if_pos hp] at e1;cases e1;refine⟨a,us,wI xs,p,rfl,sq,by lia,λ_=>⟨zhw q hk,by rw[<-hl];exact ek,by lia⟩,λr hr=>?_⟩;have:fP us p=p.toList.map λi=>us.getD i .non:=by unfold fP;rw[if_neg gV]
       rw[this];exact(o.of e) r _ hr (q.Dw p.toList)
      ·rw[if_neg hp] at e1;cases e1
    ·rw[if_neg nA] at e1;cases e1
  ·rw[if_neg hk] at e1;cases e1
 ·exact o.elim
end
section
variable {X:Cx}{cA:Cl}{aq:Nat->Nat->Bool}{aj:Bool}{F:Fn}{EX:XS}{e:Expr}{pos p:Pos}{es:List Expr}{Xs:Es}{fz:Bool}
theorem zb7:bootBuiltins "sorted"=some (.builtin "sorted"):=by decide +kernel
theorem zeA(hm:X.mg "sorted"=none)(hg:JK X "sorted" .globalImplicit)(ha:JA X cA aq aj F EX (e::es) Xs)(he:aF e=true:=by rfl)(cT:es.all aF=true:=by rfl):JE X cA aq aj F EX (.Call (.Name "sorted" p) (e::es) [] pos) (.pr fz .sorted Xs):=⟨Ab zdH zfs hg.o hm zb7 ha.o Tc Tc (bA he) (bD cT)⟩
end
section
variable {K:W.Frag}{cA:Cl}{U:Ph}{H:Hp}
theorem O8:∀{xs:List D} {k i:Nat},(enumFrom k xs)[i]?=(xs[i]?).map λd=>.tup [.int ((k+i:Nat):Int),d]
 |[],k,i=>by simp[enumFrom]
 |x::r,k,0=>by simp[enumFrom]
 |x::r,k,i+1=>by
  unfold enumFrom;rw[En,En,O8]
  congr 1
  funext d
  rw[show k+1+i=k+(i+1) by lia]
noncomputable def tH(K:W.Frag)(U:Ph)(H:Hp):Bool->Addr->List V->Prop
 |true,a,vs=>LstAt K U H a vs
 |false,a,vs=>TupAt K U H a vs
theorem tH.sk{kd:Bool}{a:Addr}{vs:List V}(h:tH K U H kd a vs):Sk kd K H a vs:=by
 cases kd
 ·exact TupAt.jH h
 ·exact LstAt.sW h
theorem tH.later{U':Ph}{H₁ H':Hp}{kd:Bool}{a:Addr}{vs:List V}(hz:∀a∈U.l,U.z a)(h:tH K U H kd a vs)(x:Ext U H U' H₁)(o:cL U' H₁ H'):tH K U' H' kd a vs:=by
 cases kd
 ·exact TupAt.later hz h x o
 ·exact LstAt.later hz h x o
theorem jK.enum{kd:Bool}{l:Addr}{xs:List D}{vs:List V}(hz:∀a∈U.l,U.z a)(h:tH K U H kd l vs)(r:aC K cA U H xs vs):jK K cA (.fix (enumFrom 0 xs)) U H (Ite K kd l):=by
 refine⟨λU' H₁ H' s' i x o hS e=>⟨vs,(h.later hz x o).sk,?_⟩,λU' H₁ H' s' i d x o hS e=>?_,λU' H₁ H' s' i d v H2 x o hS e y=>?_⟩
 ·have e:(enumFrom 0 xs)[i]?=none:=cI e;rw[O8,Option.map_eq_none_iff] at e;exact qJ.mp ((r.mono x hz).none e)
 ·have e:(enumFrom 0 xs)[i]?=some d:=cI e;rw[O8] at e;obtain⟨d',e',_⟩:=lu.mp e;obtain⟨v,q,_⟩:=r.get e';exact⟨vs,v,(h.later hz x o).sk,q⟩
 ·have e:(enumFrom 0 xs)[i]?=some d:=cI e;rw[O8] at e;obtain⟨d',e',rfl⟩:=lu.mp e;obtain⟨a,u,hn,rfl,rfl,hu⟩:=y;obtain⟨w,q,lE⟩:=((r.mono x hz).out o).get e';have:=hu vs (h.later hz x o).sk;rw[q] at this;cases this;have g:bC H' (upd H' a (.tup [.int i,u])):=bC.new hn;refine⟨g,?_⟩;rw[show ((0+i:Nat):Int)=(i:Int) by simp];exact .tup (.inl ⟨.inl iJ,hS.nz hn⟩) (.cons (.int _) (.cons (lE.mono g.ext hS.lz) .nil))
theorem Vg(h:(Src.lX n).at i s=some o):∃xs,s[n]?=some (.lst xs)/\(xs[i]?.map λx=>D.tup [.int i,x])=o:=by
 unfold Src.at at h;dsimp only at h;cases e:s[n]? with
 |none=>rw[e] at h;cases h
 |some ob=>
  rw[e] at h;cases ob with
  |lst xs=>exact⟨xs,rfl,cI h⟩
  |_=>cases h
theorem jK.lX{a:Addr}{n:Nat}(h:U.l[n]?=some a):jK K cA (.lX n) U H (Ite K true a):=by
 refine⟨λU' H₁ H' s' i x o hS e=>?_,λU' H₁ H' s' i d x o hS e=>?_,λU' H₁ H' s' i d v H2 x o hS e y=>?_⟩
 ·obtain⟨xs,e1,e2⟩:=Vg e;rw[Option.map_eq_none_iff] at e2;obtain⟨vs,q1,q2⟩:=hS.obj n _ a e1 (x.get h);exact⟨vs,cV.of q1,qJ.mp (q2.none e2)⟩
 ·obtain⟨xs,e1,e2⟩:=Vg e;obtain⟨d',e',_⟩:=lu.mp e2;obtain⟨vs,q1,q2⟩:=hS.obj n _ a e1 (x.get h);obtain⟨v,q3,_⟩:=q2.get e';exact⟨vs,v,cV.of q1,q3⟩
 ·obtain⟨xs,e1,e2⟩:=Vg e;obtain⟨d',e',rfl⟩:=lu.mp e2;obtain⟨vs,q1,q2⟩:=hS.obj n _ a e1 (x.get h);obtain⟨w,q3,lE⟩:=q2.get e';obtain⟨b,u,hn,rfl,rfl,hu⟩:=y;have:=hu vs (cV.of q1);rw[q3] at this;cases this;have g:bC H' (upd H' b (.tup [.int i,w])):=bC.new hn;exact⟨g,.tup (.inl ⟨.inl iJ,hS.nz hn⟩) (.cons (.int _) (.cons (lE.mono g.ext hS.lz) .nil))⟩
end
section
variable {X:Cx}{cA:Cl}{aq:Nat->Nat->Bool}{aj:Bool}{F:Fn}{EX:XS}{a b:Expr}{A B:E}{pos pp tpos:Pos}{elts:List Expr}{kk:Nat}
theorem ziO(qz:Gl X "enumerate")(hmg:X.mg "enumerate"=none)(hb:SE X cA aq aj F EX b B)(h2:starEach [b] X.env=(false,eval b X.env)::starEach [] X.env) :
  SI X cA aq aj F EX (.Tuple elts kk tpos) (.Call (.Name "enumerate" pp) [b] [] pos) (.enum B):=PI.weak (zj8 qz hmg (sy hb yd h2) (by rw[h2];rfl)) λZ H R hh=>un hh λU J s hL hS h=>by
 refine bw hL hS h λy H2 U2 d2 s2 x2 hL2 aR r2 h2=>?_;cases r2 with
 |@l n ad hl=>
  unfold Run oN at h2;dsimp only at h2;cases e:s2[n]? with
  |none=>rw[e] at h2;exact h2.elim
  |some o=>
   rw[e] at h2;cases o with
   |lst xs=>
    obtain⟨vs,q1,q2⟩:=aR.obj n _ _ e hl;exact⟨true,_,_,rfl,cV.of q1,h2 U2 H2 Ext.refl aR _ (jK.lX hl)⟩
   |_=>exact h2.elim
 |d r2=>
  cases r2 with
  |fl q r=>exact⟨true,_,_,rfl,q.sW,h2 U2 H2 Ext.refl aR _ (jK.enum (kd:=true) aR.lz q r)⟩
  |tup q r=>exact⟨false,_,_,rfl,q.jH,h2 U2 H2 Ext.refl aR _ (jK.enum (kd:=false) aR.lz q r)⟩
  |_=>exact h2.elim
theorem zfu:∀(ns:List Str) (vs:List V),((ns.zip vs).map (·.1)).Sublist ns
 |[],vs=>by simp
 |n::ns,[]=>by simp
 |n::ns,v::vs=>by
  rw[Hs,jV];exact(zfu ns vs).cons₂ n
theorem zfa:∀{ns:List Str} {vs:List V} {i:Nat} {x:Str} {v:V},ns.Nodup->ns[i]?=some x->vs[i]?=some v->(ns.zip vs).lookup x=some v
 |ns,vs,i,x,v,hn,h1,h2=>by
  refine Zk ?_ (zjO h1 h2);exact List.Sublist.nodup (zfu ns vs) hn
end
section
variable {X:Cx}{cA:Cl}{aq:Nat->Nat->Bool}{aj:Bool}{F:Fn}{EX:XS}{a b:Expr}{A B:E}{pos p tpos:Pos}{elts:List Expr}{kk:Nat}
theorem zii(hmg:X.mg "enumerate"=none)(qz:JK X "enumerate" .globalImplicit)(hb:JE X cA aq aj F EX b B)(h2:aF b=true:=by rfl):JI X cA aq aj F EX (.Tuple elts kk tpos) (.Call (.Name "enumerate" p) [b] [] pos) (.enum B):=⟨ziO qz.o hmg hb.o (bA h2)⟩
end
end Mi
namespace Mi
open PySem PySem.Spec PyProof.Rows L2 PySem.W
theorem ziP{fd:FuncData}{q:Str}{st:Stmt}(h:nQ fd=Bs q st):fd=fnOf "__init__" q (aY st) (aM st) (au st) .none fd.kwdefaults fd.doc fd.pyModule fd.annotations fd.code fd.closureTuple:=by
 cases fd;unfold nQ Bs at h;cases h;rfl
structure KQ(K:Frag)(C:Addr)(q:Str)(st:Stmt):Prop where
 ex:∃(fI:Addr) (od:Option Addr) (kV doc pm:Value) (an:Option Addr) (cdv ct:Value) (osl:Array (Option Value)) (cd:ClassData),
  K.lookup fI=some ⟨.type "function",od,.func (fnOf "__init__" q (aY st) (aM st) (au st) .none kV doc pm an cdv ct),osl⟩/\codeIn K cdv q=true/\uo K C fI=true/\clsIn K C=some cd/\uh cd.mro=true/\cd.hasDict=true
theorem znt{K:Frag}{C:Addr}{q:Str}{st:Stmt}(h:(H_ K C).map nQ=some (Bs q st)):KQ K C q st:=by
 cases e:H_ K C with
 |none=>rw[e] at h;cases h
 |some fd=>
  rw[e] at h;have hp:nQ fd=Bs q st:=cI h;unfold H_ at e;split at e
  ·rename_i cd iK;split at e
   ·rename_i f hf;split at e
    ·rename_i od fd' sl hl;split at e
     ·rename_i hc;cases e;simp only[gG] at hc;obtain⟨⟨⟨c1,c2⟩,c3⟩,c4⟩:=hc;have eq:=ziP hp;have qn:fd.qualname=q:=by rw[eq]
      refine⟨⟨f,od,fd.kwdefaults,fd.doc,fd.pyModule,fd.annotations,fd.code,fd.closureTuple,sl,cd,?_,by rw[<-qn];exact c1,c2,iK,c3,c4⟩⟩;rw[<-eq];exact hl
     ·cases e
    ·cases e
   ·cases e
  ·cases e
theorem znS{K:Frag}{C:Addr}{f:Str}(h:Ni K C f=true):XF K C f:=by
 unfold Ni at h;simp only[gG,nM] at h;obtain⟨⟨⟨⟨h1,h2⟩,h3⟩,h4⟩,h5⟩:=h;exact⟨h1,h2,h3,h4,h5⟩
structure oZ(fs:List (Str×Stmt))(ms:List ur)(xs:List (Nat×Str))(l:Lk)(K:Frag):Prop where
 fn:∀p∈fs,FnAt K p.1 p.2
 gd:Ai l K
 mi:∀m∈ms,KQ K (iW (l.L K) m.c) m.q m.st
 se:∀m∈ms,setB K (iW (l.L K) m.c) m.fs=true
 xf:∀x∈xs,XF K (iW (l.L K) x.1) x.2
theorem Vh{a:Nat}{o:Obj}:∀{l:List Obj} {i:Nat},((a:Addr),o)∈Ia i l->i<=a/\l[a-i]?=some o/\o.isFreed=false
 |[],i,h=>by cases h
 |p::r,i,h=>by
  unfold Ia at h;split at h
  ·obtain⟨h1,h2,h3⟩:=Vh h;refine⟨by lia,?_,h3⟩;rw[show a-i=(a-(i+1))+1 by lia];exact h2
  ·rename_i hf;rcases jA.mp h with e|h
   ·cases e;exact⟨bQ _,by simp,(Bool.or_eq_false_iff.mp hf).1⟩
   ·obtain⟨h1,h2,h3⟩:=Vh h;refine⟨by lia,?_,h3⟩;rw[show a-i=(a-(i+1))+1 by lia];exact h2
theorem Vi:∀{K:Frag},K.lookup a=some o->(a,o)∈K
 |[],h=>by cases h
 |(b,p)::r,h=>by
  rw[pN] at h;by_cases e:a=b
  ·subst e;simp only[Fd] at h;cases h;exact lA
  ·rw[show (a==b)=false by simpa using e] at h;exact iI _ (Vi h)
theorem zhF:(bR h).In h:=λa o e=>by
 have hm:=Vi e;unfold bR at hm;rcases mC.mp hm with z|z
 ·unfold qO at z;split at z
  ·rename_i p hp;rcases jA.mp z with e|z
   ·cases e;exact hp
   ·cases z
  ·cases z
 ·obtain⟨_,h2,h3⟩:=Vh (List.mem_reverse.mp z);rw[Heap.get?_some_iff];refine⟨?_,h3⟩;have:h.objs.toList[a]?=some o:=by simpa using h2
  simpa using this
end Mi
namespace Mi
open PySem PySem.Spec PyProof.Rows L2
section
variable {K:W.Frag}{cA:Cl}{U:Ph}{H:Hp}
noncomputable def jw(K:W.Frag)(U:Ph)(H:Hp):Bool->Addr->List V->Prop
 |true,a,vs=>LstAt K U H a vs
 |false,a,vs=>TupAt K U H a vs
theorem jw.sk{kd:Bool}{a:Addr}{vs:List V}(h:jw K U H kd a vs):Sk kd K H a vs:=by
 cases kd
 ·exact TupAt.jH h
 ·exact LstAt.sW h
theorem jw.later{kd:Bool}{a:Addr}{vs:List V}{U':Ph}{H₁ H':Hp}(hz:∀a∈U.l,U.z a)(h:jw K U H kd a vs)(x:Ext U H U' H₁)(o:cL U' H₁ H'):jw K U' H' kd a vs:=by
 cases kd
 ·exact TupAt.later hz h x o
 ·exact LstAt.later hz h x o
theorem Vj{xs ys:List D}{i:Nat}:(List.zipWith (λp q=>D.tup [p,q]) xs ys)[i]?=match xs[i]?,ys[i]? with
  |some p,some q=>some (.tup [p,q])
  |_,_=>none:=by
 rw[List.getElem?_zipWith];cases xs[i]?<;>cases ys[i]?<;>rfl
theorem jK.zip{k1 k2:Bool}{l1 l2:Addr}{xs ys:List D}{us vs:List V}(hz:∀a∈U.l,U.z a)(h1:jw K U H k1 l1 us)(h2:jw K U H k2 l2 vs)(r1:aC K cA U H xs us)(r2:aC K cA U H ys vs):jK K cA (.fix (List.zipWith (λp q=>D.tup [p,q]) xs ys)) U H (Tf K k1 k2 l1 l2):=by
 refine⟨λU' H₁ H' s' i x o hS e=>?_,λU' H₁ H' s' i d x o hS e=>?_,λU' H₁ H' s' i d v H2 x o hS e y=>?_⟩
 ·have e:(List.zipWith (λp q=>D.tup [p,q]) xs ys)[i]?=none:=cI e;rw[Vj] at e;refine⟨us,vs,(h1.later hz x o).sk,(h2.later hz x o).sk,?_⟩;cases ex:xs[i]? with
  |none=>exact .inl (qJ.mp (r1.none ex))
  |some p=>
   cases ey:ys[i]? with
   |none=>exact .inr (qJ.mp (r2.none ey))
   |some q=>rw[ex,ey] at e;cases e
 ·have e:(List.zipWith (λp q=>D.tup [p,q]) xs ys)[i]?=some d:=cI e;rw[Vj] at e;cases ex:xs[i]? with
  |none=>rw[ex] at e;cases e
  |some p=>
   cases ey:ys[i]? with
   |none=>rw[ex,ey] at e;cases e
   |some q=>
    obtain⟨u,q1,_⟩:=r1.get ex;obtain⟨v,q2,_⟩:=r2.get ey;exact⟨us,vs,u,v,(h1.later hz x o).sk,(h2.later hz x o).sk,q1,q2⟩
 ·have e:(List.zipWith (λp q=>D.tup [p,q]) xs ys)[i]?=some d:=cI e;rw[Vj] at e;cases ex:xs[i]? with
  |none=>rw[ex] at e;cases e
  |some p=>
   cases ey:ys[i]? with
   |none=>rw[ex,ey] at e;cases e
   |some q=>
    rw[ex,ey] at e;cases e;obtain⟨a,u,w,hn,rfl,rfl,hu,hw⟩:=y;obtain⟨u',q1,ru⟩:=((r1.mono x hz).out o).get ex;obtain⟨w',q2,lE⟩:=((r2.mono x hz).out o).get ey;have e1:=hu us (h1.later hz x o).sk;have e2:=hw vs (h2.later hz x o).sk;rw[q1] at e1;rw[q2] at e2;cases e1;cases e2;have g:bC H' (upd H' a (.tup [u,w])):=bC.new hn;exact⟨g,.tup (.inl ⟨.inl iJ,hS.nz hn⟩) (.cons (ru.mono g.ext hS.lz) (.cons (lE.mono g.ext hS.lz) .nil))⟩
theorem zd6(r:aU K cA U H x v)(h:Run K cA (M.bd (qp x) k) U H s P Ee) :
  ∃xs kd a vs,v=.ref a/\jw K U H kd a vs/\aC K cA U H xs vs/\Run K cA (k xs) U H s P Ee:=by
 cases r with
 |l _=>exact h.elim
 |d r=>
  cases r with
  |tup q r=>exact⟨_,false,_,_,rfl,q,r,h⟩
  |fl q r=>exact⟨_,true,_,_,rfl,q,r,h⟩
  |_=>exact h.elim
end
section
variable {X:Cx}{cA:Cl}{aq:Nat->Nat->Bool}{aj:Bool}{F:Fn}{EX:XS}{a b:Expr}{A B:E}{pos pp tpos:Pos}{elts:List Expr}{kk:Nat}
theorem zmP(qz:Gl X "zip")(hmg:X.mg "zip"=none)(ha:SE X cA aq aj F EX a A)(hb:SE X cA aq aj F EX b B)(h1:starEach [a,b] X.env=(false,eval a X.env)::starEach [b] X.env)(h2:starEach [b] X.env=(false,eval b X.env)::starEach [] X.env) :
  SI X cA aq aj F EX (.Tuple elts kk tpos) (.Call (.Name "zip" pp) [a,b] [] pos) (.zip A B):=PI.weak (zlI qz hmg (sy ha (sy hb yd h2) h1) (by rw[h1,h2];rfl) (by rw[h2];rfl)) λZ H R hh=>un hh λU J s hL hS h=>by
 refine bw hL hS h λx H1 U1 d1 s1 x1 hL1 aJ r1 h1=>bw hL1 aJ h1 λy H2 U2 d2 s2 x2 hL2 aR r2 h2=>?_;obtain⟨xs,k1,l1,us,e1,q1,p1,h3⟩:=zd6 (r1.mono x2 aJ.lz) h2;obtain⟨ys,k2,l2,vs,e2,q2,p2,h4⟩:=zd6 r2 h3;subst e1 e2;exact⟨k1,k2,l1,l2,us,vs,rfl,q1.sk,q2.sk,(h4.bH aR) _ (jK.zip aR.lz q1 q2 p1 p2)⟩
theorem znp(hmg:X.mg "zip"=none)(qz:JK X "zip" .globalImplicit)(ha:JE X cA aq aj F EX a A)(hb:JE X cA aq aj F EX b B)(h1:aF a=true:=by rfl)(h2:aF b=true:=by rfl):JI X cA aq aj F EX (.Tuple elts kk tpos) (.Call (.Name "zip" p) [a,b] [] pos) (.zip A B):=⟨zmP qz.o hmg ha.o hb.o (bA h1) (bA h2)⟩
end
noncomputable def GF(i:Int)(n:Nat):List V:=(List.range n).map λk=>.int (i+(k:Nat))
theorem ziN{i:Int}{acc:Array Value}:∀{n m:Nat},(∀k v,acc.toList[k]?=some (v:Value)->∃t,v=Value.int (i+((m+k:Nat):Int)) t)->acc.toList.length=n->Vals ((List.range n).map λk=>V.int (i+((m+k:Nat):Int))) acc.toList:=by
 generalize acc.toList=l
 induction l with
 |nil=>intro n m _ e;subst e;exact .nil
 |cons v l ih=>
  intro n m h e;subst e;rw[h_,QJ,jV,xG];refine .cons (h 0 v rfl) ?_;have:=ih (n:=l.length) (m:=m+1) (λk v e=>by
   have:=h (k+1) v e;rw[show m+1+k=m+(k+1) by lia];exact this) rfl
  have e:((λk=>V.int (i+((m+k:Nat):Int)))∘Nat.succ)=λk=>V.int (i+((m+1+k:Nat):Int)):=by
   funext k
   show V.int (i+((m+(k+1):Nat):Int))=_;rw[show m+(k+1)=m+1+k by lia]
  rw[e];exact this
section
variable {K:W.Frag}{cA:Cl}{U:Ph}{H:Hp}
theorem zgj:∀l:List Nat,aC K cA U H (l.map λk=>D.int (i+(k:Nat))) (l.map λk=>V.int (i+(k:Nat)))
 |[]=>.nil
 |_::l=>.cons (.int _) (zgj l)
end
end Mi
namespace Mi
open PySem PySem.Spec PyProof.Rows L2 PySem.W
structure D3(K:Frag)(mg:Str->Option Value)(x:Str)(st:Stmt)(ps:List Str):Prop where
 f:oW K x x st (fQ K x) (fdOf K x st)
 m:mg x=some (.ref (fQ K x))
 b:Binds K (fdOf K x st) ps []
theorem dk{p:Prop}(h:p:=by decide +kernel):p:=h
section
variable {fs:List (Str×Stmt)}{ms:List ur}{xs:List (Nat×Str)}{lk:Lk}{K:Frag}{h:Heap}{mg:Str->Option Value}{x:Str}{st:Stmt}
theorem qD(S:oZ fs ms xs lk K)(X:K.In h)(G:h.Ns mainGlobals mg)(j:Nat)(hj:fs[j]?=some (x,st):=by rfl)(hb:∀(kV doc pm:Value) (an:Option Addr) (cdv ct a:Value),bindArgs (fnOf x x (aY st) (aM st) (au st) .none kV doc pm an cdv ct) ⟨[a],[]⟩=pure [(p,a)]:=by intros;rfl):D3 K mg x st [p]:=have F:=S.fn (x,st) (eG hj);⟨F.fn,F.m X G,yR F.fn hb⟩
theorem pJ(S:oZ fs ms xs lk K)(X:K.In h)(G:h.Ns mainGlobals mg)(j:Nat)(hj:fs[j]?=some (x,st):=by rfl)(hb:∀(kV doc pm:Value) (an:Option Addr) (cdv ct a b:Value),bindArgs (fnOf x x (aY st) (aM st) (au st) .none kV doc pm an cdv ct) ⟨[a,b],[]⟩=pure [(p,a),(q,b)]:=by intros;rfl):D3 K mg x st [p,q]:=have F:=S.fn (x,st) (eG hj);⟨F.fn,F.m X G,yS F.fn hb⟩
theorem wU(S:oZ fs ms xs lk K)(X:K.In h)(G:h.Ns mainGlobals mg)(j:Nat)(hj:fs[j]?=some (x,st):=by rfl)(hb:∀(kV doc pm:Value) (an:Option Addr) (cdv ct a b c:Value),bindArgs (fnOf x x (aY st) (aM st) (au st) .none kV doc pm an cdv ct) ⟨[a,b,c],[]⟩=pure [(p,a),(q,b),(t,c)]:=by intros;rfl):D3 K mg x st [p,q,t]:=have F:=S.fn (x,st) (eG hj);⟨F.fn,F.m X G,yU F.fn hb⟩
theorem zn9(S:oZ fs ms xs lk K)(X:K.In h)(G:h.Ns mainGlobals mg)(j:Nat)(hj:fs[j]?=some (x,st):=by rfl)(hb:∀(kV doc pm:Value) (an:Option Addr) (cdv ct a b c d:Value),bindArgs (fnOf x x (aY st) (aM st) (au st) .none kV doc pm an cdv ct) ⟨[a,b,c,d],[]⟩=pure [(p,a),(q,b),(t,c),(u,d)]:=by intros;rfl):D3 K mg x st [p,q,t,u]:=have F:=S.fn (x,st) (eG hj);⟨F.fn,F.m X G,yV F.fn hb⟩
theorem mG{α:Type}{l:List α}{a:α}(j:Nat)(h:l[j]?=some a:=by rfl):a∈l:=eG h
end
end Mi
namespace Mi
open PySem PySem.Spec PyProof.Rows L2
end Mi
namespace Mi
open PySem
def W{α:Type}(m:M α)(s:S)(P:α->S->Prop):Prop:=∃a s',m s=some (.ok a,s')/\P a s'
def WS(m:MS)(s:S)(Q:Out->S->Prop):Prop:=∃o s',m s=some (o,s')/\Q o s'
section
variable {α β:Type}{m:M α}{k:α->M β}{s:S}{P:α->S->Prop}{R:β->S->Prop}
theorem W.bd(h:W m s λa s'=>W (k a) s' R):W (M.bd m k) s R:=by
 obtain⟨a,s',e,b,s2,e2,r⟩:=h;exact⟨b,s2,by unfold M.bd;rw[e];exact e2,r⟩
theorem W.ret{a:α}(h:P a s):W (M.ret a) s P:=⟨a,s,rfl,h⟩
theorem W.qt(h:W m s P):W (M.qt m) s P:=by
 obtain⟨a,s',e,p⟩:=h;exact⟨a,s',by unfold M.qt;rw[e],p⟩
theorem W.opt(e:o=some a)(h:P a s):W (M.opt o) s P:=by subst e;exact⟨a,s,rfl,h⟩
theorem W.imp{P':α->S->Prop}(h:W m s P)(f:∀a s',P a s'->P' a s'):W m s P':=let ⟨a,s',e,p⟩:=h;⟨a,s',e,f a s' p⟩
theorem W.eq(e:m s=some (.ok a,s'))(p:P a s'):W m s P:=⟨a,s',e,p⟩
theorem Ka2{d:D}{P:D->S->Prop}(h:P d s):W (rd (.d d)) s P:=⟨d,s,rfl,h⟩
theorem Ka3{n:Nat}{xs:List D}{P:D->S->Prop}(e:s[n]?=some (.lst xs))(h:P (.fl xs) s):W (rd (.l n)) s P:=⟨.fl xs,s,by unfold rd;simp only[e],h⟩
theorem Ka5{P:List D->S->Prop}(h:P [] s):W (iy []) s P:=⟨[],s,rfl,h⟩
theorem Ka4{x:Xv}{r:List Xv}{P:List D->S->Prop}(h:W (rd x) s λd s1=>W (iy r) s1 λds s2=>P (d::ds) s2):W (iy (x::r)) s P:=W.bd (h.imp λd s1 h1=>W.bd (h1.imp λds s2 h2=>W.ret h2))
theorem Kax{P:List D->S->Prop}(h:P [] s):W (cJ []) s P:=⟨[],s,rfl,h⟩
theorem Kaw{d:D}{r:List Xv}{P:List D->S->Prop}(h:W (cJ r) s λds s2=>P (d::ds) s2):W (cJ (.d d::r)) s P:=W.bd (W.ret (W.bd (h.imp λds s2 h2=>W.ret h2)))
theorem W.dat{x:D}{P:D->S->Prop}(h:P x s):W (dat (.d x)) s P:=⟨x,s,rfl,h⟩
theorem W.bool{b:Bool}{P:Bool->S->Prop}(h:P b s):W (bool (.d (.bl b))) s P:=⟨b,s,rfl,h⟩
theorem W.int{b:Int}{P:Int->S->Prop}(h:P b s):W (int (.d (.int b))) s P:=⟨b,s,rfl,h⟩
theorem gB{fz:Bool}{o:Option Rz}{d:D}{P:Xv->S->Prop}(e:o=some (.dat d))(h:P (.d d) s):W (cD fz o) s P:=by subst e;exact⟨_,s,rfl,h⟩
theorem Aj{o:Option Rz}{xs:List D}{P:Xv->S->Prop}(e:o=some (.nw xs))(h:P (.d (.fl xs)) s):W (cD true o) s P:=by subst e;exact⟨_,s,rfl,h⟩
theorem KaS{xs:List D}{P:Xv->S->Prop}(h:P (.d (.fl xs)) s):W (newL true xs) s P:=⟨_,s,rfl,h⟩
theorem KaR{xs:List D}{P:Xv->S->Prop}(h:P (.l s.length) (s++[.lst xs])):W (newL false xs) s P:=⟨_,_,rfl,h⟩
theorem jQ{F:List Xv->M Xv}{xs:List Xv}{P:Xv->S->Prop}(hl:locs xs=[])(h:W (F (dN 0 xs)) [] λv _=>∃d,v=.d d/\P (.d d) s):W (cO F xs) s P:=by
 obtain⟨v,s1,e,d,rfl,p⟩:=h;refine⟨.d d,s,?_,p⟩;unfold cO;rw[hl,if_pos Bl];simp only[jG,e,dh]
theorem Kao{F:List Xv->M Xv}{xs:List Xv}{P:Xv->S->Prop}(hl:locs xs=[])(h:W (F (dN 0 xs)) [] λv s1=>∃n o,v=.l n/\s1[n]?=some o/\P (.l s.length) (s++[o])):W (cO F xs) s P:=by
 obtain⟨v,s1,e,n,o,rfl,eo,p⟩:=h;refine⟨.l s.length,s++[o],?_,p⟩;unfold cO;rw[hl,if_pos Bl];simp only[jG,e,dh,List.getElem?_nil,eo]
theorem KR{F:List Xv->M Xv}{xs:List Xv}{n:Nat}{o:SO}{P:Xv->S->Prop}(hl:locs xs=[n])(ho:s[n]?=some o)(h:W (F (dN 0 xs)) [o] λv s1=>∃d o',v=.d d/\s1=[o']/\P (.d d) (s.set n o')):W (cO F xs) s P:=by
 obtain⟨v,s1,e,d,o',rfl,rfl,p⟩:=h;refine⟨.d d,s.set n o',?_,p⟩;unfold cO;rw[hl,if_pos Zaa];simp only[jG,ho,e,dh]
end
section
variable {s:S}{Q:Out->S->Prop}
theorem WS.ofM(h:W m s λa s'=>WS (k a) s' Q):WS (Mi.ofM m J k) s Q:=by
 obtain⟨a,s',e,o,s2,e2,q⟩:=h;exact⟨o,s2,by unfold Mi.ofM;rw[e];exact e2,q⟩
theorem WS.nx(h:Q (.nx J) s):WS (λs=>some (.nx J,s)) s Q:=⟨_,s,rfl,h⟩
theorem WS.rt(h:Q (.rt x) s):WS (λs=>some (.rt x,s)) s Q:=⟨_,s,rfl,h⟩
theorem WS.imp(h:WS m s Q)(f:∀o s',Q o s'->Q' o s'):WS m s Q':=let ⟨a,s',e,p⟩:=h;⟨a,s',e,f a s' p⟩
end
theorem W.call(hT:T f=some d)(hl:xs.length=d.iB)
  (h:WS (exs aq aj (λc=>Mi.call aq T k c) d.body (xs.map some++List.replicate (d.many-d.iB) none)) s λo s'=>match o with|.nx _=>P (.d .non) s'|.rt v=>P v s'|_=>False):W (Mi.call aq T (k+1) aj f xs) s P:=by
 obtain⟨o,s',e,q⟩:=h;unfold Mi.call;simp only[hT,if_pos hl];unfold W;simp only[e];cases o with
 |nx J=>exact⟨_,_,rfl,q⟩
 |rt v=>exact⟨_,_,rfl,q⟩
 |bk J=>exact q.elim
 |ct J=>exact q.elim
 |er c fs J=>exact q.elim
theorem Ak(I:Nat->Vs->S->Prop)(h0:I 0 J s)(hb:∀i x J s,c[i]?=some x->I i J s->WS (b x J) s λo s'=>∃J',o=.nx J'/\I (i+1) J' s')
  (he:∀J s,I c.length J s->Q (.nx J) s):WS (dU (.fix c) b (c.length+1) 0 J) s Q:=by
 have key:∀n i J s,i+n=c.length->I i J s->WS (dU (.fix c) b (n+1) i J) s Q:=by
  intro n
  induction n with
  |zero=>
   intro i J s hi hI;have e:c[i]?=none:=by rw[qJ];lia
   have:i=c.length:=by lia
   subst this;refine⟨_,s,?_,he J s hI⟩;unfold dU;simp only[Src.at,e]
  |succ n ih=>
   intro i J s hi hI;have cH:i<c.length:=by lia
   have e:c[i]?=some c[i]:=cZ cH;obtain⟨o,s',eb,J',rfl,Dy⟩:=hb i c[i] J s e hI;obtain⟨o2,s2,e2,q⟩:=ih (i+1) J' s' gV Dy;refine⟨o2,s2,?_,q⟩;unfold dU;simp only[Src.at,e,eb];exact e2
 exact key c.length 0 J s gV h0
theorem zm3{i j:Int}(h:(-(2^64)<i/\i<2^64)\/(-(2^64)<j/\j<2^64)):prim .mul [.int i,.int j]=some (.dat (.int (i*j))):=by
 show Option.map _ (if _ then _ else _)=_;rw[if_pos h];rfl
theorem zn6{i j:Int}(h:0<j):prim .mod [.int i,.int j]=some (.dat (.int (i%j))):=by
 show Option.map _ (if _ then _ else _)=_;rw[if_pos h];rfl
theorem zma{i j:Int}(h:0<j/\j<1073741824):prim .fdiv [.int i,.int j]=some (.dat (.int (i/j))):=by
 show Option.map _ (if _ then _ else _)=_;rw[if_pos h];rfl
theorem zhP{i j:Int}(h:0<j/\j<1073741824):prim .divmod [.int i,.int j]=some (.dat (.tup [.int (i/j),.int (i%j)])):=by
 show Option.map _ (if _ then _ else _)=_;rw[if_pos h];rfl
theorem zn1{i j:Int}(h:0<=j/\j<=1000000/\i.natAbs<2^64):prim .pow [.int i,.int j]=some (.dat (.int (i^j.toNat))):=by
 show Option.map _ (if _ then _ else _)=_;rw[if_pos h];rfl
theorem KY{xs:List D}{i:Nat}{x:D}(h:xs[i]?=some x):prim .ix [.fl xs,.int i]=some (.dat x):=by
 show Option.map Rz.dat (L2.n8 xs i)=_;have:L2.n8 xs (i:Int)=some x:=by
  unfold L2.n8 L2.pF;have hl:i<xs.length:=(dW.mp h).1;simp[hl];exact(dW.mp h).2
 rw[this];rfl
theorem KZ(h:xs.length+ys.length<=sizeLine):prim .add [.fl xs,.fl ys]=some (.nw (xs++ys)):=by
 show (if _ then _ else _)=_;rw[if_pos h]
theorem W.ite[Decidable c](h1:c->W m1 s P)(h2:¬c->W m2 s P):W (if c then m1 else m2) s P:=by
 by_cases h:c
 ·rw[if_pos h];exact h1 h
 ·rw[if_neg h];exact h2 h
theorem WS.ite[Decidable c](h1:c->WS m1 s P)(h2:¬c->WS m2 s P):WS (if c then m1 else m2) s P:=by
 by_cases h:c
 ·rw[if_pos h];exact h1 h
 ·rw[if_neg h];exact h2 h
theorem Vk{n:Nat}{xs:List D}{s:S}{P:Unit->S->Prop}(h:P () (s.set n (.lst xs))):W (putL n xs) s P:=⟨_,_,rfl,h⟩
theorem W.cX{n:Nat}{xs:List D}{s:S}{P:Nat×List D->S->Prop}(e:s[n]?=some (.lst xs))(h:P (n,xs) s):W (cX (.l n)) s P:=⟨_,s,by unfold Mi.cX;simp only[e],h⟩
theorem Ka7{xs:List D}{s:S}{P:Src×Nat->S->Prop}(h:P (.fix xs,xs.length) s):W (src (.d (.tup xs))) s P:=⟨_,s,rfl,h⟩
theorem Ka6{xs:List D}{s:S}{P:Src×Nat->S->Prop}(h:P (.fix xs,xs.length) s):W (src (.d (.fl xs))) s P:=⟨_,s,rfl,h⟩
theorem WS.nil{aq:Nat->Nat->Bool}{aj:Bool}{F:Bool->Fn}{J:Vs}{s:S}{Q:Out->S->Prop}(h:Q (.nx J) s):WS (exs aq aj F .nil J) s Q:=⟨_,s,rfl,h⟩
theorem WS.cons{aq:Nat->Nat->Bool}{aj:Bool}{F:Bool->Fn}{a:St}{r:bZ}{J:Vs}{s:S}{Q:Out->S->Prop}(h:WS (ex aq aj F a J) s λo s'=>match o with|.nx J'=>WS (exs aq aj F r J') s' Q|.rt x=>Q (.rt x) s'|_=>False):WS (exs aq aj F (.cons a r) J) s Q:=by
 obtain⟨o,s',e,q⟩:=h;unfold WS exs Mi.cP;rw[e];cases o with
 |nx J'=>exact q
 |rt x=>exact⟨_,_,rfl,q⟩
 |bk _=>exact q.elim
 |ct _=>exact q.elim
 |er _ _ _=>exact q.elim
def wV{α:Type}(o:Option α)(P:α->Prop):Prop:=∃a,o=some a/\P a
theorem wV.mk{α:Type}{o:Option α}{P:α->Prop}{a:α}(e:o=some a)(h:P a):wV o P:=⟨a,e,h⟩
section
variable {aq:Nat->Nat->Bool}{aj:Bool}{F:Fn}{J:Vs}{s:S}{P:Xv->S->Prop}
theorem W.eC{d:D}(h:P (.d d) s):W (ev aq aj F (.c d) J) s P:=W.ret h
theorem W.eV{i:Nat}{x:Xv}(e:J[i]?.join=some x)(h:P x s):W (ev aq aj F (.v i) J) s P:=W.opt e h
theorem KaI{fz:Bool}{p:Pr}{xs:Es}(h:W (evs aq aj F xs J) s λvs s1=>W (iy vs) s1 λds s2=>W (cD fz (prim p ds)) s2 P):W (ev aq aj F (.pr fz p xs) J) s P:=W.bd (h.imp λ_ _ h=>W.bd h)
theorem Kaz{a b:E}(h:W (ev aq aj F a J) s λx s1=>W (Mi.bool x) s1 λk s2=>W (if k=true then ev aq aj F b J else M.ret (.d (.bl false))) s2 P):W (ev aq aj F (.and a b) J) s P:=W.bd (h.imp λ_ _ h=>W.bd h)
theorem KaH{a b:E}(h:W (ev aq aj F a J) s λx s1=>W (Mi.bool x) s1 λk s2=>W (if k=true then M.ret (.d (.bl true)) else ev aq aj F b J) s2 P):W (ev aq aj F (.or a b) J) s P:=W.bd (h.imp λ_ _ h=>W.bd h)
theorem KaG{a:E}(h:W (ev aq aj F a J) s λx s1=>W (Mi.bool x) s1 λk s2=>P (.d (.bl (!k))) s2):W (ev aq aj F (.not a) J) s P:=W.bd (h.imp λ_ _ h=>W.bd (h.imp λ_ _ h=>W.ret h))
theorem KaK{xs:Es}(h:W (evs aq aj F xs J) s λvs s1=>W (cJ vs) s1 λds s2=>P (.d (.tup ds)) s2):W (ev aq aj F (.tup xs) J) s P:=W.bd (h.imp λ_ _ h=>W.bd (h.imp λ_ _ h=>W.ret h))
theorem KaF{fz:Bool}{xs:Es}(h:W (evs aq aj F xs J) s λvs s1=>W (cJ vs) s1 λds s2=>W (newL fz ds) s2 P):W (ev aq aj F (.lst fz xs) J) s P:=W.bd (h.imp λ_ _ h=>W.bd h)
theorem KaC{k:Str}{i:Int}(h:P (.d (.fd [.str k] [.int i])) s):W (ev aq aj F (.JZ k i) J) s P:=W.ret h
theorem KaA{f:Nat}{xs:Es}(h:W (evs aq aj F xs J) s λvs s1=>W (cO (F f) vs) s1 P):W (ev aq aj F (.call f xs) J) s P:=W.bd h
theorem KaJ{fz:Bool}{a:E}{lo hi:Eo}(h:W (ev aq aj F a J) s λx s1=>W (yD aq aj F lo J) s1 λl s2=>W (yD aq aj F hi J) s2 λu s3=>W (rd x) s3 λd s4=>W (cD fz (cutD d l u)) s4 P):W (ev aq aj F (.sl fz a lo hi) J) s P:=W.bd (h.imp λ_ _ h=>W.bd (h.imp λ_ _ h=>W.bd (h.imp λ_ _ h=>W.bd h)))
theorem KaT{P:Option Int->S->Prop}(h:P none s):W (yD aq aj F .no J) s P:=W.ret h
theorem KaU{a:E}{P:Option Int->S->Prop}(h:W (ev aq aj F a J) s λx s1=>W (Mi.int x) s1 λi s2=>P (some i) s2):W (yD aq aj F (.yes a) J) s P:=W.bd (h.imp λ_ _ h=>W.bd (h.imp λ_ _ h=>W.ret h))
theorem Kak{P:List Xv->S->Prop}(h:P [] s):W (evs aq aj F .nil J) s P:=W.ret h
theorem Kaj{a:E}{r:Es}{P:List Xv->S->Prop}(h:W (ev aq aj F a J) s λx s1=>W (evs aq aj F r J) s1 λxs s2=>P (x::xs) s2):W (evs aq aj F (.cons a r) J) s P:=W.bd (h.imp λ_ _ h=>W.bd (h.imp λ_ _ h=>W.ret h))
theorem KaP{a:E}{P:Src×Nat->S->Prop}(h:W (ev aq aj F a J) s λx s1=>W (src x) s1 P):W (jg aq aj F (.seq a) J) s P:=W.bd h
end
section
variable {aq:Nat->Nat->Bool}{aj:Bool}{F:Bool->Fn}{J:Vs}{s:S}{Q:Out->S->Prop}
theorem WS.GJ{b:Bool}{m1 m2:MS}(e:b=true)(h:WS m1 s Q):WS (if b=true then m1 else m2) s Q:=by rw[if_pos e];exact h
theorem WS.Vl{b:Bool}{m1 m2:MS}(e:b=false)(h:WS m2 s Q):WS (if b=true then m1 else m2) s Q:=by rw[if_neg (by rw[e];decide)];exact h
theorem WS.Al{m1 m2:MS}(h:WS m1 s Q):WS (if true=true then m1 else m2) s Q:=by rw[if_pos rfl];exact h
theorem WS.Vm{m1 m2:MS}(h:WS m2 s Q):WS (if false=true then m1 else m2) s Q:=by rw[if_neg Tc];exact h
theorem Kbe{e:E}(h:W (ev aq aj (F aj) e J) s λ_ s1=>Q (.nx J) s1):WS (ex aq aj F (.ex e) J) s Q:=WS.ofM (h.imp λ_ _ h=>WS.nx h)
theorem Kbh{i:Nat}{e:E}(h:W (ev aq aj (F aj) e J) s λx s1=>Q (.nx (J.set i (some x))) s1):WS (ex aq aj F (.asg (.nm i) e) J) s Q:=WS.ofM (h.imp λ_ _ h=>WS.nx h)
theorem Kbm{is:List Nat}{e:E}(h:W (ev aq true (F true) e J) s λx s1=>W (dat x) s1 λd s2=>wV ((kj d).bind λds=>gw is (ds.map .d) J) λJ'=>Q (.nx J') s2):WS (ex aq true F (.asg (.tp is) e) J) s Q:=by
 refine WS.ofM (h.imp λx s1 h=>?_);exact WS.Al (m2:=λ_=>none) (WS.ofM (W.bd (h.imp λd s2 ⟨J',e,q⟩=>W.opt e (WS.nx q))))
theorem Kbl{o i e:E}(h:W (ev aq aj (F aj) e J) s λx s1=>W (dat x) s1 λd s2=>W (ev aq aj (F aj) o J) s2 λy s3=>W (ev aq aj (F aj) i J) s3 λz s4=>W (Mi.int z) s4 λj s5=>W (cX y) s5 λnx s6=>wV (L2.pF nx.2.length j) λq=>Q (.nx J) (s6.set nx.1 (.lst (nx.2.set q d)))):WS (ex aq aj F (.asg (.aq o i) e) J) s Q:=by
 refine WS.ofM (h.imp λx s1 h=>WS.ofM (W.bd (h.imp λd s2 h=>W.bd (h.imp λy s3 h=>W.bd (h.imp λz s4 h=>W.bd (h.imp λj s5 h=>W.bd (h.imp λnx s6 h=>?_)))))));obtain⟨q,e,h⟩:=h;simp only[e];exact Vk (WS.nx h)
theorem Kbi{i j:Nat}{a b:E}(h:W (ev aq true (F true) a J) s λx s1=>W (ev aq true (F true) b J) s1 λy s2=>Q (.nx ((J.set i (some x)).set j (some y))) s2):WS (ex aq true F (.par i j a b) J) s Q:=by
 exact WS.Al (m2:=λ_=>none) (WS.ofM (W.bd (h.imp λx s1 h=>W.bd (h.imp λy s2 h=>W.ret (WS.nx h)))))
theorem Kbj{e:E}(h:W (ev aq aj (F aj) e J) s λx s1=>Q (.rt x) s1):WS (ex aq aj F (.ret e) J) s Q:=WS.ofM (h.imp λ_ _ h=>WS.rt h)
theorem Kbg{c:E}{t e:bZ}(h:W (ev aq aj (F aj) c J) s λx s1=>W (Mi.bool x) s1 λb s2=>WS (if b=true then exs aq aj F t J else exs aq aj F e J) s2 Q):WS (ex aq aj F (.iff c t e) J) s Q:=WS.ofM (W.bd h)
theorem Kbf{t:Tg}{w:Wk}{b:bZ}(h:W (jg aq true (F true) w J) s λcn s1=>WS (dU cn.1 (λd J=>Mi.cP (store aq true (F true) t (.d d) J) λJ'=>exs aq true F b J') (cn.2+1) 0 J) s1 Q):WS (ex aq true F (.fr t w b) J) s Q:=by
 exact WS.Al (m2:=λ_=>none) (WS.ofM h)
end
theorem W.GJ{α:Type}{b:Bool}{m1 m2:M α}{s:S}{P:α->S->Prop}(e:b=true)(h:W m1 s P):W (if b=true then m1 else m2) s P:=by rw[if_pos e];exact h
theorem W.Vl{α:Type}{b:Bool}{m1 m2:M α}{s:S}{P:α->S->Prop}(e:b=false)(h:W m2 s P):W (if b=true then m1 else m2) s P:=by rw[if_neg (by rw[e];decide)];exact h
theorem W.Al{α:Type}{m1 m2:M α}{s:S}{P:α->S->Prop}(h:W m1 s P):W (if true=true then m1 else m2) s P:=by rw[if_pos rfl];exact h
theorem W.Vm{α:Type}{m1 m2:M α}{s:S}{P:α->S->Prop}(h:W m2 s P):W (if false=true then m1 else m2) s P:=by rw[if_neg Tc];exact h
structure Bx(R:Prop):Prop where
 o:R
end Mi
namespace Mi
open PySem PySem.W PyProof.Rows L2
abbrev cM(n:Nat)(p:Array Nat):Prop:=p.Perm (List.range n).toArray
theorem cM.lt(h:cM n p)(hn:0<n)(i:Nat):p.getD i 0<n:=by
 by_cases hi:i<p.size
 ·have e:p.getD i 0=p[i]:=by simp[Array.getD,hi]
  rw[e];have hm:p[i]∈(List.range n).toArray:=h.mem_iff.mp (Array.getElem_mem hi);simpa using hm
 ·have e:p.getD i 0=0:=by simp[Array.getD,hi]
  rw[e];exact hn
theorem cM.rev(h:cM n p)(i j:Nat):cM n (kas_rev p i j):=(mirror_perm p i j _).trans h
theorem cM.bub(h:cM n p)(i j:Nat):cM n (bubble p i j):=(bubble_perm p i j).trans h
def iH{α:Type}(lt:Nat->Nat->Option Bool)(t:KasT α)(P:α->Prop):Prop:=∃a,bf lt t=some a/\P a
section
variable {α β:Type}{lt:Nat->Nat->Option Bool}{n:Nat}
theorem iH.ret(h:P a):iH lt (.ret a) P:=⟨a,rfl,h⟩
theorem iH.bind(hf:∀a,P a->iH lt (f a) R):∀{t:KasT α},iH lt t P->iH lt (t.bind f) R
 |.ret a,⟨a',e,h⟩=>by cases e;exact hf _ h
 |.ask i j k,⟨a',e,h⟩=>by
  unfold bf at e;cases el:lt i j with
  |none=>rw[el] at e;cases e
  |some b=>
   rw[el] at e;obtain⟨c,e1,h1⟩:=iH.bind hf (t:=k b) ⟨a',e,h⟩;refine⟨c,?_,h1⟩;show bf lt (.ask i j λb=>(k b).bind f)=some c;unfold bf;rw[el];exact e1
def Tot(n:Nat)(lt:Nat->Nat->Option Bool):Prop:=∀i j,i<n->j<n->∃b,lt i j=some b
variable (ht:Tot n lt)(hn:0<n)
include ht hn
end
section
variable {lt:Nat->Nat->Option Bool}{n:Nat}
theorem zgO(h:∀k,1<=k->k<n->lt (p.getD k 0) (p.getD (k-1) 0)=some false):∀f k,1<=k->k+f=n->iH lt (kas_asc p f k) λr=>r=n
 |0,k,h1,e=>.ret gV
 |f+1,k,h1,e=>by
  obtain⟨a,e1,e2⟩:=zgO h f (k+1) gV gV;refine⟨a,?_,e2⟩;unfold kas_asc bf;rw[h k h1 gV];exact e1
theorem zdY(hk:k<n):(List.range n).toArray.getD k 0=k:=by
 simp[Array.getD,hk]
theorem zfU(hn:0<n)(h:∀k,k+1<n->lt (k+1) k=some false):bf lt (kas_sort n)=some (List.range n).toArray:=by
 have h1:iH lt (kas_asc (List.range n).toArray (n-1) 1) λr=>r=n:=zgO (λk a b=>by
  rw[zdY b,zdY gV];have:=h (k-1) gV
  rwa [show k-1+1=k by lia] at this) _ _ (bQ _) gV
 have h2:iH lt (kas_count n (List.range n).toArray) λr=>r=(n,(List.range n).toArray):=by
  refine iH.bind (λr hr=>?_) h1;subst hr;rw[if_pos Zaa];exact .ret rfl
 have h3:iH lt (kas_sort n) λr=>r=(List.range n).toArray:=by
  refine iH.bind (λr hr=>?_) h2;subst hr;rw[if_neg (pD _)];exact .ret rfl
 obtain⟨a,e,rfl⟩:=h3;exact e
end
theorem zg5(hk:(xs.all jf||xs.all iw)=true)(nA:xs.length<64)(h:∀k,k+1<xs.length->wI xs (k+1) k=some false):uR xs=some xs:=by
 unfold uR;rw[if_pos hk];unfold iR;by_cases h2:xs.length<2
 ·rw[if_pos h2]
 ·rw[if_neg h2,if_pos nA,zfU gV h];dsimp only;rw[if_pos Zaa]
  congr 1
  apply List.ext_getElem
  ·simp
  ·intro i a b;simp[jM,b]
noncomputable def dG(p:Int×Int):D:=.tup [.int p.1,.int p.2]
end Mi
namespace Mi
open PySem
theorem W.walk{c:List D}{f:D->List D->M (List D)}{s:S}{acc:List D}{P:List D->S->Prop}(I:Nat->List D->S->Prop)(h0:I 0 acc s)(hb:∀i x acc s,c[i]?=some x->I i acc s->W (f x acc) s λa s'=>I (i+1) a s')
  (he:∀acc s,I c.length acc s->P acc s):W (Mi.walk (.fix c) f (c.length+1) 0 acc) s P:=by
 have key:∀n i acc s,i+n=c.length->I i acc s->W (Mi.walk (.fix c) f (n+1) i acc) s P:=by
  intro n
  induction n with
  |zero=>
   intro i acc s hi hI;have e:c[i]?=none:=by rw[qJ];lia
   have:i=c.length:=by lia
   subst this;refine⟨acc,s,?_,he acc s hI⟩;unfold Mi.walk;simp only[Src.at,e]
  |succ n ih=>
   intro i acc s hi hI;have cH:i<c.length:=by lia
   have e:c[i]?=some c[i]:=cZ cH;obtain⟨a,s',eb,Dy⟩:=hb i c[i] acc s e hI;obtain⟨a2,s2,e2,q⟩:=ih (i+1) a s' gV Dy;refine⟨a2,s2,?_,q⟩;unfold Mi.walk;simp only[Src.at,e,M.bd,eb];exact e2
 exact key c.length 0 acc s gV h0
section
variable {aq:Nat->Nat->Bool}{F:Fn}{J:Vs}{s:S}{P:Xv->S->Prop}
theorem Kas{fz:Bool}{elt:E}{tg:List Nat}{it:Wk}{fr:List Nat}{many:Nat}{cond:Eo}{c:List D}(g:D->Option D)(hc:c.length<=sizeLine)
  (hw:W (jg aq true F it J) s λcn s1=>cn=(.fix c,c.length)/\s1=s)
  (hb:∀x∈c,∃J',dZ tg x (blk many fr J)=some J'/\W (oO aq true F cond J') s λb s1=>s1=s/\(if b=true then W (ev aq true F elt J') s λy s2=>s2=s/\∃d,y=.d d/\g x=some d else g x=none))
  (h:W (newL fz (c.filterMap g)) s P):W (ev aq true F (.comp fz elt tg it fr many cond) J) s P:=by
 change W (_root_.ite (true=true) _ _) s P
 rw[if_pos rfl];refine W.bd (hw.imp λcn s1=>?_);rintro⟨rfl,rfl⟩;refine W.bd ?_;refine W.walk (c:=c) (λi acc s'=>s'=s1/\acc=(c.take i).filterMap g) ⟨rfl,rfl⟩ (λi x acc s' e hI=>?_) (λacc s' hI=>?_)
 ·obtain⟨rfl,rfl⟩:=hI;have hi:i<c.length:=(dW.mp e).1;have ht:c.take (i+1)=c.take i++[x]:=by rw[Ng,e];rfl
  have hl:((c.take i).filterMap g).length<sizeLine:=Ez (QC _ _) (by rw[Bg];lia);obtain⟨J',e1,h1⟩:=hb x (eG e);refine W.bd (W.opt e1 ?_);refine W.bd (W.qt (h1.imp λb s2=>?_));rintro⟨rfl,h2⟩;rw[ht,List.filterMap_append];cases b
  ·rw[if_neg Tc] at h2 ⊢;refine W.ret ⟨rfl,?_⟩;simp[h2]
  ·rw[if_pos rfl] at h2 ⊢;refine W.bd (W.qt (h2.imp λy s3=>?_));rintro⟨rfl,d,rfl,eg⟩;refine W.bd (W.dat ?_);rw[if_pos hl];refine W.ret ⟨rfl,?_⟩;simp[eg]
 ·obtain⟨rfl,rfl⟩:=hI;rw[Fe];exact h
end
section
variable {aq:Nat->Nat->Bool}{aj:Bool}{F:Fn}{J:Vs}{s:S}{P:Xv->S->Prop}
theorem KaD(h:W (ev aq aj F a J) s λx s1=>W (rd x) s1 λd s2=>∃b,lW aq d k=some b/\P (.d (.bl b)) s2):W (ev aq aj F (.rm a k) J) s P:=
 W.bd (h.imp λ_ _ h=>W.bd (h.imp λ_ _ ⟨_,e,h⟩=>W.bd (W.opt e (W.ret h))))
theorem KaB(h:W (ev aq aj F a J) s λx s1=>W (ev aq aj F b J) s1 λy s2=>W (iy [x,y]) s2 λds s3=>W (cD true (prim p ds)) s3 λt s4=>W (Mi.bool t) s4 λk s5=>
  W (if k=true then M.bd (ev aq aj F c J) λz=>M.bd (iy [y,z]) λds=>cD true (prim q ds) else M.ret (.d (.bl false))) s5 P):W (ev aq aj F (.zW p q a b c) J) s P:=
 W.bd (h.imp λ_ _ h=>W.bd (h.imp λ_ _ h=>W.bd (h.imp λ_ _ h=>W.bd (h.imp λ_ _ h=>W.bd h))))
end
noncomputable def K1(fz:Bool):Option Rz->Option Xv
 |some (.dat d)=>some (.d d)
 |some (.nw ys)=>match fz with
  |true=>some (.d (.fl ys))
  |false=>none
 |none=>none
noncomputable def addQ:D->D->Option Rz
 |.int i,.int j=>some (.dat (.int (i+j)))
 |_,_=>none
noncomputable def Am:List D->Option Rz
 |a::r=>match r with
  |b::r=>match r with
   |[]=>addQ a b
   |_::_=>none
  |[]=>none
 |[]=>none
noncomputable def quick:Pr->Bool
 |.sI=>false|.Gd=>false|.mul=>false|.fdiv=>false|.mod=>false|.pow=>false|.divmod=>false|.sorted=>false|.q_=>false|.JV=>false|.mult=>false|.zV=>false|.repr=>false|.str1=>false|.Zr=>false|.JF=>false|.JM=>false
 |_=>true
noncomputable def rK(p:Pr)(ds:List D):Option Rz:=match p with
 |.add=>Am ds
 |p=>match quick p with
  |true=>prim p ds
  |false=>none
theorem K3{ds:List D}{r:Rz}(h:Am ds=some r):CQ ds=some r:=by
 cases ds with
 |nil=>cases h
 |cons a t=>cases t with
  |nil=>cases h
  |cons b t=>cases t with
   |cons _ _=>cases h
   |nil=>cases a with
    |int i=>cases b with
     |int j=>exact h
     |_=>cases h
    |_=>cases h
theorem Dz{p:Pr}{ds:List D}{r:Rz}(h:rK p ds=some r):prim p ds=some r:=by
 cases p with
 |add=>exact K3 h
 |_=>first|exact h|cases h
noncomputable def Vn(fz:Bool)(ds:List D):Option Xv:=match fz with
 |true=>some (.d (.fl ds))
 |false=>none
noncomputable def K4:Xv->Option D
 |.d x=>some x
 |.l _=>none
noncomputable def obP(c:Nat):Xv->Option (List D)
 |.d (.ob e fs)=>if e=c then some fs else none
 |_=>none
noncomputable def notP:Xv->Option Xv
 |.d (.bl b)=>some (.d (.bl (!b)))
 |_=>none
noncomputable def Vo(r:Option Xv):Xv->Option Xv
 |.d (.bl true)=>r
 |.d (.bl false)=>some (.d (.bl false))
 |_=>none
noncomputable def orP(r:Option Xv):Xv->Option Xv
 |.d (.bl true)=>some (.d (.bl true))
 |.d (.bl false)=>r
 |_=>none
section
variable (aq:Nat->Nat->Bool)
mutual
noncomputable def dw:E->Vs->Option Xv
 |.c d,_=>some (.d d)
 |.v i,J=>J[i]?.join
 |.pr fz p xs,J=>(qF xs J).bind λds=>K1 fz (rK p ds)
 |.tup xs,J=>(qF xs J).bind λds=>some (.d (.tup ds))
 |.lst fz xs,J=>(qF xs J).bind λds=>Vn fz ds
 |.not a,J=>(dw a J).bind notP
 |.and a b,J=>(dw a J).bind (Vo (dw b J))
 |.or a b,J=>(dw a J).bind (orP (dw b J))
 |.rm a k,J=>(dw a J).bind λx=>(K4 x).bind λd=>(lW aq d k).bind λb=>some (.d (.bl b))
 |.of o c i,J=>(dw o J).bind λx=>(obP c x).bind λfs=>fs[i]?.map .d
 |_,_=>none
noncomputable def qF:Es->Vs->Option (List D)
 |.nil,_=>some []
 |.cons a r,J=>(dw a J).bind λx=>(K4 x).bind λd=>(qF r J).bind λds=>some (d::ds)
end
noncomputable def o7:Es->Vs->Option (List Xv)
 |.nil,_=>some []
 |.cons a r,J=>(dw aq a J).bind λx=>(o7 r J).bind λxs=>some (x::xs)
end
theorem m9{α β:Type}{o:Option α}{f:α->Option β}{b:β}(h:o.bind f=some b):∃a,o=some a/\f a=some b:=zm.mp h
theorem jx{α β:Type}{m:M α}{k:α->M β}{s s':S}{a:α}(e:m s=some (.ok a,s')):M.bd m k s=k a s':=by
 show (match m s with|some (.ok a,s')=>k a s'|some (.er c f,s')=>some (.er c f,s')|none=>none)=_;rw[e]
theorem DG(s:S):∀ds:List D,iy (ds.map .d) s=some (.ok ds,s)
 |[]=>rfl
 |d::r=>(jx (s':=s) (a:=d) rfl).trans ((jx (DG s r)).trans rfl)
theorem vK(s:S):∀ds:List D,cJ (ds.map .d) s=some (.ok ds,s)
 |[]=>rfl
 |d::r=>(jx (s':=s) (a:=d) rfl).trans ((jx (vK s r)).trans rfl)
theorem Vp{fz:Bool}{p:Pr}{ds:List D}{x:Xv}{s:S}(h:K1 fz (rK p ds)=some x):cD fz (prim p ds) s=some (.ok x,s):=by
 cases o:rK p ds with
 |none=>rw[o] at h;cases h
 |some r=>
  rw[o] at h;rw[Dz o];cases r with
  |dat d=>cases h;rfl
  |nw ys=>cases fz with
   |true=>cases h;rfl
   |false=>cases h
section
variable {aq:Nat->Nat->Bool}{aj:Bool}{F:Fn}{J:Vs}{s:S}
theorem gC(e:E):∀x:Xv,dw aq e J=some x->ev aq aj F e J s=some (.ok x,s):=by
 refine E.rec (motive_1:=λe=>∀x:Xv,dw aq e J=some x->ev aq aj F e J s=some (.ok x,s)) (motive_2:=λ_=>True) (motive_3:=λxs=>∀ds:List D,qF aq xs J=some ds->evs aq aj F xs J s=some (.ok (ds.map .d),s)) (motive_4:=λ_=>True)
  ?c ?v ?pr (λ_ _ _ _ _ _ _ _ _ h=>nomatch h) (λ_ _ _ _ _ _ _ _ _ _ _ _ h=>nomatch h) ?and ?or ?not (λ_ _ _ _ _ _ _ h=>nomatch h) ?tup ?lst (λ_ _ _ h=>nomatch h) (λ_ _ _ _ h=>nomatch h) ?rm (λ_ _ _ _ _ _ _ _ h=>nomatch h) (λ_ _ _ _ _ _ _ _ h=>nomatch h) (λ_ _ _ _ _ h=>nomatch h) (λ_ _ _ h=>nomatch h)
  (λ_ _ _ _ _ _ _ _ _ _ _ h=>nomatch h) (λ_ _ _ _ _ _ _ _ _ _ _ _ _ _ h=>nomatch h) (λ_ _ _ _ _ h=>nomatch h) ?of (λ_ _ _ _ _ h=>nomatch h) (λ_ _ _ _ _ _ _ h=>nomatch h) (λ_ h=>nomatch h) (λ_ _ _ _ _ _ h=>nomatch h) (λ_ _ _ _ _ h=>nomatch h) (λ_ _ _ h=>nomatch h) (λ_ _ _ _ _ _ h=>nomatch h) (λ_ _ _ _ _ h=>nomatch h) (λ_ _ _ _ _ _ _ h=>nomatch h) (λ_ h=>nomatch h)
  (λ_ _=>trivial) (λ_ _ _ _=>trivial) (λ_ _ _ _=>trivial) (λ_ _=>trivial) (λ_ _=>trivial) ?nil ?cons trivial (λ_ _=>trivial) e
 case c=>intro d x h;cases h;rfl
 case v=>intro i x h;exact(show M.opt (J[i]?.join) s=_ from by rw[show J[i]?.join=some x from h];rfl)
 case pr=>
  intro fz p xs ih x h;obtain⟨ds,e1,e2⟩:=m9 h;exact(jx (ih _ e1)).trans ((jx (DG s ds)).trans (Vp e2))
 case tup=>
  intro xs ih x h;obtain⟨ds,e1,e2⟩:=m9 h;cases e2;exact(jx (ih _ e1)).trans ((jx (vK s ds)).trans rfl)
 case lst=>
  intro fz xs ih x h;obtain⟨ds,e1,e2⟩:=m9 h;cases fz with
  |false=>cases e2
  |true=>cases e2;exact(jx (ih _ e1)).trans ((jx (vK s ds)).trans rfl)
 case not=>
  intro a ih x h;obtain⟨y,e1,e2⟩:=m9 h;cases y with
  |l n=>cases e2
  |d y=>cases y with
   |bl b=>cases e2;exact(jx (ih _ e1)).trans rfl
   |_=>cases e2
 case and=>
  intro a b ih ih2 x h;obtain⟨y,e1,e2⟩:=m9 h;cases y with
  |l n=>cases e2
  |d y=>cases y with
   |bl b=>cases b with
    |true=>exact(jx (ih _ e1)).trans (ih2 _ e2)
    |false=>cases e2;exact(jx (ih _ e1)).trans rfl
   |_=>cases e2
 case or=>
  intro a b ih ih2 x h;obtain⟨y,e1,e2⟩:=m9 h;cases y with
  |l n=>cases e2
  |d y=>cases y with
   |bl b=>cases b with
    |true=>cases e2;exact(jx (ih _ e1)).trans rfl
    |false=>exact(jx (ih _ e1)).trans (ih2 _ e2)
   |_=>cases e2
 case rm=>
  intro a k ih x h;obtain⟨y,e1,e2⟩:=m9 h;cases y with
  |l n=>cases e2
  |d y=>
   obtain⟨d,e3,e4⟩:=m9 e2;cases e3;obtain⟨b,e5,e6⟩:=m9 e4;cases e6;refine(jx (ih _ e1)).trans ((jx (s':=s) (a:=y) rfl).trans ((jx (s':=s) (a:=b) ?_).trans rfl));rw[e5];rfl
 case of=>
  intro o c i ih x h;obtain⟨y,e1,e2⟩:=m9 h;obtain⟨fs,e3,e4⟩:=m9 e2;refine(jx (ih _ e1)).trans ((jx (s':=s) (a:=fs) ?_).trans ?_)
  ·cases y with
   |l n=>cases e3
   |d y=>cases y with
    |ob e gs=>
     have e3:(if e=c then some gs else none)=some fs:=e3;show (if e=c then M.ret gs else M.no) s=_;split at e3
     ·rename_i h;cases e3;rw[if_pos h];rfl
     ·cases e3
    |_=>cases e3
  ·show M.opt (fs[i]?.map Xv.d) s=_;rw[e4];rfl
 case nil=>intro ds h;cases h;rfl
 case cons=>
  intro a r ih ih2 ds h;obtain⟨y,e1,e2⟩:=m9 h;cases y with
  |l n=>cases e2
  |d y=>
   obtain⟨d,e3,e4⟩:=m9 e2;cases e3;obtain⟨rs,e5,e6⟩:=m9 e4;cases e6;exact(jx (ih _ e1)).trans ((jx (ih2 _ e5)).trans rfl)
theorem vL:∀(xs:Es) (ds:List D),qF aq xs J=some ds->evs aq aj F xs J s=some (.ok (ds.map .d),s)
 |.nil,ds,h=>by cases h;rfl
 |.cons a r,ds,h=>by
  obtain⟨y,e1,e2⟩:=m9 h;cases y with
  |l n=>cases e2
  |d y=>
   obtain⟨d,e3,e4⟩:=m9 e2;cases e3;obtain⟨rs,e5,e6⟩:=m9 e4;cases e6;exact(jx (gC a _ e1)).trans ((jx (vL r _ e5)).trans rfl)
theorem jR:∀(xs:Es) {vs:List Xv},o7 aq xs J=some vs->evs aq aj F xs J s=some (.ok vs,s)
 |.nil,vs,h=>by cases h;rfl
 |.cons a r,vs,h=>by
  obtain⟨y,e1,e2⟩:=m9 h;obtain⟨ys,e3,e4⟩:=m9 e2;cases e4;exact(jx (gC a _ e1)).trans ((jx (jR r e3)).trans rfl)
variable {P:Xv->S->Prop}
theorem W.pv{e:E}{x:Xv}(h:dw aq e J=some x)(k:P x s):W (ev aq aj F e J) s P:=W.eq (gC e _ h) k
theorem Ka0{f:Nat}{xs:Es}{vs:List Xv}(h:o7 aq xs J=some vs)(k:W (cO (F f) vs) s P):W (ev aq aj F (.call f xs) J) s P:=KaA (W.eq (jR xs h) k)
theorem Ka1{fz:Bool}{p:Pr}{xs:Es}{ds:List D}(h:qF aq xs J=some ds)(k:W (cD fz (prim p ds)) s P):W (ev aq aj F (.pr fz p xs) J) s P:=KaI (W.eq (vL xs _ h) (W.eq (DG s ds) k))
theorem KaZ{xs:Es}{vs:List Xv}{P:List Xv->S->Prop}(h:o7 aq xs J=some vs)(k:P vs s):W (evs aq aj F xs J) s P:=W.eq (jR xs h) k
end
section
variable {aq:Nat->Nat->Bool}{aj:Bool}{F:Bool->Fn}{J:Vs}{s:S}{Q:Out->S->Prop}{e:E}{r:bZ}
theorem Kbc{i:Nat}{x:Xv}(h:dw aq e J=some x)(k:WS (exs aq aj F r (J.set i (some x))) s Q):WS (exs aq aj F (.cons (.asg (.nm i) e) r) J) s Q:=WS.cons (Kbh (W.pv h k))
theorem Kbd{x:Xv}(h:dw aq e J=some x)(k:Q (.rt x) s):WS (exs aq aj F (.cons (.ret e) r) J) s Q:=WS.cons (Kbj (W.pv h k))
theorem Kbb{b:Bool}{t u:bZ}(h:dw aq e J=some (.d (.bl b)))(k:WS (if b=true then exs aq aj F t J else exs aq aj F u J) s λo s'=>match o with|.nx J'=>WS (exs aq aj F r J') s' Q|.rt x=>Q (.rt x) s'|_=>False):WS (exs aq aj F (.cons (.iff e t u) r) J) s Q:=WS.cons (Kbg (W.pv h (W.bool k)))
end
section
variable {aq:Nat->Nat->Bool}{aj:Bool}{F:Bool->Fn}{J:Vs}{s:S}{Q:Out->S->Prop}{c:Nat}{fs:List D}
theorem Kbk{c:Nat}{kp:Bool}{xs:Es}(h:W (evs aq true (F true) xs J) s λvs s1=>W (cJ vs) s1 λds s2=>Q (.er c (if kp=true then ds else []) J) s2):WS (ex aq true F (.rise c kp xs) J) s Q:=by
 refine WS.Al (m2:=λ_=>none) (WS.ofM (W.bd (h.imp λvs s1 h=>h.imp λds s2 h=>?_)));exact⟨_,s2,rfl,h⟩
theorem Kbp{m:MS}{k:Vs->MS}(h:WS m s λo s'=>match o with|.nx J'=>WS (k J') s' Q|.rt x=>Q (.rt x) s'|_=>False):WS (Mi.cP m k) s Q:=by
 obtain⟨o,s',e,q⟩:=h;unfold WS Mi.cP;rw[e];cases o with
 |nx J'=>exact q
 |rt x=>exact⟨_,_,rfl,q⟩
 |bk _=>exact q.elim
 |ct _=>exact q.elim
 |er _ _ _=>exact q.elim
theorem Kbn{F:Fn}{i:Nat}{x:Xv}(h:Q (.nx (J.set i (some x))) s):WS (store aq aj F (.nm i) x J) s Q:=⟨_,s,rfl,h⟩
theorem Kbo{F:Fn}{is:List Nat}{d:D}(h:wV ((kj d).bind λds=>gw is (ds.map .d) J) λJ'=>Q (.nx J') s):WS (store aq true F (.tp is) (.d d) J) s Q:=by
 obtain⟨J',e,q⟩:=h;exact WS.Al (m2:=λ_=>none) (WS.ofM (W.bd (W.dat (W.opt e (WS.nx q)))))
end
section
variable {aq:Nat->Nat->Bool}{aj:Bool}{F:Fn}{J:Vs}{s:S}{P:Xv->S->Prop}
theorem W.rm{a:E}{k:Kd}(h:W (ev aq aj F a J) s λx s1=>W (rd x) s1 λd s2=>wV (lW aq d k) λb=>P (.d (.bl b)) s2):W (ev aq aj F (.rm a k) J) s P:=KaD h
theorem W.zW{p q:Pr}{a b c:E}(h:W (ev aq aj F a J) s λx s1=>W (ev aq aj F b J) s1 λy s2=>W (iy [x,y]) s2 λds s3=>W (cD true (prim p ds)) s3 λt s4=>W (Mi.bool t) s4 λk s5=>
  W (if k=true then M.bd (ev aq aj F c J) λz=>M.bd (iy [y,z]) λds=>cD true (prim q ds) else M.ret (.d (.bl false))) s5 P):W (ev aq aj F (.zW p q a b c) J) s P:=KaB h
theorem KaE{c a b:E}(h:W (ev aq aj F c J) s λx s1=>W (Mi.bool x) s1 λk s2=>W (if k=true then ev aq aj F a J else ev aq aj F b J) s2 P):W (ev aq aj F (.ite c a b) J) s P:=W.bd (h.imp λ_ _ h=>W.bd h)
theorem KaN{a:E}{P:Src×Nat->S->Prop}(h:W (ev aq aj F a J) s λx s1=>W (oN x) s1 P):W (jg aq aj F (.enum a) J) s P:=W.bd h
theorem KaL{xs:List D}{P:Src×Nat->S->Prop}(h:P (.fix (enumFrom 0 xs),(enumFrom 0 xs).length) s):W (oN (.d (.fl xs))) s P:=⟨_,s,rfl,h⟩
theorem KaO{a b:E}{P:Src×Nat->S->Prop}(h:W (ev aq aj F a J) s λx s1=>W (ev aq aj F b J) s1 λy s2=>W (Mi.int x) s2 λi s3=>W (Mi.int y) s3 λj s4=>(gq i&&gq j)=true/\P (.fix (jF i j),(jF i j).length) s4):W (jg aq aj F (.rg a b) J) s P:=by
 refine W.bd (h.imp λx s1 h=>W.bd (h.imp λy s2 h=>W.bd (h.imp λi s3 h=>W.bd (h.imp λj s4 h=>?_))));rw[if_pos h.1];exact W.ret h.2
theorem KaQ{a b:E}{P:Src×Nat->S->Prop}(h:W (ev aq aj F a J) s λx s1=>W (ev aq aj F b J) s1 λy s2=>W (qp x) s2 λxs s3=>W (qp y) s3 λys s4=>P (.fix (List.zipWith (λp q=>.tup [p,q]) xs ys),(List.zipWith (λ(p q:D)=>D.tup [p,q]) xs ys).length) s4):W (jg aq aj F (.zip a b) J) s P:=
 W.bd (h.imp λx s1 h=>W.bd (h.imp λy s2 h=>W.bd (h.imp λxs s3 h=>W.bd (h.imp λys s4 h=>W.ret h))))
theorem W.jH{xs:List D}{P:List D->S->Prop}(h:P xs s):W (qp (.d (.tup xs))) s P:=W.ret h
theorem W.sW{xs:List D}{P:List D->S->Prop}(h:P xs s):W (qp (.d (.fl xs))) s P:=W.ret h
theorem Kal{P:Bool->S->Prop}(h:P true s):W (oO aq aj F .no J) s P:=W.ret h
theorem Kam{a:E}{P:Bool->S->Prop}(h:W (ev aq aj F a J) s λx s1=>W (Mi.bool x) s1 P):W (oO aq aj F (.yes a) J) s P:=W.bd h
theorem Kau(g:D->D)(hc:c.length<=sizeLine)
  (hw:W (jg aq true F it J) s λcn s1=>cn=(.fix c,c.length)/\s1=s)
  (hb:∀x∈c,wV (dZ tg x (blk many fr J)) λJ'=>W (ev aq true F elt J') s λy s2=>s2=s/\y=.d (g x))
  (h:W (newL fz (c.map g)) s P):W (ev aq true F (.comp fz elt tg it fr many .no) J) s P:=by
 refine Kas (c:=c) (λx=>some (g x)) hc hw (λx hx=>?_) ?_
 ·obtain⟨J',e,h1⟩:=hb x hx;refine⟨J',e,W.ret ⟨rfl,?_⟩⟩;rw[if_pos rfl];exact h1.imp λy s2 ⟨a,b⟩=>⟨a,_,b,rfl⟩
 ·rw[show c.filterMap (λx=>some (g x))=c.map g by rw[<-List.filterMap_eq_map];rfl];exact h
theorem qG{α:Type}{f:α->D}{l:List α}{fz:Bool}{elt:E}{tg:List Nat}{it:Wk}{fr:List Nat}{many:Nat}{cond:Eo}(g:α->Option D)(hc:l.length<=sizeLine)
  (hw:W (jg aq true F it J) s λcn s1=>cn=(.fix (l.map f),(l.map f).length)/\s1=s)
  (hb:∀x∈l,wV (dZ tg (f x) (blk many fr J)) λJ'=>W (oO aq true F cond J') s λb s1=>s1=s/\(b=true->W (ev aq true F elt J') s λy s2=>s2=s/\∃d,y=.d d/\g x=some d)/\(b=false->g x=none))
  (h:W (newL fz (l.filterMap g)) s P):W (ev aq true F (.comp fz elt tg it fr many cond) J) s P:=by
 change W (_root_.ite (true=true) _ _) s P
 rw[if_pos rfl];refine W.bd (hw.imp λcn s1=>?_);rintro⟨rfl,rfl⟩;refine W.bd ?_;refine W.walk (c:=l.map f) (λi acc s'=>s'=s1/\acc=(l.take i).filterMap g) ⟨rfl,rfl⟩ (λi x acc s' e hI=>?_) (λacc s' hI=>?_)
 ·obtain⟨rfl,rfl⟩:=hI;rw[gM] at e;cases el:l[i]? with
  |none=>rw[el] at e;cases e
  |some y=>
   rw[el] at e;cases e;have hi:i<l.length:=(dW.mp el).1;have ht:l.take (i+1)=l.take i++[y]:=by rw[Ng,el];rfl
   have hl:((l.take i).filterMap g).length<sizeLine:=Ez (QC _ _) (by rw[Bg];lia);obtain⟨J',e1,h1⟩:=hb y (eG el);refine W.bd (W.opt e1 ?_);refine W.bd (W.qt (h1.imp λb s2=>?_));rintro⟨rfl,h2,h3⟩;rw[ht,List.filterMap_append];cases b
   ·rw[if_neg Tc];refine W.ret ⟨rfl,?_⟩;simp[h3 rfl]
   ·rw[if_pos rfl];refine W.bd (W.qt ((h2 rfl).imp λy s3=>?_));rintro⟨rfl,d,rfl,eg⟩;refine W.bd (W.dat ?_);rw[if_pos hl];refine W.ret ⟨rfl,?_⟩;simp[eg]
 ·obtain⟨rfl,rfl⟩:=hI;rw[cR,Fe];exact h
theorem Kat{c:List D}{fz:Bool}{elt:E}{tg:List Nat}{it:Wk}{fr:List Nat}{many:Nat}{cond:Eo}(I:Nat->List D->S->Prop)
  (hw:W (jg aq true F it J) s λcn s1=>cn=(.fix c,c.length)/\I 0 [] s1)
  (hb:∀i x acc s,c[i]?=some x->I i acc s->wV (dZ tg x (blk many fr J)) λJ'=>W (oO aq true F cond J') s λb s1=>(b=true->W (ev aq true F elt J') s1 λy s2=>∃d,y=.d d/\acc.length<sizeLine/\I (i+1) (acc++[d]) s2)/\(b=false->I (i+1) acc s1))
  (h:∀acc s,I c.length acc s->W (newL fz acc) s P):W (ev aq true F (.comp fz elt tg it fr many cond) J) s P:=by
 change W (_root_.ite (true=true) _ _) s P
 rw[if_pos rfl];refine W.bd (hw.imp λcn s1=>?_);rintro⟨rfl,h0⟩;refine W.bd ?_;refine W.walk (c:=c) I h0 (λi x acc s' e hI=>?_) (λacc s' hI=>h acc s' hI);obtain⟨J',e1,h1⟩:=hb i x acc s' e hI;refine W.bd (W.opt e1 ?_);refine W.bd (W.qt (h1.imp λb s2=>?_));rintro⟨h2,h3⟩;cases b
 ·rw[if_neg Tc];exact W.ret (h3 rfl)
 ·rw[if_pos rfl];refine W.bd (W.qt ((h2 rfl).imp λy s3=>?_));rintro⟨d,rfl,hl,hi⟩;refine W.bd (W.dat ?_);rw[if_pos hl];exact W.ret hi
theorem W.push{o a:E}(h:W (ev aq aj F o J) s λx s1=>W (Mi.cX x) s1 λ_ s2=>W (ev aq aj F a J) s2 λy s3=>W (Mi.dat y) s3 λd s4=>W (Mi.cX x) s4 λnx s5=>nx.2.length<sizeLine/\P (.d .non) (s5.set nx.1 (.lst (nx.2++[d])))):W (ev aq aj F (.push o a) J) s P:=by
 refine W.bd (h.imp λx s1 h=>W.bd (h.imp λ_ s2 h=>W.bd (h.imp λy s3 h=>W.bd (h.imp λd s4 h=>W.bd (h.imp λnx s5 h=>?_)))));rw[if_pos h.1];exact W.bd (Vk (W.ret h.2))
end
theorem zeG{s:S}{o:SO}:(s++[o])[s.length]?=some o:=by simp
theorem Y{P R:Prop}(k:R)(h:Bx R->P:=by
 intro k
 repeat (first|with_reducible first
   |refine Kbc (by with_unfolding_all rfl) ?_|refine Kbd (by with_unfolding_all rfl) ?_|refine Kbb (by with_unfolding_all rfl) ?_|refine W.pv (by with_unfolding_all rfl) ?_|refine Ka1 (by with_unfolding_all rfl) ?_|refine Ka0 (by with_unfolding_all rfl) ?_|refine KaZ (by with_unfolding_all rfl) ?_
   |refine WS.cons ?_|refine WS.nil ?_|refine Kbp ?_|refine Kbn ?_|refine Kbo ?_|refine Kbh ?_|refine Kbj ?_|refine Kbg ?_|refine Kbm ?_|refine Kbl ?_|refine Kbi ?_|refine Kbe ?_|refine Kbf ?_|refine Kbk ?_|refine WS.Al ?_|refine WS.Vm ?_|refine WS.GJ (by with_unfolding_all rfl) ?_|refine WS.Vl (by with_unfolding_all rfl) ?_|refine wV.mk (by with_unfolding_all rfl) ?_
   |refine Kaj ?_|refine Kak ?_|refine W.eC ?_|refine W.eV (by with_unfolding_all rfl) ?_|refine KaI ?_|refine KaA ?_|refine KaK ?_|refine KaF ?_|refine KaG ?_|refine Kaz ?_|refine KaH ?_|refine KaE ?_|refine W.rm ?_|refine W.zW ?_|refine W.push ?_|refine KaJ ?_|refine KaC ?_|refine KaT ?_|refine KaU ?_|refine KaP ?_|refine KaO ?_|refine KaQ ?_|refine KaN ?_|refine Kal ?_|refine Kam ?_|refine W.Al ?_|refine W.Vm ?_|refine W.GJ (by with_unfolding_all rfl) ?_|refine W.Vl (by with_unfolding_all rfl) ?_
   |refine Ka4 ?_|refine Ka5 ?_|refine Ka2 ?_|refine Ka3 (by with_unfolding_all rfl) ?_|refine Ka3 zeG ?_|refine Kaw ?_|refine Kax ?_|refine W.dat ?_|refine W.bool ?_|refine W.int ?_|refine W.cX (by with_unfolding_all rfl) ?_|refine W.cX zeG ?_|refine Vk ?_|refine Ka7 ?_|refine KaL ?_|refine W.jH ?_|refine W.sW ?_|refine Ka6 ?_|refine KaS ?_|refine KaR ?_
   |refine gB (by first|(with_unfolding_all rfl)|exact zm3 (by first|(left;constructor<;>lia)|(right;constructor<;>lia))|exact zn6 gV|exact zma gV|exact zhP gV|exact zn1 Tc) ?_|refine Aj (by with_unfolding_all rfl) ?_
   |refine W.ret ?_|refine W.bd ?_
   | (dsimp only))
 all_goals exact k.o):P:=h ⟨k⟩
def lx(p q:Int×Int):Prop:=p.1<q.1\/p.1=q.1/\p.2<q.2
noncomputable def bx(n:Int)(ps:List (Int×Int)):D:=.tup [.int n,.tup (ps.map dG)]
structure Web(n:Int)(ps:List (Int×Int)):Prop where
 h1:1<=n
 h8:n<=8
 tie:∀p∈ps,0<=p.1/\p.1<p.2/\p.2<n
 inc:ps.Pairwise lx
 len:(ps.length:Int)<=7*n
theorem zjW(h:∀x∈xs,x=.bl true):dY xs=some (List.replicate xs.length true):=by
 induction xs with
 |nil=>rfl
 |cons x r ih=>
  rw[h x Zaa];show Option.map _ (dY r)=_;rw[ih λy hy=>h y (by simp[hy])];rfl
theorem Vq(h:∀x∈xs,x=.bl true):prim .all [.fl xs]=some (.dat (.bl true)):=by
 show Option.map _ (dY xs)=_;rw[zjW h];simp
theorem zn3(h:lx p q):ltI [p.1,p.2] [q.1,q.2]=true:=by
 simp only[ltI];rcases h with h|⟨h,h2⟩
 ·rw[if_neg gV];simp[h]
 ·rw[if_pos h,if_neg gV];simp[h2]
theorem Vr(xs:List D):cut xs (some 1) none=xs.drop 1:=by
 unfold cut;rw[HT.uG];rw[show (some 1:Option Int)=some ((1:Nat):Int) from rfl,HT.yh];cases xs with
 |nil=>rfl
 |cons x r=>simp
theorem zib:∀{ps:List (Int×Int)},ps.Pairwise lx->∀x∈List.zipWith (λ(p q:D)=>D.tup [p,q]) (ps.map dG) ((ps.map dG).drop 1),∃p q,x=.tup [dG p,dG q]/\lx p q
 |[],_,x,hx=>by simp at hx
 |[p],_,x,hx=>by simp at hx
 |p::q::r,h,x,hx=>by
  rw[show (List.map dG (p::q::r)).drop 1=List.map dG (q::r) from rfl] at hx;have e:List.zipWith (λ(p q:D)=>D.tup [p,q]) (List.map dG (p::q::r)) (List.map dG (q::r))=.tup [dG p,dG q]::List.zipWith (λ(p q:D)=>D.tup [p,q]) (List.map dG (q::r)) (List.map dG r):=rfl;rw[e,jA] at hx;rcases hx with rfl|hx
  ·exact⟨p,q,rfl,(EY.mp h).1 q Zaa⟩
  ·exact zib (ps:=q::r) (EY.mp h).2 x hx
theorem zgG:∀(xs:List D) (j i:Nat),(enumFrom j xs)[i]?=xs[i]?.map λx=>.tup [.int ((j+i:Nat):Int),x]
 |[],j,i=>by simp[enumFrom]
 |x::r,j,0=>by simp[enumFrom]
 |x::r,j,i+1=>by
  simp only[enumFrom,En,zgG r (j+1) i];rw[show j+1+i=j+(i+1) by lia]
theorem zez:∀(xs:List D) (j:Nat),(enumFrom j xs).length=xs.length
 |[],j=>rfl
 |x::r,j=>by simp[enumFrom,zez r (j+1)]
theorem zll{p:Int×Int}:¬lx p p:=by rintro(h|⟨_,h⟩)<;>lia
theorem zhe{ps:List (Int×Int)}(h:ps.Pairwise lx):ps.Nodup:=h.imp λ{p q} h e=>by subst e;exact zll h
theorem zc3(h:uR xs=some ys):prim .sorted [.fl xs]=some (.nw ys):=by
 show Option.map Rz.nw (uR xs)=_;rw[h];rfl
theorem zhi{es:List Int}(nA:es.length<64)(h:es.Pairwise (·<·)):uR (es.map D.int)=some (es.map D.int):=by
 refine zg5 ?_ (by rw[cR];exact nA) λk hk=>?_
 ·rw[Nb]
  left
  rw[HF,jo];intro x _;rfl
 ·rw[cR] at hk;unfold wI;rw[gM,gM,cZ hk,cZ (show k<es.length by lia)];have:=G_.mp h k (k+1) gV hk gV;simp only[Option.map_some]
  congr 1
  apply mz
  lia
noncomputable def endOf(i:Int)(p:Int×Int):Option Int:=if p.1=i then some p.2 else if p.2=i then some p.1 else none
noncomputable def bN(i:Int)(ps:List (Int×Int)):List Int:=ps.filterMap (endOf i)
theorem zd4(h:Web n ps)(i:Int):(bN i ps).Pairwise (·<·):=by
 have ht:=h.tie;have hi:=h.inc;clear h;unfold bN
 induction ps with
 |nil=>simp
 |cons p r ih=>
  obtain⟨hp,hr⟩:=EY.mp hi;have ih:=ih (λq hq=>ht q (by simp[hq])) hr;rw[Hq]
  split
  ·exact ih
  ·rename_i b eb;refine EY.mpr ⟨λc hc=>?_,ih⟩;obtain⟨q,hq,eq⟩:=Ew.mp hc;have l:=hp q hq;have tp:=ht p Zaa;have tq:=ht q (by simp[hq]);unfold endOf at eb eq;unfold lx at l;split at eb
   ·cases eb;split at eq
    ·cases eq;lia
    ·split at eq
     ·cases eq;lia
     ·cases eq
   ·split at eb
    ·cases eb;split at eq
     ·cases eq;lia
     ·split at eq
      ·cases eq;lia
      ·cases eq
    ·cases eb
theorem zd0(h:Web n ps)(he:e∈bN i ps):0<=e/\e<n:=by
 obtain⟨q,hq,eq⟩:=Ew.mp he;have tq:=h.tie q hq;unfold endOf at eq;split at eq
 ·cases eq;lia
 ·split at eq
  ·cases eq;lia
  ·cases eq
theorem Vt:∀{es:List Int} {a n:Int},es.Pairwise (·<·)->(∀e∈es,a<=e/\e<n)->a<=n->(es.length:Int)<=n-a
 |[],a,n,_,_,h=>by simp;lia
 |e::r,a,n,h,hb,ha=>by
  obtain⟨h1,h2⟩:=EY.mp h;have he:=hb e Zaa;have:=Vt (es:=r) (a:=e+1) (n:=n) h2 (λx hx=>⟨by have:=h1 x hx;lia,(hb x (by simp[hx])).2⟩) gV;rw[h_]
  lia
theorem Vu{a b:Int}{i:Nat}{x:D}(h:(jF a b)[i]?=some x):x=.int (a+i)/\a+i<b:=by
 unfold jF at h;rw[gM] at h;cases e:(List.range (b-a).toNat)[i]? with
 |none=>rw[e] at h;cases h
 |some j=>
  rw[e] at h;cases h;obtain⟨hl,rfl⟩:=dW.mp e;rw[nq] at hl;rw[List.getElem_range];exact⟨rfl,by lia⟩
theorem Vv:(jF a b).length=(b-a).toNat:=by unfold jF;simp
theorem jT(h1 : -1000<=a)(h2:a<=1000):gq a=true:=by
 unfold gq;rw[gH gV,gH gV];rfl
theorem tK(hl:locs xs=[s.length])(h:W (F (dN 0 xs)) [o] λv s1=>∃d o',v=.d d/\s1=[o']/\P (.d d) (s++[o'])):W (cO F xs) (s++[o]) P:=by
 refine KR (n:=s.length) (o:=o) hl Zaa (h.imp λv s1=>?_);rintro⟨d,o',rfl,rfl,hp⟩;exact⟨d,o',rfl,rfl,by rw[show (s++[o]).set s.length o'=s++[o'] by simp];exact hp⟩
theorem zjM{ns:List Int}{lo hi:Option Int}{x:D}(h:x∈cut (ns.map D.int) lo hi):∃n,x=.int n:=by
 have:=List.mem_of_mem_drop (List.mem_of_mem_take h);obtain⟨n,_,rfl⟩:=nJ.mp this;exact⟨n,rfl⟩
theorem zjy{ns:List Int}{lo hi:Option Int}:(cut (ns.map D.int) lo hi).length<=ns.length:=by
 unfold cut;rw[Bg,List.length_drop,cR]
 lia
theorem Vw{α:Type}[DecidableEq α]:∀{l m:List α},l.Nodup->(∀x∈l,x∈m)->l.length<=m.length
 |[],m,_,_=>rY _
 |x::r,m,h,hm=>by
  obtain⟨h1,h2⟩:=xu.mp h;have hx:x∈m:=hm x Zaa;have:=Vw (l:=r) (m:=m.erase x) h2 λy hy=>(List.mem_erase_of_ne (λe=>by subst e;exact h1 hy)).mpr (hm y (by simp[hy]));rw[List.length_erase_of_mem hx] at this;have:=List.length_pos_of_mem hx;rw[h_]
  lia
noncomputable def vM:List (Int×Int):=[(0,1),(0,2),(0,3),(0,4),(0,5),(0,6),(0,7),(1,2),(1,3),(1,4),(1,5),(1,6),(1,7),(2,3),(2,4),(2,5),(2,6),(2,7),(3,4),(3,5),(3,6),(3,7),(4,5),(4,6),(4,7),(5,6),(5,7),(6,7)]
theorem zgt{n:Int}{ps:List (Int×Int)}(h8:n<=8)(ht:∀p∈ps,0<=p.1/\p.1<p.2/\p.2<n)(nd:ps.Nodup):ps.length<=28:=by
 have:ps.length<=vM.length:=Vw nd λp hp=>by
  obtain⟨a,b⟩:=p;have h:=ht _ hp;dsimp only at h;obtain⟨x,rfl⟩:=tR h.1;obtain⟨y,rfl⟩:=tR (show 0<=b by lia);have key:((List.range 8).all λx=>(List.range 8).all λy=>!decide (x<y)||vM.contains (((x:Nat):Int),((y:Nat):Int)))=true:=by decide
  have k1:=jo.mp (jo.mp key x (uf.mpr gV)) y (uf.mpr gV);rw[gH (show x<y by lia)] at k1;exact List.contains_iff_mem.mp (by simpa using k1)
 exact this
theorem vN(R:Vs->S->Prop)(h:WS (ex aq aj F a J) s λo s'=>∃J',o=.nx J'/\R J' s')(h2:∀J' s',R J' s'->WS (exs aq aj F r J') s' Q):WS (exs aq aj F (.cons a r) J) s Q:=
 WS.cons (h.imp λo s' ⟨J',e,hr⟩=>by subst e;exact h2 J' s' hr)
noncomputable def at'(fs:List Int)(j:Int):Int:=fs.getD j.toNat 0
theorem O9{fs:List Int}{j:Int}(h0:0<=j)(h:j<fs.length):∃(i:Nat) (hi:i<fs.length),j=i/\at' fs j=fs[i]:=by
 obtain⟨i,rfl⟩:=tR h0;have hi:i<fs.length:=by lia
 refine⟨i,hi,rfl,?_⟩;unfold at';rw[pL,jM,cZ hi];rfl
theorem K5{fs:List Int}{j:Int}(h0:0<=j)(h:j<fs.length):at' fs j∈fs:=by
 obtain⟨i,hi,_,e⟩:=O9 h0 h;rw[e];exact List.getElem_mem _
theorem zoT{fs:List Int}{j:Int}(h0:0<=j)(h:j<fs.length):(fs.map D.int)[j.toNat]?=some (.int (at' fs j)):=by
 obtain⟨i,hi,rfl,e⟩:=O9 h0 h;rw[e,pL,gM,cZ hi];rfl
theorem zmA{fs gs:List Int}{j:Int}(h0:0<=j)(h:j<fs.length):at' (fs++gs) j=at' fs j:=by
 obtain⟨i,hi,rfl,e⟩:=O9 h0 h;unfold at';rw[pL,jM,jM,pB hi]
theorem zj0:at' (fs++[x]) fs.length=x:=by
 unfold at';rw[pL,jM,pK (bQ _)];simp
theorem tL(h0:0<=j)(h:xs[j.toNat]?=some x):prim .ix [.fl xs,.int j]=some (.dat x):=by
 obtain⟨k,rfl⟩:=tR h0;exact KY h
theorem zkB(h0:0<=j)(h:xs[j.toNat]?=some x):prim .ix [.tup xs,.int j]=some (.dat x):=tL h0 h
theorem O_(h0:0<=j)(h:j<fs.length):prim .ix [.tup (fs.map .int),.int j]=some (.dat (.int (at' fs j))):=tL h0 (zoT h0 h)
theorem zhf:L2.pF (n+1) (-1)=some n:=by
 unfold L2.pF;simp
 lia
theorem znh:prim .ix [.fl (xs++[x]),.int (-1)]=some (.dat x):=by
 show Option.map Rz.dat (L2.n8 (xs++[x]) (-1))=_;have:L2.n8 (xs++[x]) (-1)=some x:=by
  unfold L2.n8;rw[mj];show (L2.pF (xs.length+1) (-1)).bind _=_;rw[zhf];simp
 rw[this];rfl
noncomputable def kW(k a b:Int):Int:=if k-(if a-b<0 then -(a-b) else a-b)<(if a-b<0 then -(a-b) else a-b) then k-(if a-b<0 then -(a-b) else a-b) else (if a-b<0 then -(a-b) else a-b)
theorem rM(hd:1<=d):d<=kW k a b↔(d<=a-b/\a-b<=k-d)\/(d<=b-a/\b-a<=k-d):=by
 unfold kW
 split<;>split<;>lia
structure bM(n k d:Int)(ps:List (Int×Int))(hs:List Int):Prop where
 len:(hs.length:Int)=n
 lo:∀x∈hs,0<=x/\x<k
 fit:∀p∈ps,d<=kW k (at' hs p.1) (at' hs p.2)
section
variable {aq:Nat->Nat->Bool}{aj:Bool}{F:Bool->Fn}{J:Vs}{s:S}{Q:Out->S->Prop}
theorem WS.wh(I:Nat->Vs->S->Prop)(hm:m<oR)(h0:I m J s)
  (step:∀m J s,I m J s->W (ev aq aj (F aj) c J) s λx s1=>W (Mi.bool x) s1 λk s2=>(k=true->WS (exs aq aj F b J) s2 λo s3=>(∃J' m',o=.nx J'/\m'<m/\I m' J' s3)\/(∃x,o=.rt x/\Q (.rt x) s3))/\(k=false->Q (.nx J) s2)):WS (ex aq aj F (.wh c b) J) s Q:=by
 have key:∀n m J s,m<n->I m J s->WS (iz (λJ=>M.bd (ev aq aj (F aj) c J) Mi.bool) (λJ=>exs aq aj F b J) n J) s Q:=by
  intro n
  induction n with
  |zero=>intro m J s h;exact absurd h (Hx _)
  |succ n ih=>
   intro m J s hmn hI;obtain⟨x,s1,e1,k,s2,e2,hk⟩:=step m J s hI;unfold iz;refine WS.ofM (W.bd ⟨x,s1,e1,k,s2,e2,?_⟩);cases k with
   |false=>exact⟨_,s2,by rw[if_neg Tc],hk.2 rfl⟩
   |true=>
    obtain⟨o,s3,e3,hr⟩:=hk.1 rfl;rcases hr with ⟨J',m',rfl,Pa,Dy⟩|⟨x,rfl,hq⟩
    ·obtain⟨o2,s4,e4,q⟩:=ih m' J' s3 gV Dy;exact⟨o2,s4,by rw[if_pos rfl,e3];exact e4,q⟩
    ·exact⟨_,s3,by rw[if_pos rfl,e3],hq⟩
 exact key oR m J s hm h0
end
def Ge(h r:List Int):Prop:=∀j:Nat,j<r.length->(∀i:Nat,i<j->at' h i=at' r i)->at' r j<=at' h j
theorem zlz{m:Nat}{f:Nat->Int}{j:Int}(h0:0<=j)(h:j<m):at' ((List.range m).map f) j=f j.toNat:=by
 unfold at';rw[jM,gM,Eu gV];rfl
noncomputable def aG(k d:Int):D:=.tup [.int k,.int d]
noncomputable def DK(k d:Int)(ps:List (Int×Int))(hs:List Int):Bool:=ps.all λp=>decide (d<=kW k (at' hs p.1) (at' hs p.2))
theorem o8:DK k d ps hs=true↔∀p∈ps,d<=kW k (at' hs p.1) (at' hs p.2):=by
 unfold DK;rw[jo];exact⟨λh p hp=>jU (h p hp),λh p hp=>gH (h p hp)⟩
theorem vO{α:Type}{l:List α}{f:α->D}:l.filterMap (λx=>some (f x))=l.map f:=by
 rw[<-List.filterMap_eq_map];rfl
theorem Vx(I:Nat->Vs->S->Prop)(h0:I 0 J s)(hb:∀i x J s,c[i]?=some x->I i J s->WS (b x J) s λo s'=>(∃J',o=.nx J'/\I (i+1) J' s')\/(∃x,o=.rt x/\Q (.rt x) s'))
  (he:∀J s,I c.length J s->Q (.nx J) s):WS (dU (.fix c) b (c.length+1) 0 J) s Q:=by
 have key:∀n i J s,i+n=c.length->I i J s->WS (dU (.fix c) b (n+1) i J) s Q:=by
  intro n
  induction n with
  |zero=>
   intro i J s hi hI;have e:c[i]?=none:=by rw[qJ];lia
   have:i=c.length:=by lia
   subst this;refine⟨_,s,?_,he J s hI⟩;unfold dU;simp only[Src.at,e]
  |succ n ih=>
   intro i J s hi hI;have cH:i<c.length:=by lia
   have e:c[i]?=some c[i]:=cZ cH;obtain⟨o,s',eb,hr⟩:=hb i c[i] J s e hI;rcases hr with ⟨J',rfl,Dy⟩|⟨x,rfl,hq⟩
   ·obtain⟨o2,s2,e2,q⟩:=ih (i+1) J' s' gV Dy;refine⟨o2,s2,?_,q⟩;unfold dU;simp only[Src.at,e,eb];exact e2
   ·refine⟨_,s',?_,hq⟩;unfold dU;simp only[Src.at,e,eb]
 exact key c.length 0 J s gV h0
noncomputable def o9(n:Nat):List Int:=(List.range n).map λ(k:Nat)=>(k:Int)
theorem zfX{n:Nat}{j:Int}(h0:0<=j)(h:j<n):at' (o9 n) j=j:=by
 unfold o9;rw[zlz h0 h]
 lia
theorem ziF{n K:Int}{ps:List (Int×Int)}(w:Web n ps)(hK:n<=K):bM n K 1 ps (o9 n.toNat) where
 len:=by have:=w.h1;unfold o9;simp;lia
 lo:=λx hx=>by
  unfold o9 at hx;obtain⟨i,hi,rfl⟩:=nJ.mp hx;have:=uf.mp hi
  lia
 fit:=λp hp=>by
  have ht:=w.tie p hp;rw[zfX gV gV,zfX gV gV,rM gV]
  lia
theorem GK{hs:List Int}{f:Int->Int}{j:Int}(h0:0<=j)(h:j<hs.length):at' (hs.map f) j=f (at' hs j):=by
 obtain⟨i,hi,rfl,e⟩:=O9 h0 h;rw[e];unfold at';rw[pL,jM,gM,cZ hi];rfl
theorem zgh{α:Type}(l:List α)(f:α->Bool):dY (l.map λx=>D.bl (f x))=some (l.map f):=by
 induction l with
 |nil=>rfl
 |cons x r ih=>
  show Option.map _ (dY (r.map λx=>D.bl (f x)))=_;rw[ih];rfl
theorem zlm{α:Type}{l:List α}{f:α->Bool}:prim .all [.fl (l.map λx=>D.bl (f x))]=some (.dat (.bl (l.all f))):=by
 show Option.map _ (dY (l.map λx=>D.bl (f x)))=_;rw[zgh];show some (Rz.dat (.bl ((l.map f).all id)))=_;rw[HF];rfl
end Mi
namespace Mi
open PySem PySem.W PyProof.Rows L2
structure Ord(n:Nat)(lt:Nat->Nat->Option Bool)(le:Nat->Nat->Prop):Prop where
 ans:∀i j,i<n->j<n->(lt i j=some true/\le i j)\/(lt i j=some false/\le j i)
 tr:∀i j k,i<n->j<n->k<n->le i j->le j k->le i k
section
variable {lt:Nat->Nat->Option Bool}{le:Nat->Nat->Prop}{n:Nat}
theorem Ord.rfl'(o:Ord n lt le)(hi:i<n):le i i:=by
 rcases o.ans i i hi hi with ⟨_,e⟩|⟨_,e⟩<;>exact e
def tZ(le:Nat->Nat->Prop)(p:Array Nat)(r:Nat):Prop:=∀a b,a<b->b<r->le (p.getD a 0) (p.getD b 0)
def wW(le:Nat->Nat->Prop)(p:Array Nat)(r:Nat):Prop:=∀a b,a<b->b<r->le (p.getD b 0) (p.getD a 0)
def K6(le:Nat->Nat->Prop)(p:Array Nat)(l r:Nat):Prop:=∀a b,l<=a->a<r->l<=b->b<r->le (p.getD a 0) (p.getD b 0)
theorem getD_get?{p q:Array Nat}{i j:Nat}(h:p[i]?=q[j]?):p.getD i 0=q.getD j 0:=by
 have e:∀(x:Array Nat) (k:Nat),x.getD k 0=(x[k]?).getD 0:=by
  intro x k;unfold Array.getD
  split
  ·rename_i h;rw[Array.getElem?_eq_getElem h];rfl
  ·rename_i h;rw[Array.getElem?_eq_none gV];rfl
 rw[e,e,h]
theorem cM.size{p:Array Nat}(h:cM n p):p.size=n:=by have:=h.size_eq;simpa using this
theorem wX{p:Array Nat}{i j k:Nat}(hj:j<=p.size):(kas_rev p i j).getD k 0=if i<=k/\k<j then p.getD (i+j-1-k) 0 else p.getD k 0:=by
 have:=getElem?_mirror_all (xs:=p) (i:=i) hj k;unfold kas_rev
 split
 ·rename_i h;rw[if_pos h] at this;exact getD_get? this
 ·rename_i h;rw[if_neg h] at this;exact getD_get? this
theorem zeg{p:Array Nat}{src d k:Nat}(hs:src<p.size)(hd:d<=src):(bubble p src d).getD k 0=if k=src-d then p.getD src 0 else if src-d<k/\k<=src then p.getD (k-1) 0 else p.getD k 0:=by
 have:=getElem?_bubble hs d hd k;by_cases h:k=src-d
 ·rw[if_pos h] at this ⊢;exact getD_get? this
 ·rw[if_neg h] at this ⊢;by_cases h2:src-d<k/\k<=src
  ·rw[if_pos h2] at this ⊢;exact getD_get? this
  ·rw[if_neg h2] at this ⊢;exact getD_get? this
variable (o:Ord n lt le)(hn:0<n)
include o hn
theorem vP(hi:i<n)(hj:j<n)(h1:le i j->iH lt (k true) P)(h2:le j i->iH lt (k false) P):iH lt (.ask i j k) P:=by
 rcases o.ans i j hi hj with ⟨e,hl⟩|⟨e,hl⟩
 ·obtain⟨a,e1,q⟩:=h1 hl;exact⟨a,by unfold bf;rw[e];exact e1,q⟩
 ·obtain⟨a,e1,q⟩:=h2 hl;exact⟨a,by unfold bf;rw[e];exact e1,q⟩
theorem zhR(hp:cM n p)(hk:1<=k)(h:tZ le p k)(hl:le (p.getD (k-1) 0) (p.getD k 0)):tZ le p (k+1):=λa b Ao hb=>by
 by_cases e:b=k
 ·subst e;by_cases e2:a=b-1
  ·subst e2;exact hl
  ·exact o.tr _ _ _ (hp.lt hn _) (hp.lt hn _) (hp.lt hn _) (h a (b-1) gV gV) hl
 ·exact h a b Ao gV
theorem K7(hp:cM n p)(hk:1<=k)(h:wW le p k)(hl:le (p.getD k 0) (p.getD (k-1) 0)):wW le p (k+1):=λa b Ao hb=>by
 by_cases e:b=k
 ·subst e;by_cases e2:a=b-1
  ·subst e2;exact hl
  ·exact o.tr _ _ _ (hp.lt hn _) (hp.lt hn _) (hp.lt hn _) hl (h a (b-1) gV gV)
 ·exact h a b Ao gV
theorem Vy(hp:cM n p):∀f k,1<=k->k+f<=n->tZ le p k->iH lt (kas_asc p f k) λr=>k<=r/\r<=k+f/\tZ le p r/\(r<k+f->le (p.getD r 0) (p.getD (r-1) 0))
 |0,k,_,_,h=>.ret ⟨bQ _,by lia,h,λz=>by lia⟩
 |f+1,k,hk,hkf,h=>vP o hn (hp.lt hn _) (hp.lt hn _) (λhl=>.ret ⟨bQ _,by lia,h,λ_=>hl⟩) λhl=>by
  obtain⟨r,e,h1,h2,h3,h4⟩:=Vy hp f (k+1) gV gV (zhR o hn hp hk h hl);exact⟨r,e,by lia,by lia,h3,λz=>h4 gV⟩
theorem zgF(hp:cM n p)(hk:k<=n)(h:wW le p k)(ha:K6 le p l k):wW le (kas_rev p l k) k:=λa b Ao hb=>by
 have hs:=hp.size;rw[wX gV,wX gV];by_cases ca:l<=a/\a<k
 ·rw[if_pos ca,if_pos gV];exact ha _ _ gV gV gV gV
 ·rw[if_neg ca];by_cases cb:l<=b/\b<k
  ·rw[if_pos cb];exact h a _ gV gV
  ·rw[if_neg cb];exact h a b Ao hb
theorem Pb:∀f {p:Array Nat} k q,cM n p->1<=k->k+f<=n->q+1<=k->wW le p k->K6 le p (k-(q+1)) k->iH lt (kas_desc f p k q) λr=>cM n r.1/\k<=r.2.1/\r.2.1<=k+f/\r.2.2+1<=r.2.1/\wW le r.1 r.2.1/\K6 le r.1 (r.2.1-(r.2.2+1)) r.2.1
 |0,p,k,q,hp,_,_,hq,h,ha=>.ret ⟨hp,bQ _,by dsimp only;lia,hq,h,ha⟩
 |f+1,p,k,q,hp,hk,hkf,hq,h,ha=>vP o hn (hp.lt hn _) (hp.lt hn _) (λhl=>by
   show iH lt (if q>0 then _ else _) _;have hs:=hp.size;have one:∀{x:Array Nat},cM n x->K6 le x (k+1-(0+1)) (k+1):=λ{x} hx a b h1 h2 h3 h4=>by
    have:a=k:=by lia
    have:b=k:=by lia
    subst a;subst b;exact o.rfl' (hx.lt hn _)
   split
   ·have hp':=hp.rev (k-(q+1)) k;have h':wW le (kas_rev p (k-(q+1)) k) (k+1):=K7 o hn hp' hk (zgF o hn hp gV h ha) (by
     rw[wX gV,wX gV,if_neg gV,if_pos gV];refine o.tr _ _ _ (hp.lt hn _) (hp.lt hn _) (hp.lt hn _) hl (ha _ _ gV gV gV gV))
    obtain⟨r,e,w⟩:=Pb f (k+1) 0 hp' gV gV gV h' (one hp');exact⟨r,e,w.1,by lia,by lia,w.2.2.2⟩
   ·obtain⟨r,e,w⟩:=Pb f (k+1) 0 hp gV gV gV (K7 o hn hp hk h hl) (one hp);exact⟨r,e,w.1,by lia,by lia,w.2.2.2⟩) λhl=>vP o hn (hp.lt hn _) (hp.lt hn _) (λ_=>.ret ⟨hp,bQ _,by dsimp only;lia,hq,h,ha⟩) λvf=>by
   have hA:K6 le p (k+1-(q+1+1)) (k+1):=λa b h1 h2 h3 h4=>by
    have key:∀c,k-(q+1)<=c->c<k->le (p.getD c 0) (p.getD k 0)/\le (p.getD k 0) (p.getD c 0):=λc c1 c2=>
     ⟨o.tr _ _ _ (hp.lt hn _) (hp.lt hn _) (hp.lt hn _) (ha c (k-1) c1 c2 gV gV) hl,o.tr _ _ _ (hp.lt hn _) (hp.lt hn _) (hp.lt hn _) vf (ha (k-1) c gV gV c1 c2)⟩
    by_cases ea:a=k
    ·by_cases eb:b=k
     ·subst a;subst b;exact o.rfl' (hp.lt hn _)
     ·subst a;exact(key b gV gV).2
    ·by_cases eb:b=k
     ·subst b;exact(key a gV gV).1
     ·exact ha a b gV gV gV gV
   obtain⟨r,e,w⟩:=Pb f (k+1) (q+1) hp gV gV gV (K7 o hn hp hk h vf) hA;exact⟨r,e,w.1,by lia,by lia,w.2.2.2⟩
theorem ziC(hp:cM n p)(hk:k<=n)(h:wW le p k):tZ le (kas_rev p 0 k) k:=λa b Ao hb=>by
 have hs:=hp.size;rw[wX gV,wX gV,if_pos gV,if_pos gV];exact h _ _ gV gV
theorem zf3(hp:cM n p)(hk:1<=k)(K8:k<=n)(h:wW le p k):iH lt (kas_tail3 k n p) λr=>cM n r.2/\1<=r.1/\r.1<=n/\tZ le r.2 r.1:=by
 refine iH.bind (λc hc=>?_) (Vy o hn (hp.rev 0 k) (n-k) k hk gV (ziC o hn hp K8 h));exact⟨_,rfl,hp.rev 0 k,by dsimp only;lia,by dsimp only;lia,hc.2.2.1⟩
theorem zcy(hp:cM n p)(hk:1<=k)(K8:k<n)(h:wW le p (k+1)):iH lt (kas_descPart k n p) λr=>cM n r.2/\1<=r.1/\r.1<=n/\tZ le r.2 r.1:=by
 refine iH.bind (λr hr=>?_) (Pb o hn (n-(k+1)) (k+1) 0 hp gV gV gV h (λa b h1 h2 h3 h4=>by
  have:a=k:=by lia
  have:b=k:=by lia
  subst a;subst b;exact o.rfl' (hp.lt hn _)))
 obtain⟨w1,w2,w3,w4,w5,w6⟩:=hr
 split
 ·exact zf3 o hn (w1.rev _ _) gV gV (zgF o hn w1 gV w5 w6)
 ·exact zf3 o hn w1 gV gV w5
theorem zkk(hp:cM n p):iH lt (kas_count n p) λr=>cM n r.2/\1<=r.1/\r.1<=n/\tZ le r.2 r.1:=by
 refine iH.bind (λk hk=>?_) (Vy o hn hp (n-1) 1 (bQ _) gV (λa b h1 h2=>by lia));obtain⟨k1,k2,k3,k4⟩:=hk;have hs:=hp.size;by_cases e:(k==n)=true
 ·rw[if_pos e];exact .ret ⟨hp,k1,by dsimp only;lia,k3⟩
 ·rw[if_neg e];have K8:k<n:=by
   have:k≠n:=by simpa using e
   lia
  have hl:=k4 gV
  split
  ·refine vP o hn (hp.lt hn _) (hp.lt hn _) (λ_=>.ret ⟨hp,k1,by dsimp only;lia,k3⟩) λhz=>?_;have alk:∀a b,a<k->b<k->le (p.getD a 0) (p.getD b 0):=λa b ha hb=>by
    have h1:le (p.getD a 0) (p.getD (k-1) 0):=by
     by_cases q:a=k-1
     ·subst q;exact o.rfl' (hp.lt hn _)
     ·exact k3 a (k-1) gV gV
    have h2:le (p.getD 0 0) (p.getD b 0):=by
     by_cases q:b=0
     ·subst q;exact o.rfl' (hp.lt hn _)
     ·exact k3 0 b gV gV
    exact o.tr _ _ _ (hp.lt hn _) (hp.lt hn _) (hp.lt hn _) (o.tr _ _ _ (hp.lt hn _) (hp.lt hn _) (hp.lt hn _) h1 hz) h2
   refine zcy o hn (hp.rev 0 k) k1 K8 (K7 o hn (hp.rev 0 k) k1 (λa b h1 h2=>?_) ?_)
   ·rw[wX gV,wX gV,if_pos gV,if_pos gV];exact alk _ _ gV gV
   ·rw[wX gV,wX gV,if_neg gV,if_pos gV];exact o.tr _ _ _ (hp.lt hn _) (hp.lt hn _) (hp.lt hn _) hl (alk _ _ gV gV)
  ·have:k=1:=by lia
   subst this;refine zcy o hn hp (bQ _) K8 (K7 o hn hp (bQ _) (λa b h1 h2=>by lia) hl)
theorem Vz(hp:cM n p)(h:tZ le p k):∀f l r,l<=r->r<=k->r-l<=f->(∀a,a<l->le (p.getD a 0) (p.getD k 0))->(∀a,r<=a->a<k->le (p.getD k 0) (p.getD a 0))->iH lt (kas_place p k f l r) λi=>i<=k/\(∀a,a<i->le (p.getD a 0) (p.getD k 0))/\(∀a,i<=a->a<k->le (p.getD k 0) (p.getD a 0))
 |0,l,r,h1,h2,h3,h4,h5=>.ret ⟨by lia,h4,λa z=>h5 a gV⟩
 |f+1,l,r,h1,h2,h3,h4,h5=>by
  unfold kas_place;by_cases e:l>=r
  ·rw[if_pos e];exact .ret ⟨by lia,h4,λa z=>h5 a gV⟩
  ·rw[if_neg e];refine vP o hn (hp.lt hn _) (hp.lt hn _) (λhl=>?_) λhl=>?_
   ·refine Vz hp h f l ((l+r)/2) gV gV gV h4 λa z1 z2=>?_;by_cases q:a=(l+r)/2
    ·subst q;exact hl
    ·exact o.tr _ _ _ (hp.lt hn _) (hp.lt hn _) (hp.lt hn _) hl (h _ a gV z2)
   ·refine Vz hp h f ((l+r)/2+1) r gV h2 gV (λa z=>?_) h5;by_cases q:a=(l+r)/2
    ·subst q;exact hl
    ·exact o.tr _ _ _ (hp.lt hn _) (hp.lt hn _) (hp.lt hn _) (h a _ gV gV) hl
theorem zls:∀f {p:Array Nat} k,cM n p->k+f=n->tZ le p k->iH lt (kas_bin f p k) λr=>cM n r/\tZ le r n
 |0,p,k,hp,hk,h=>.ret ⟨hp,(show k=n by lia)▸h⟩
 |f+1,p,k,hp,hk,h=>iH.bind (λl hl=>by
   obtain⟨l1,l2,l3⟩:=hl;have hs:=hp.size;refine zls f (k+1) (hp.bub _ _) gV λa b Ao hb=>?_;rw[zeg gV gV,zeg gV gV,show k-(k-l)=l by lia];by_cases ea:a=l
   ·rw[if_pos ea,if_neg gV,if_pos gV];exact l3 (b-1) gV gV
   ·rw[if_neg ea];by_cases ca:l<a/\a<=k
    ·rw[if_pos ca,if_neg gV,if_pos gV];exact h _ _ gV gV
    ·rw[if_neg ca];by_cases eb:b=l
     ·rw[if_pos eb];exact l2 a gV
     ·rw[if_neg eb];by_cases cb:l<b/\b<=k
      ·rw[if_pos cb];by_cases q:a=b-1
       ·lia
       ·exact h _ _ gV gV
      ·rw[if_neg cb];exact h _ _ Ao gV) (Vz o hn hp h k 0 k gV (bQ _) gV (λa z=>by lia) (λa z1 z2=>by lia))
theorem zlt:iH lt (kas_sort n) λp=>cM n p/\tZ le p n:=by
 refine iH.bind (λr hr=>?_) (zkk o hn (.refl _));obtain⟨w1,w2,w3,w4⟩:=hr
 split
 ·rw[Nat.max_eq_left w2];exact zls o hn _ _ w1 gV w4
 ·have:r.1=n:=by lia
  exact .ret ⟨w1,this▸w4⟩
end
end Mi
namespace Ts
open PySem PySem.SetTable
end Ts
namespace Ts
open Mi PySem PySem.SetTable
end Ts
namespace Ts
open PySem PySem.SetTable
end Ts
namespace Ts
open Mi (zZ)
open PySem PySem.SetTable
end Ts
namespace Ts
open PySem PySem.SetTable
end Ts
namespace Ts
open PySem PySem.SetTable PySem.Spec PyProof.Rows PySem.W L2
end Ts
namespace Mi
open PySem PySem.Spec PyProof.Rows L2 PySem.W Ts
noncomputable def tM(a b:Int×Int):Bool:=decide (a.1<b.1\/a.1=b.1/\a.2<b.2)
noncomputable def K9(us:List (Int×Int))(i j:Nat):Option Bool:=match us[i]?,us[j]? with
 |some a,some b=>some (tM a b)
 |_,_=>none
def Pg(us:List (Int×Int))(i j:Nat):Prop:=tM (us.getD j (0,1)) (us.getD i (0,1))=false
theorem vQ{a b:Int×Int}:tM a b=true↔(a.1<b.1\/a.1=b.1/\a.2<b.2):=M5
theorem VB{a b:Int×Int}:tM a b=false↔¬(a.1<b.1\/a.1=b.1/\a.2<b.2):=QF
theorem VD(us:List (Int×Int)):Ord us.length (K9 us) (Pg us):=by
 refine⟨λi j hi hj=>?_,λi j k _ _ _ h1 h2=>?_⟩
 ·unfold K9 Pg;rw[cZ hi,cZ hj,jM,jM,cZ hi,cZ hj];show (some (tM us[i] us[j])=some true/\tM us[j] us[i]=false)\/(some (tM us[i] us[j])=some false/\tM us[i] us[j]=false);cases e:tM us[i] us[j]
  ·exact .inr ⟨rfl,rfl⟩
  ·refine .inl ⟨rfl,?_⟩;rw[vQ] at e;rw[VB]
   lia
 ·unfold Pg at *;rw[VB] at *
  lia
theorem zgc{us:List (Int×Int)}(hn:2<=us.length)(hd:us.Nodup):∃p,bf (K9 us) (kas_sort us.length)=some p/\p.size=us.length/\(∀i∈p.toList,i<us.length)/\(∀x,x∈p.toList.map (λi=>us.getD i (0,1))↔x∈us)/\(p.toList.map λi=>us.getD i (0,1)).Pairwise λa b=>tM a b=true:=by
 obtain⟨p,e,hp,ha⟩:=zlt (VD us) gV;have hs:p.size=us.length:=hp.size;have hm:(p.toList.map λi=>us.getD i (0,1)).Perm us:=by
  have h1:(p.toList.map λi=>us.getD i (0,1)).Perm ((List.range us.length).map λi=>us.getD i (0,1)):=(Array.Perm.toList hp).map _;have h2:((List.range us.length).map λi=>us.getD i (0,1))=us:=by
   apply List.ext_getElem
   ·simp
   ·intro i a b;simp[jM,b]
  rw[h2] at h1;exact h1
 refine⟨p,e,hs,λi hi=>?_,λx=>hm.mem_iff,?_⟩
 ·have:=(Array.Perm.toList hp).mem_iff.mp hi;simpa using this
 ·have nd:(p.toList.map λi=>us.getD i (0,1)).Nodup:=hm.nodup_iff.mpr hd;rw[G_];intro i j hi hj qU;have hne:=G_.mp nd i j hi hj qU;have qg:i<p.size:=by simpa using hi
  have VF:j<p.size:=by simpa using hj
  have hl:=ha i j qU gV;unfold Pg at hl;have e1:p.getD i 0=p[i]:=by simp[Array.getD,qg]
  have e2:p.getD j 0=p[j]:=by simp[Array.getD,VF]
  rw[e1,e2] at hl;simp only[List.getElem_map,Array.getElem_toList] at hne ⊢;generalize us.getD p[i] (0,1)=x at *;generalize us.getD p[j] (0,1)=y at *;rw[VB] at hl;rw[vQ];obtain⟨x1,x2⟩:=x;obtain⟨y1,y2⟩:=y;simp only[Prod.mk.injEq,ne_eq,not_and] at *
  lia
end Mi
namespace Mi
open PySem PySem.Spec PyProof.Rows L2 PySem.W
section
variable {K:W.Frag}{cA:Cl}{U:Ph}{H:Hp}
theorem zk3{d:D}{v:V}{k:Bool}(r:Rv K cA U H d v)(e:yC d=some k):Cd K v H k:=by
 cases d with
 |non=>
  cases (show Rep K cA U H .non v from r);cases e;rfl
 |bl c=>
  cases (show Rep K cA U H (.bl c) v from r);cases e;rfl
 |int i=>
  cases (show Rep K cA U H (.int i) v from r);cases e;rfl
 |tup xs=>
  cases (show Rep K cA U H (.tup xs) v from r) with
  |tup t q=>
   cases e;refine .inr (.inl ⟨_,t.jH,?_⟩);cases q<;>rfl
 |fl xs=>
  obtain⟨a,us,rfl,sq,q⟩ : ∃a us,v=.ref a/\cV K H a us/\aC K cA U H xs us:=r;cases e;refine .inl ⟨_,sq,?_⟩;cases q<;>rfl
 |_=>cases e
end
section
variable {X:Cx}{cA:Cl}{aq:Nat->Nat->Bool}{aj:Bool}{F:Fn}{EX:XS}{a b:Expr}{A B:E}{pos p:Pos}{x:Str}{e:Expr}{es:List Expr}{Xs:Es}
noncomputable def vR(sc:Scope)(x:Str):Bool:=match sc.names.lookup x with
 |some k=>Dp k
 |none=>false
noncomputable def Pj(sc:Scope)(x:Str):Bool:=match sc.names.lookup x with
 |some .globalImplicit=>true
 |_=>false
theorem VG{sc:Scope}{x:Str}(h:vR sc x=true):∃k,sc.names.lookup x=some k/\Dp k=true:=by
 unfold vR at h;split at h
 ·rename_i k e;exact⟨k,e,h⟩
 ·cases h
theorem zix{sc:Scope}{x:Str}(h:Pj sc x=true):sc.names.lookup x=some .globalImplicit:=by
 unfold Pj at h;split at h
 ·assumption
 ·cases h
theorem gk(h:Pj X.env.scope x=true:=by kernel_rfl):JK X x .globalImplicit:=⟨zix h⟩
theorem jl(h:(match X.env.scope.names.lookup x with|some .local=>true|_=>false)=true:=by kernel_rfl):JK X x .local:=by
 split at h
 ·exact⟨by assumption⟩
 ·cases h
theorem jc(h:(match X.env.scope.names.lookup x with|some .cell=>true|_=>false)=true:=by kernel_rfl):JK X x .cell:=by
 split at h
 ·exact⟨by assumption⟩
 ·cases h
theorem yW{scope:Scope}{cl:List (Str×Addr)}{N:List Str}{Cc:Addr}{s3:Shared}{H3:Hp}{fp:List Addr}{ao:List (Addr×Obj)}(h:Pj scope x=true:=by kernel_rfl):JK (X.blk scope cl N Cc s3 H3 fp ao) x .globalImplicit:=zoF (zix h) rfl
theorem gv(i:Nat)(h:(decide (X.N[i]?=some x)&&vR X.env.scope x&&okN x)=true:=by kernel_rfl):JE X cA aq aj F EX (.Name x pos) (.v i):=by
 rw[gG,gG] at h;obtain⟨k,e,hv⟩:=VG h.1.2;exact g_v i (jU h.1.1) ⟨e⟩ hv h.2
theorem cG(i:Nat){scope:Scope}{cl:List (Str×Addr)}{N:List Str}{Cc:Addr}{s3:Shared}{H3:Hp}{fp:List Addr}{ao:List (Addr×Obj)}(h:(decide (N[i]?=some x)&&vR scope x&&okN x)=true:=by kernel_rfl):JE (X.blk scope cl N Cc s3 H3 fp ao) cA aq aj F EX (.Name x pos) (.v i):=by
 rw[gG,gG] at h;obtain⟨k,e,hv⟩:=VG h.1.2;by_cases hk:k=.free
 ·subst hk;exact zoV i (jU h.1.1) e h.2
 ·exact g_v i (jU h.1.1) (zoF e (by cases k<;>first|rfl|exact absurd rfl hk)) hv h.2
theorem gc{f k:Nat}{cm:Bool}{st:Stmt}{ps:List Str}(Fo:cB X.prog X.w X.K X.mg X.base (fB X.prog X.w) cm k (fQ X.K x) (fdOf X.K x st) ps (lG X.K cA (F f)))(D:D3 X.K X.mg x st ps)(hr:bB k X.A)(R:JR X EX)(g:JK X x .globalImplicit)(ha:JA X cA aq aj F EX (e::es) Xs)(h:okN x=true:=by kernel_rfl)
  (je:cm=true->X.aj=true:=by first|exact λ_=>rfl|exact λz=>nomatch z) (he:aF e=true:=by rfl) (cT:es.all aF=true:=by rfl):JE X cA aq aj F EX (.Call (.Name x p) (e::es) [] pos) (.call f Xs):=
 zl9 f Fo je hr D.m D.f.kp D.b R g ha h he cT
theorem nd(h:decide X.N.Nodup=true:=by kernel_rfl):X.N.Nodup:=jU h
end
theorem fJ{P:Program}{w:World}{K:W.Frag}{mg:Str->Option Value}{base:Heap}{cA:Cl}{aq:Nat->Nat->Bool}{T:Nat->Option Df}{x:Str}{st:Stmt}{ps:List Str}{k n:Nat}{cm:Bool}{df:Df}(D:D3 K mg x st ps)(N:List Str)(hT:T n=some df)
  (hb:∀(cdv:Value) (A:Around) (outer:List Env) (s:Shared) (H:Hp) (E:XK),bB k (A.deeper (envOfC x (au st) s.heap.objs.size (fQ K x) cdv))->
   JB (dH (fB P w) P w K mg base N x (au st) (fQ K x) cdv A outer s H E cm) cA aq cm (λc=>call aq T k c) (λ_ C dx H'=>E C dx H') (aM st) df.body) (S:bV N ps (au st):=by exact⟨rfl,rfl,rfl,dk,rfl,dk,dk⟩) (hp:df.iB=ps.length:=by rfl) (hm:df.many=N.length:=by rfl) :
  cB P w K mg base (fB P w) cm (k+1) (fQ K x) (fdOf K x st) ps (lG K cA (call aq T (k+1) cm n)):=zia D.f S hT hp hm hb
end Mi
namespace L2
open PySem PySem.Spec PySem.Calls PyProof.Rows PySem.W
theorem fH.tri{H:Hp}{l:List Value}(x:fH H l):TriplesOk l:=by
 induction x with
 |nil=>trivial
 |cons l m c r _ _ ih=>exact ih
theorem fH.found{H:Hp}{pos:Pos}{cv:Value}{l:List Value}(x:fH H l)(h:codeAmong pos l=some cv):∃c,cv=.ref c/\GoodC H c:=by
 induction x with
 |nil=>cases h
 |cons a b c r g _ ih=>
  unfold rawInt codeAmong at h;split at h
  ·cases h;exact⟨c,rfl,g⟩
  ·exact ih h
structure vU(H H':Hp):Prop where
 kp:∀b o,H b=some o->(∀ps,o≠.lN ps)->H' b=some o
 st:∀b o,H b=some o->∃o',H' b=some o'
theorem vU.refl{H:Hp}:vU H H:=⟨λ_ _ e _=>e,λ_ o e=>⟨o,e⟩⟩
def K_(K:Frag)(mg:Str->Option Value):Prop:=∃bm ob,mg "__builtins__"=some (.ref bm)/\bm≠builtinsNs/\bm≠mainGlobals/\K.lookup bm=some ob/\ob.cls=.type "module"/\ob.dict=some builtinsNs/\ob.data=.plain
noncomputable abbrev lamO(params:Arguments)(body:Expr)(scope:Scope)(pm:Value)(c':Addr)(ctv:Value):Obj:=kla_obj "<lambda>" iY params body scope [] pm c' ctv
section
variable {X:Cx}{ao:List (Addr×Obj)}{Z:St}{H:Hp}{s:Shared}{c P:Addr}{params:Arguments}{body:Expr}{scope:Scope}{pos:Pos}{E:Value->Shared->Prop}{Q:Value->Shared->Prop}
theorem Inv.DN{H1:Hp}{s1:Shared}{fa:Addr}{o:Obj}(I:Inv X ao Z H1 s1)(h1:s1.heap.get? fa=some o)(h2:H1 fa=none)(h3:fa≠X.env.locals)(h4:fa∉X.fs)(h5:∀v,o.data≠.cell v):Inv X (ao++[(fa,o)]) Z H1 s1:=
 I.jN λp hp=>by
  rcases mC.mp hp with hp|hp
  ·exact I.pin p (lg _ hp)
  ·rw[Bb.mp hp];exact⟨h1,h2,h3,h4,h5⟩
theorem zht(I:Inv X ao Z H s)(on:qQ=true)(iK:X.env.code=.ref c)(hC:codeHdIn X.K c P=true)(hl:jY X.K c P=true)(VH:K_ X.K X.mg)(qe:closureFor scope X.env=pure [])(hq:X.env.qual++"<lambda>"=iY)(vV:defaultsOf params X.env=([],[]))
  (k:∀fa c' ctv pm H1 s1,Inv X (ao++[(fa,lamO params body scope pm c' ctv)]) Z H1 s1->GoodC H1 c'->vU H H1->Q (.ref fa) s1) :
  wpAny (model X.prog X.w) X.A (eval (.Lambda params body scope pos) X.env) Q E s:=by
 obtain⟨ps,hP,hT⟩:=I.BJ on c P hl;have oP:s.heap.get? P=some (tabObj ps):=I.hok P _ hP;obtain⟨bm,ob,b1,b2,b3,b4,b5,b6,b7⟩:=VH;have kb:s.heap.get? bm=some ob:=I.lO bm ob b4;have nb:H bm=none:=(I.bs bm ob (I.mod.xM bm ob b4)).2;have hg:=I.mod.glob.keeps I.bk;have ng:H mainGlobals=none:=by
  obtain⟨o,_,_,e,_⟩:=I.mod.glob;exact(I.bs _ _ e).2
 have hgP:mainGlobals≠P:=λz=>by rw[z,hP] at ng;cases ng
 have hB:s.heap.BuiltinsAt X.mg P:=⟨bm,ob,b1,b2,b3,(λz=>by rw[z,hP] at nb;cases nb),kb,b5,b6,b7⟩;refine kla_eval vV ?_;rw[hq];cases hf:codeAmong pos ps.toList with
 |some cv=>
  obtain⟨c',rfl,gc⟩:=hT.found hf;refine kla_makeFunctionHit (mg:=X.mg) qe I.ok.glob hg iK (codeHd_of_K I.lO hC) oP hT.tri hf hB λctv h' tk hk hsz=>?_;have kp:∀b u,s.heap.get? b=some u->(h'.push (lamO params body scope ((X.mg "__name__").getD .none) c' ctv)).get? b=some u:=λb u e=>cj _ (hk b u e);have I1:=I.kept (t':=tk) kp;refine k _ c' ctv _ H _ (I1.DN (eN _ rfl) (I.hok.fresh hsz) (pR (fV I.lt hsz)) (I.xV hsz) λv z=>by cases z) gc vU.refl
 |none=>
  refine kla_makeFunction (mg:=X.mg) qe I.ok.glob hg iK (codeHd_of_K I.lO hC) oP hT.tri hf hgP hB λc' ctv h' tk hx wL cH DP htb=>?_;obtain⟨c2,oc,vs,t,e2,Ik,hd,hv⟩:=DP;cases e2;have nc:H c'=none:=I.hok.fresh wL;have ncP:c'≠P:=λz=>by rw[z,hP] at nc;cases nc
  have kp:∀b u,b≠P->s.heap.get? b=some u->(h'.push (lamO params body scope ((X.mg "__name__").getD .none) c' ctv)).get? b=some u:=λb u nb e=>cj _ (hx b u nb e);have nP:∀b,H b=none->b≠P:=λb e z=>by rw[z,hP] at e;cases e
  have old:∀b u,s.heap.get? b=some u->b≠c':=λb u e=>cU (fV (bO e) wL);have hP1:upd (upd H P (.lN (ps++#[rawInt pos.line,rawInt pos.col,.ref c']))) c' (.nU oc (.own 0)) P=some (.lN (ps++#[rawInt pos.line,rawInt pos.col,.ref c'])):=by rw[bT ncP.symm,iJ]
  have ot:∀b u,H b=some u->(∀ps,u≠.lN ps)->upd (upd H P (.lN (ps++#[rawInt pos.line,rawInt pos.col,.ref c']))) c' (.nU oc (.own 0)) b=some u:=λb u e nt=>by
   rw[bT (xR e nc),bT λz=>by rw[z,hP] at e;cases e;exact nt _ rfl];exact e
  have gc:GoodC (upd (upd H P (.lN (ps++#[rawInt pos.line,rawInt pos.col,.ref c']))) c' (.nU oc (.own 0))) c':=⟨oc,_,vs,t,iJ,hd,hv⟩;have I1:Inv X ao Z (upd (upd H P (.lN (ps++#[rawInt pos.line,rawInt pos.col,.ref c']))) c' (.nU oc (.own 0))) {s with heap:=h'.push (lamO params body scope ((X.mg "__name__").getD .none) c' ctv),toks:=tk}:=by
   refine I.step (g':=s.gens) (d':=s.drawn) (ch:=[]) (λ_ z=>nomatch z) (λb o _ _ _ e n=>kp b o (nP b n) e) (λb o _ _ _ e n=>⟨o.slots,kp b o (nP b n) e⟩) (λb o _ e n=>by rw[bT (old b o e),bT (nP b n)];exact n) (λb o _ e=>?_) (λb xs e=>ot b _ e λ_ z=>by cases z) (λb o u e=>ot b _ e λ_ z=>by cases z) (λb qs e=>?_) (λm hm=>?_) (λb u e=>?_) I.bare
   ·by_cases z:b=P
    ·exact⟨_,by rw[z];exact cj _ htb⟩
    ·exact⟨o,kp b o z e⟩
   ·by_cases z:b=P
    ·subst z;rw[hP] at e;cases e;exact⟨_,hP1,fH.cons _ _ c' _ gc .nil⟩
    ·exact⟨#[],by rw[bT (xR e nc),bT z,e];simp,.nil⟩
   ·obtain⟨o,es,ep,ho,r⟩:=hm;exact⟨o,es,ep,kp _ o (nP _ I.free) ho,r⟩
   ·by_cases z:b=c'
    ·subst z;rw[iJ] at e;cases e;exact⟨cj _ Ik,⟨oc,cj _ Ik⟩⟩
    ·rw[bT z] at e;by_cases y:b=P
     ·subst y;rw[iJ] at e;cases e;show (h'.push _).get? b=some _;exact cj _ htb
     ·rw[bT y] at e;refine(I.hok b u e).stay (λa v ha q=>kp a v ?_ q) (λa q=>ot a _ q λ_ z=>by cases z) λa xs q=>ot a _ q λ_ z=>by cases z
      rcases ha with rfl|ha
      ·exact y
      ·intro z;rw[z,hP] at ha;cases ha
  refine k _ c' ctv _ _ _ (I1.DN (eN _ rfl) ?_ (pR (fV I.lt (rW (Ez wL cH)))) (I.xV (rW (Ez wL cH))) λv z=>by cases z) gc ⟨ot,λb o e=>?_⟩
  ·rw[bT (pR cH),bT (pR (fV (bO oP) (rW (Ez wL cH))))];exact I.hok.fresh (rW (Ez wL cH))
  ·by_cases z:b=P
   ·rw[z];exact⟨_,hP1⟩
   ·exact⟨o,by rw[bT (xR e nc),bT z];exact e⟩
end
section
variable {X:Cx}{ao:List (Addr×Obj)}{Z:St}{H:Hp}{s:Shared}{CX:sE}{cm:Bool}{k:Nat}{fa c':Addr}{params:Arguments}{body:Expr}{scope:Scope}{pm ctv:Value}{N:List Str}{x:Str}{u:Value}{v:V}{t:TE}{Q:VK}
theorem zhN(I:Inv X ao Z H s)(hfo:s.heap.get? fa=some (lamO params body scope pm c' ctv))(gc:GoodC H c')(S:bV N [x] scope)(je:cm=true->X.A.handled=none)(hr:X.A.depth<recursionLimit)(kY:∀u,bindArgs (kla_fn "<lambda>" iY params body scope [] pm (.ref c') ctv) ⟨[u],[]⟩=pure [(x,u)])(rv:RelV v u)
  (hb:PE (dH CX X.prog X.w X.K X.mg X.base N iY scope fa (.ref c') X.A X.stack s H (λ_ _ _=>False) cm) body t) (hq:t (start N [v]) H Q) (gU:∀e s',CX X.stack H s (λ_ _ _=>False) e s'->X.xe e s') :
  wpAny (model X.prog X.w) X.A (call (.ref fa) [u]) (EP X ao Z Q) X.xe s:=by
 have e0:=I.env0;have lim:s.heap.NoLimit:=I.nolimit;obtain⟨oc,w,vs,tq,g1,g2,g3⟩:=gc;have DP:s.heap.CodeRec (.ref c') iY:=⟨c',oc,vs,tq,rfl,(I.hok c' _ g1).1,g2,g3⟩;have uF:∀y∈[(x,u)],scope.names.lookup y.1=some .local\/(scope.names.lookup y.1=some .cell/\((cellsFrom (s.heap.objs.size+1) scope.names []).lookup y.1).isSome=true):=λy hy=>by
  rw[Bb.mp hy];rcases S.par x Zaa with q|q
  ·exact .inl q
  ·exact .inr ⟨q,MJ _ _ _ (.inl q)⟩
 refine Ft (zF (R:=CR CX X.stack X.prog X.w H s Q λ_ _ _=>False) (kla_callFunE hr hfo rfl S.co S.gen rfl DP ?_) λr s' hq=>?_)
 ·rw[kY];refine aP ?_;refine wpAny_newFunctionEnv_cells S.kind uF λenv he s1 y=>?_;subst he;refine⟨lim.keeps y.toInCall.keep,kla_codeExpr ?_⟩;have I1:Inv (dH CX X.prog X.w X.K X.mg X.base N iY scope fa (.ref c') X.A X.stack s H (λ_ _ _=>False) cm) [] (start N [v]) H s1:=YH S je e0 rfl (.cons rv .nil) y;refine fX (hb [] s1 (start N [v]) H _ I1 hq) (λu' s' hs=>?_) λe s' hs=>hs;obtain⟨v',H',aZ,rv',q⟩:=hs;exact⟨v',H',aZ.os,aZ.bare,aZ.base,aZ.hok,rv',q⟩
 ·cases r with
  |error e=>exact gU e s' hq
  |ok fl=>
   cases fl with
   |ret u=>exact I.after hq
   |next=>exact False.elim hq
   |brk=>exact False.elim hq
   |cont=>exact False.elim hq
end
section
variable {X:Cx}{ao:List (Addr×Obj)}{Z:St}{H:Hp}{s:Shared}{E:Value->Shared->Prop}{fa D:Addr}{fo:Obj}{ys:List V}{its:List Value}{kz:List Int}{lt:Nat->Nat->Option Bool}{p:Array Nat}
theorem Inv.apart{a:Addr}(I:Inv X ao Z H s)(h:s.heap.objs.size<=a):a≠X.env.locals/\a∉X.fs/\(a∈X.ex\/X.s₀.heap.objs.size<=a)/\(∀x c,X.env.cells.lookup x=some c->c≠a)/\∀p∈X.pn++ao,p.1≠a:=
 ⟨pR (fV I.lt h),I.xV h,.inr (jW I.sz h),λx c e=>by
  obtain⟨v,o,ho,_⟩:=I.cell x c e;exact cU (fV (bO ho) h),λp hp=>cU (fV (bO (I.pin p hp).1) h)⟩
structure Own(X:Cx)(ao:List (Addr×Obj))(a:Addr):Prop where
 hL:a≠X.env.locals
 hf:a∉X.fs
 h1:a∈X.ex\/X.s₀.heap.objs.size<=a
 h2:∀x c,X.env.cells.lookup x=some c->c≠a
 h3:∀p∈X.pn++ao,p.1≠a
theorem Inv.own{a:Addr}(I:Inv X ao Z H s)(h:s.heap.objs.size<=a):Own X ao a:=let ⟨a1,a2,a3,a4,a5⟩:=I.apart h;⟨a1,a2,a3,a4,a5⟩
theorem Own.set{a:Addr}{h':Heap}{t':Nat}(o:Own X ao a)(hn:H a=none)(I:Inv X ao Z H s)(k:∀b o,b≠a->s.heap.get? b=some o->h'.get? b=some o):Inv X ao Z H {s with heap:=h',toks:=t'}:=I.turned k hn o.hL o.h1 o.h2 o.h3
theorem Own.pin{a:Addr}{u:Obj}(o:Own X ao a)(hn:H a=none)(I:Inv X ao Z H s)(h:s.heap.get? a=some u)(d:∀v,u.data≠.cell v):Inv X (ao++[(a,u)]) Z H s:=I.DN h hn o.hL o.hf d
noncomputable abbrev Cx.DQ(X:Cx):Cx:=X.seen X.A.in1.in1 X.aj X.pn λ_ _=>False
theorem Inv.DQ(I:Inv X ao Z H s):Inv X.DQ ao Z H s:=I.seen rfl (λz=>I.ok.hd z) λ_ z=>z
theorem Inv.VJ(I:Inv X.DQ ao Z H s)(aZ:X.aj=true->X.A.handled=none):Inv X ao Z H s:=I.Cu rfl aZ λ_ z=>z
def La(X:Cx)(Z:St)(G:Hp->Prop)(fa:Addr)(fo:Obj)(ys:List V)(kz:List Int):Prop:=
 ∀(i:Nat) (v:V) (k:Int),ys[i]?=some v->kz[i]?=some k->∀(H:Hp) (ps:List (Addr×Obj)) (s':Shared) (u:Value),G H->Inv X.DQ ps Z H s'->(fa,fo)∈ps->RelV v u->
  wpAny (model X.prog X.w) X.A.in1.in1 (call (.ref fa) [u]) (EP X.DQ ps Z λv' H'=>v'=.int k/\G H') (λ_ _=>False) s'
theorem zd2{kS:Addr}{keys:Array Value}{e e1:Nat}{st:SortSt}{A:Around}{P:PySem.Fin->Shared->Prop}{out:Array Value}(oD:Own X ao D)(oK:Own X (ao++[(D,seqObj "list" #[] e1)]) kS)
  (I:Inv X (ao++[(D,seqObj "list" #[] e1)]++[(kS,seqObj "list" keys e)]) Z H s) (hz:keys.size<=100) (ho:out.size<=100) (hs:(arrOf st).map (·.2)=out) (hf:failedOf st=none)
  (h:∀s' c,Inv X ao Z H s'->H D=none->s'.heap.get? D=some (seqObj "list" out c)->P (.done (.ret .none)) s') :
  wpAny (model X.prog X.w) A (ksk_tail D false e1 (.ref kS) st) P E s:=by
 have hl:(100:Nat)<=sizeLine:=by decide
 obtain⟨nk,VL,_⟩:=I.pin (kS,seqObj "list" keys e) Zaa;obtain⟨nd,Lb,_⟩:=I.pin (D,seqObj "list" #[] e1) Zaa;have nDK:D≠kS:=oK.h3 (D,seqObj "list" #[] e1) Zaa;have I1:Inv X (ao++[(D,seqObj "list" #[] e1)]) Z H {s with heap:=s.heap.update kS (Obj.mapSeq λ_=>(#[]:Array Value))}:=oK.set (t':=s.toks) VL I.b_ λb o nb q=>(zu _ _ _ _ nb).trans q;have VN:(s.heap.update kS (Obj.mapSeq λ_=>(#[]:Array Value))).get? D=some (seqObj "list" #[] e1):=(zu _ _ _ _ nDK).trans nd;obtain⟨c2,nu⟩ : ∃c2,((s.heap.update kS (Obj.mapSeq λ_=>(#[]:Array Value))).update D (Obj.mapSeq λ_=>out)).get? D=some (seqObj "list" out c2):=⟨_,get?_update_seq VN λ_=>out⟩;unfold ksk_tail
 try dsimp only
 refine aB (Bp nk rfl ?_ gV (rY _));refine aB (zG ?_);refine aB (seqEpoch_at VN rfl ?_);rw[hs];refine aB (Bp VN rfl ?_ (rY _) (by simp only[rR,nO];lia));rw[hf];simp only[QV,rR,nO];refine aP (h _ c2 ?_ Lb nu);exact Own.set (s:={s with heap:=s.heap.update kS (Obj.mapSeq λ_=>(#[]:Array Value))}) (h':=(s.heap.update kS (Obj.mapSeq λ_=>(#[]:Array Value))).update D (Obj.mapSeq λ_=>out)) (t':=s.toks) oD Lb I1.b_ λb o nb q=>(zu _ _ _ _ nb).trans q
theorem zjk{kS:Addr}{keys:Array Value}{e e1:Nat}{A:Around}{P:PySem.Fin->Shared->Prop}(oD:Own X ao D)(oK:Own X (ao++[(D,seqObj "list" #[] e1)]) kS)
  (I:Inv X (ao++[(D,seqObj "list" #[] e1)]++[(kS,seqObj "list" keys e)]) Z H s) (hk:IntsAre keys.toList kz) (hlen:kz.length=its.length) (nA:its.length<64)
  (cH:∀i j b,lt i j=some b->∃x y,kz[i]?=some x/\kz[j]?=some y/\b=decide (x<y)) (hr:2<=its.length->bf lt (kas_sort its.length)=some p/\p.size=its.length)
  (h:∀s' c,Inv X ao Z H s'->H D=none->s'.heap.get? D=some (seqObj "list" (dI its p) c)->P (.done (.ret .none)) s') :
  wpAny (model X.prog X.w) A (ksk_end D false its.toArray e1 (.ref kS) keys) P E s:=by
 have hkl:=hk.length;rw[pC] at hkl;have hsz:its.toArray.size=its.length:=by simp
 unfold ksk_end
 try dsimp only
 simp only[rR,nO];by_cases h2:its.toArray.size<2
 ·rw[if_pos h2,if_pos h2];refine aB (aP ?_);rw[StateT.run_pure];refine aB (aP ?_)
  try dsimp only
  refine zd2 (out:=dI its p) oD oK I gV ?_ ?_ rfl h
  ·unfold dI;rw[if_pos gV];simp;lia
  ·unfold dI;rw[if_pos gV];apply Array.toList_inj.mp;show ((keys.zip its.toArray).map (·.2)).toList=_;rw[Array.toList_map,ksk_zip];have:keys.toList.length=keys.size:=pC;exact List.map_snd_zip gV
 ·rw[if_neg h2,if_neg h2];have lR:2<=its.length:=by lia
  obtain⟨hr,Jy⟩:=hr lR;have ek:keys=keys.toList.toArray:=by rw[QL]
  rw[ek];refine aB (Zj (by rw[pC];lia) (λu hu=>?_) ?_)
  ·obtain⟨n,t,e⟩:=hk.all u hu;exact⟨n,t,e⟩
  refine aB (fX (kat_run (κ:=oneType') (ks:=keys.toList) (vs:=its) (G:=λp' s'=>p'=p/\s'=s)
   (Q:=λst' s'=>arrOf st'=p.map (kas_item (keys.toList.toArray.zip its.toArray))/\failedOf st'=none/\s'=s)
   (by rw[pC];lia) lR nA (λp' st' s' a1 a2 a3 a4=>⟨by rw[a2,a4.1],a3,a4.2⟩) (S9 (λi j b C hl hC=>?_) ⟨rfl,rfl⟩ hr)) ?_ λ_ _ e=>e)
  ·obtain⟨x,y,e1,e2,rfl⟩:=cH i j b hl;obtain⟨t1,f1⟩:=hk.get i x e1;obtain⟨t2,f2⟩:=hk.get j y e2;show wpAny _ _ (keyLt' oneType' (keys.toList.getD i Value.none) (keys.toList.getD j Value.none)) C _ s;rw[Ga f1,Ga f2];exact kat_lt_int hC
  ·rintro⟨⟨⟩,st'⟩ s' ⟨FZ,hf,rfl⟩
   try dsimp only
   have hout:=kat_snds (ks:=keys.toList) (vs:=its) (by rw[pC];lia) FZ;have e:List.toArray (p.toList.map λi=>its.getD i Value.none)=dI its p:=by
    unfold dI;rw[if_neg gV]
   rw[e] at hout;have Zg:(dI its p).size=its.length:=by rw[<-e,fW,cR,pC,Jy]
   exact zd2 (out:=dI its p) oD oK I gV gV hout hf h
theorem zhS{G:Hp->Prop}{n:Nat}{P:PySem.Fin->Shared->Prop}(I:Inv X ao Z H s)(g:G H)(oD:Own X ao D)(Lb:H D=none)(ho:s.heap.get? D=some (seqObj "list" its.toArray n))(DR:(fa,fo)∈ao)(rv:Vals ys its)(hlen:kz.length=ys.length)(nA:ys.length<64)(K:La X Z G fa fo ys kz)
  (cH:∀i j b,lt i j=some b->∃x y,kz[i]?=some x/\kz[j]?=some y/\b=decide (x<y)) (hr:2<=ys.length->bf lt (kas_sort ys.length)=some p/\p.size=ys.length)
  (h:∀H' s' c,G H'->Inv X ao Z H' s'->H' D=none->s'.heap.get? D=some (seqObj "list" (dI its p) c)->P (.done (.ret .none)) s') :
  wpAny (model X.prog X.w) X.A.in1.in1 (ksk_tree D (.ref fa) false) P E s:=by
 have hl:(100:Nat)<=sizeLine:=by decide
 have hil:=rv.length;have hD:D<s.heap.objs.size:=bO ho;obtain⟨e1,Cz⟩ : ∃e1,(s.heap.update D (Obj.mapSeq λ_=>(#[]:Array Value))).get? D=some (seqObj "list" #[] e1):=⟨_,get?_update_seq ho λ_=>#[]⟩;have hkS:((s.heap.update D (Obj.mapSeq λ_=>(#[]:Array Value))).push (seqObj "tuple" its.toArray 0)).objs.size=s.heap.objs.size+1:=by rw[size_push',Hw]
 have GP:Own X ao (s.heap.objs.size+1):=I.own (xH _);have VL:H (s.heap.objs.size+1)=none:=I.hok.fresh (xH _);have oK:Own X (ao++[(D,seqObj "list" #[] e1)]) (s.heap.objs.size+1):=⟨GP.hL,GP.hf,GP.h1,GP.h2,λq hq=>by
  rcases mC.mp hq with hq|hq
  ·exact GP.h3 q (Hl _ hq)
  ·rcases mC.mp hq with hq|hq
   ·exact GP.h3 q (lg _ hq)
   ·rw[Bb.mp hq];exact cU (tV hD)⟩
 have kp:∀b o,b≠D->s.heap.get? b=some o->(((s.heap.update D (Obj.mapSeq λ_=>(#[]:Array Value))).push (seqObj "tuple" its.toArray 0)).push (seqObj "list" #[] 0)).get? b=some o:=λb o nb q=>
  cj _ (cj _ ((zu _ _ _ _ nb).trans q))
 unfold ksk_tree;refine aB (listItems_at ho rfl ?_);refine aB (Bp ho rfl ?_ (by rw[fW];lia) (rY _));refine aB (seqEpoch_at Cz rfl ?_);refine aB (wpAny_newTuple ?_ (by show its.length<=_;lia));refine aB (HB ?_ (rY _));refine pQ ?_;rw[hkS];have I3:Inv X (ao++[(D,seqObj "list" #[] e1)]++[(s.heap.objs.size+1,seqObj "list" #[] 0)]) Z H {s with heap:=((s.heap.update D (Obj.mapSeq λ_=>(#[]:Array Value))).push (seqObj "tuple" its.toArray 0)).push (seqObj "list" #[] 0)}:=by
  have aZ:=oD.set (t':=s.toks) Lb I kp;have VP:=oD.pin Lb aZ (cj _ (cj _ Cz)) λv z=>by cases z
  exact oK.pin VL VP (by rw[<-hkS];exact eN _ rfl) λv z=>by cases z
 show wpAny (model X.prog X.w) X.A.in1.in1 (ksk_rest D (.ref fa) false its.toArray e1 (.ref (s.heap.objs.size+1))) P E _;unfold ksk_rest;refine aB (zJ ?_)
 first
  |rw[List.forIn_toArray]
  |(rw[<-M4];simp only[List.toList_toArray])
 refine aB (ksk_fold (λi s'=>∃(H':Hp) (kA:Array Value) (e:Nat),G H'/\Inv X (ao++[(D,seqObj "list" #[] e1)]++[(s.heap.objs.size+1,seqObj "list" kA e)]) Z H' s'/\IntsAre kA.toList (kz.take i)) its 0 _
  ⟨H,#[],0,g,I3,by simpa using IntsAre.nil⟩ ?step ?done)
 case step=>
  rintro j x s' hx ⟨H1,kA,e,g1,I',hk⟩;simp only[Nat.zero_add] at hk ⊢;have hj:j<its.length:=(dW.mp hx).1;obtain⟨k,hkj⟩ : ∃k,kz[j]?=some k:=⟨_,cZ gV⟩;obtain⟨v,hv⟩ : ∃v,ys[j]?=some v:=⟨_,cZ gV⟩;obtain⟨u,hu,rvu⟩:=rv.get hv;rw[hx] at hu;cases hu;have hz:kA.size<=64:=by
   have h1:=hk.length;rw[pC,Bg] at h1
   lia
  refine aB (Fl (fX (K j v k hv hkj H1 _ s' x g1 I'.DQ (by simp[DR]) rvu) (λw s2 he=>?_) λ_ _ hF=>hF.elim));obtain⟨v',H2,aZ,rv',rfl,g2⟩:=he;obtain⟨t2,rfl⟩:=rv';have aZ:=aZ.VJ I'.ok.hd
  try dsimp only
  obtain⟨nk,Ld,_⟩:=aZ.pin (s.heap.objs.size+1,seqObj "list" kA e) Zaa;obtain⟨c2,nu⟩ : ∃c2,(s2.heap.update (s.heap.objs.size+1) (Obj.mapSeq (·.push (.int k t2)))).get? (s.heap.objs.size+1)=some (seqObj "list" (kA.push (.int k t2)) c2):=⟨_,get?_update_seq nk (·.push (.int k t2))⟩;have ek:kz.take (j+1)=kz.take j++[k]:=by rw[List.take_add_one,hkj];simp
  have ea:(kA.push (Value.int k t2)).toList=kA.toList++[Value.int k t2]:=by simp
  refine aB (Bp nk rfl ?_ gV (jW (Nat.le_of_eq (Array.size_push ..)) gV));refine aP ⟨rfl,H2,kA.push (.int k t2),c2,g2,?_,by rw[ea,ek];exact ksk_snoc hk⟩;exact oK.pin Ld (oK.set (t':=s2.toks) Ld aZ.b_ λb o nb q=>(zu _ _ _ _ nb).trans q) nu λv z=>by cases z
 case done=>
  rintro s' ⟨H1,kA,e,g1,I',hk⟩;have GD:IntsAre kA.toList kz:=by
   have e3:kz.take (0+its.length)=kz:=List.take_of_length_le gV;rw[e3] at hk;exact hk
  have nk:=(I'.pin (s.heap.objs.size+1,seqObj "list" kA e) Zaa).1
  try dsimp only
  refine aB (listItems_at nk rfl ?_);exact zjk oD oK I' GD gV gV cH (by rw[<-hil];exact hr) λs' c=>h H1 s' c g1
theorem zfR{G:Hp->Prop}{l:Addr}{Q:VK}(I:Inv X (ao++[(fa,fo)]) Z H s)(g:G H)(hq:cV X.K H l ys)(hlen:kz.length=ys.length)(nA:ys.length<64)(K:La X Z G fa fo ys kz)
  (cH:∀i j b,lt i j=some b->∃x y,kz[i]?=some x/\kz[j]?=some y/\b=decide (x<y)) (hr:2<=ys.length->bf lt (kas_sort ys.length)=some p/\p.size=ys.length)
  (q:∀H' r,G H'->H' r=none->Q (.ref r) (upd H' r (.lst (fP ys p)))) :
  wpAny (model X.prog X.w) X.A (call (.builtin "sorted") [.ref l] [(Str.ofString "key",.ref fa)]) (EP X ao Z Q) E s:=by
 have hl:(100:Nat)<=sizeLine:=by decide
 obtain⟨its,rv,pl,hz⟩:=I.list hq;have hil:=rv.length;refine call_function_entry_kw kind_sorted plain_sorted entry_sorted (ksk_s1 _ _) ?_;unfold Builtin.«sorted»;refine aB (m:=checkCount "sorted" 1 1 _) (aP ?_);refine aB (collect_list pl.isList ?_ gV);refine aB (HB ?_ (by show its.length<=_;lia));have hsz:((s.heap.push (seqObj "list" #[] 0)).update s.heap.objs.size (Obj.mapSeq (·++its.toArray))).objs.size=s.heap.objs.size+1:=by
  rw[Hw,size_push']
 have BL:(((s.heap.push (seqObj "list" #[] 0)).update s.heap.objs.size (Obj.mapSeq (·++its.toArray))).push (seqObj "list" its.toArray 0)).get? (s.heap.objs.size+1)=some (seqObj "list" its.toArray 0):=by
  rw[<-hsz];exact eN _ rfl
 have keep:∀b o,s.heap.get? b=some o->(((s.heap.push (seqObj "list" #[] 0)).update s.heap.objs.size (Obj.mapSeq (·++its.toArray))).push (seqObj "list" its.toArray 0)).get? b=some o:=λb o q=>by
  have cH:b<s.heap.objs.size:=bO q;rw[E_ _ _ _ (by rw[hsz];exact cU (tV cH)),zu _ _ _ _ (cU cH),E_ _ _ _ (cU cH)];exact q
 show wpAny _ _ _ _ _ {s with heap:=((s.heap.push (seqObj "list" #[] 0)).update s.heap.objs.size (Obj.mapSeq (·++its.toArray))).push (seqObj "list" its.toArray 0)};rw[hsz];have oD:Own X (ao++[(fa,fo)]) (s.heap.objs.size+1):=I.own (xH _);have I1:=I.kept (t':=s.toks) keep;refine aB (pQ (wpAny_call_entry_kw slot_list_sort ⟨_,BL,rfl⟩ entry_list_sort ?body (ksk_l1 _ _)));show wpAny (model X.prog X.w) X.A.in1.in1 (Builtin.«list.sort» ⟨[.ref (s.heap.objs.size+1)],[(Str.ofString "key",.ref fa)]⟩) _ _ _;rw[ksk_t1];refine zhS (n:=0) I1 g oD (I.hok.fresh (xH _)) BL Zaa rv hlen nA K cH hr λH' s' c g' aZ Nq hc=>⟨_,rfl,?_⟩;refine aP ⟨_,rfl,.ref (s.heap.objs.size+1),upd H' (s.heap.objs.size+1) (.lst (fP ys p)),?_,rfl,q H' _ g' Nq⟩;have hn:X.s₀.heap.get? (s.heap.objs.size+1)=none:=Ep (jW I.sz (xH _));refine aZ.b_.track hn Nq (λp hp=>oD.h3 p (by
  rcases mC.mp hp with z|z
  ·exact Hl _ z
  ·exact lg _ (Hl _ z))) oD.hL oD.h2 ⟨?_,(dI its p).toList,c,Zi rv p,by rw[QL];exact hc⟩
 unfold fP;by_cases h2:ys.length<2
 ·rw[if_pos h2];exact hz
 ·rw[if_neg h2,cR,pC,(hr gV).2];exact hz
end
end L2
namespace Mi
open PySem PySem.Spec PyProof.Rows L2 PySem.W
section
variable {K:Frag}{cA:Cl}{U U1:Ph}{H H':Hp}{s:S}
theorem Le(hS:aD K cA U H s)(x:Ext ⟨U.z,[]⟩ H U1 H')(r1:aD K cA U1 H' []):Ext U H ⟨U1.z,U.l⟩ H'/\aD K cA ⟨U1.z,U.l⟩ H' s:=by
 refine⟨⟨⟨[],by simp,by simp⟩,λa h=>x.qx a h,λa h=>x.kE a h,λa o h t n=>x.frame a o h t Zaa,x.stay⟩,?_⟩;exact⟨hS.len,λn o a e1 e2=>(hS.obj n o a e1 e2).map (λ_ t q=>x.frame a _ q t Zaa) λ_ _ r=>Rep.zl ((Rep.zl r []).mono x λa ha=>by simp at ha) _,hS.uniq,λa ha=>x.qx a (hS.lz a ha),r1.zt⟩
theorem zks(t:vU H H'):Ext ⟨U.z,[]⟩ H ⟨U.z,[]⟩ H':=
 ⟨⟨[],by simp,by simp⟩,λ_ h=>h,λ_ h=>.inl h,λa o h nt _=>t.kp a o h λps e=>by rw[e] at nt;exact nt,t.st⟩
theorem Lf(z:∀a,U.z a->∃o,H a=some o):aD K cA ⟨U.z,[]⟩ H []:=⟨rfl,λn o a e=>by simp at e,Bl,λa h=>by simp at h,z⟩
theorem zes{f:D->M Xv}:∀{xs:List D} {ks:List Int},kh f xs=some ks->ks.length=xs.length/\∀(i:Nat) d k,xs[i]?=some d->ks[i]?=some k->f d []=some (.ok (.d (.int k)),[])
 |[],ks,h=>by
  cases h;exact⟨rfl,λi d k e=>by simp at e⟩
 |x::r,ks,h=>by
  unfold kh at h;split at h
  ·rename_i k e;obtain⟨ks',e1,rfl⟩:=lu.mp h;obtain⟨l,q⟩:=zes e1;refine⟨by simp[l],λi d k' ed ek=>?_⟩;cases i with
   |zero=>simp at ed ek;subst ed ek;exact e
   |succ i=>exact q i d k' (by simpa using ed) (by simpa using ek)
  ·cases h
end
section
variable {X:Cx}{cA:Cl}{aq:Nat->Nat->Bool}{aj:Bool}{F:Fn}{EX:XS}{a:Expr}{A B:E}{fz:Bool}{k:Nat}{c P:Addr}{params:Arguments}{body:Expr}{scope:Scope}{x:Str}{p pos yX kpos:Pos}
theorem zhX(on:qQ=true)(hc:X.aj=true)(iK:X.env.code=.ref c)(hC:codeHdIn X.K c P=true)(hl:jY X.K c P=true)(VH:K_ X.K X.mg)(qe:closureFor scope X.env=pure [])(hq:X.env.qual++"<lambda>"=iY)(vV:defaultsOf params X.env=([],[]))
  (Sc:bV [x] [x] scope) (hr:bB k X.A) (kY:∀pm c' ctv u,bindArgs (kla_fn "<lambda>" iY params body scope [] pm (.ref c') ctv) ⟨[u],[]⟩=pure [(x,u)])
  (hm:X.mg "sorted"=none) (hg:Gl X "sorted") (ha:SE X cA aq aj F EX a A)
  (hb:∀fa c' s' H',SE (dH (fB X.prog X.w) X.prog X.w X.K X.mg X.base [x] iY scope fa (.ref c') X.A.in1.in1 X.stack s' H' (λ_ _ _=>False) true) cA aq aj F (λ_ _ _ _=>False) body B)
  (he:starEach [a] X.env=(false,eval a X.env)::starEach [] X.env:=by rfl) :
  SE X cA aq aj F EX (.Call (.Name "sorted" p) [a] [⟨some "key",.Lambda params body scope yX,kpos⟩] pos) (.rz fz A B):=by
 intro ao s Z H Q I hh;obtain⟨U,J,st,hL,hS,h⟩:=hh;cases aj with
 |false=>exact h.elim
 |true=>
 have h:Run X.K cA (M.bd (ev aq true F A J) λx=>match x with
   |.d (.fl xs)=>M.bd (M.opt (kh (λd=>ev aq true F B [some (.d d)]) xs)) λks=>M.bd (M.opt (iR (zY ks) xs)) λys=>newL fz ys
   |_=>M.no) U H st _ _:=h
 refine Ba (wD I hg hm zb7 ?_ Tc Tc);refine callWith_kw (e:=a) (rest:=[]) ?_ (by rw[he];rfl) (by rw[he];rfl);have PAa:PA X [a] (zR (tE X.K cA EX (ev aq true F A)) Ja):=sy ha yd he;refine aW (PAa pos ao s Z H (λvs H1=>∃v U1 d st1,vs=[v]/\aX X.K cA U1 H1 Z J/\aD X.K cA U1 H1 st1/\aU X.K cA U1 H1 d v/\Run X.K cA ((λx:Xv=>match x with
   |.d (.fl xs)=>M.bd (M.opt (kh (λd=>ev aq true F B [some (.d d)]) xs)) λks=>M.bd (M.opt (iR (zY ks) xs)) λys=>newL fz ys
   |_=>M.no) d) U1 H1 st1 (λd _ U' H'=>∀v,aU X.K cA U' H' d v->Q v H') (eX X.K cA EX Z)) I ?_) λus s1 hx=>?_
 ·exact bw hL hS h λv H1 U1 d st1 x1 hL1 aJ r1 h2=>⟨v,U1,d,st1,rfl,hL1,aJ,r1,h2⟩
 obtain⟨vs0,H1,I1,rvs,v,U1,d,st1,rfl,hL1,aJ,r1,h2⟩:=hx;obtain⟨u,rfl,ru⟩:=vals1 rvs;have key:∃xs,d=.d (.fl xs):=by
  cases d with
  |l n=>exact h2.elim
  |d d=>cases d<;>first|exact⟨_,rfl⟩|exact h2.elim
 obtain⟨xs,rfl⟩:=key;have h2:Run X.K cA (M.bd (M.opt (kh (λd=>ev aq true F B [some (.d d)]) xs)) λks=>M.bd (M.opt (iR (zY ks) xs)) λys=>newL fz ys) U1 H1 st1 (λd _ U' H'=>∀v,aU X.K cA U' H' d v->Q v H') (eX X.K cA EX Z):=h2;obtain⟨ks,ek,h3⟩:=h2.m7;obtain⟨zs,ez,h4⟩:=h3.m7;obtain⟨kl,kf⟩:=zes ek;cases r1 with
 |d r1=>
 cases r1 with
 |@fl _ l vs hl1 rs=>
 cases ru;have hlen:=rs.len;obtain⟨pp,Dv,nA,hz⟩ : ∃pp:Array Nat,(2<=vs.length->bf (zY ks) (kas_sort vs.length)=some pp/\pp.size=vs.length)/\vs.length<64/\∀{U':Ph} {H':Hp},aC X.K cA U' H' xs vs->aC X.K cA U' H' zs (fP vs pp):=by
  unfold iR at ez;by_cases c2:xs.length<2
  ·rw[if_pos c2] at ez;cases ez;refine⟨#[],λz=>absurd z gV,by lia,λr=>?_⟩;have:fP vs #[]=vs:=by unfold fP;rw[if_pos gV]
   rw[this];exact r
  ·rw[if_neg c2] at ez;by_cases c3:xs.length<64
   ·rw[if_pos c3] at ez;cases e:bf (zY ks) (PySem.W.kas_sort xs.length) with
    |none=>rw[e] at ez;cases ez
    |some q=>
     rw[e] at ez;dsimp only at ez;by_cases hq:q.size=xs.length
     ·rw[if_pos hq] at ez;cases ez;refine⟨q,λ_=>⟨by rw[<-hlen];exact e,by lia⟩,by lia,λr=>?_⟩;have:fP vs q=q.toList.map λi=>vs.getD i .non:=by unfold fP;rw[if_neg gV]
      rw[this];exact r.Dw q.toList
     ·rw[if_neg hq] at ez;cases ez
   ·rw[if_neg c3] at ez;cases ez
 show wpAny _ _ (evalAll [do let v <-eval (.Lambda params body scope yX) X.env;standAt pos;pure v]) _ _ s1;refine wpAny_evalAll_cons (aB (zht I1 on iK hC hl VH qe hq vV λfa c' ctv pm H2 s2 I2 gc tx=>aB (ug (aP (wpAny_evalAll_nil ?_)))));have x2:Ext ⟨U1.z,[]⟩ H1 ⟨U1.z,[]⟩ H2:=zks tx;have r2:aD X.K cA ⟨U1.z,[]⟩ H2 []:=Lf λa z=>by obtain⟨o,e⟩:=aJ.zt a z;exact tx.st a o e
 refine zfR (G:=λH3=>∃U3,Ext ⟨U1.z,[]⟩ H2 U3 H3/\aD X.K cA U3 H3 []) (fo:=lamO params body scope pm c' ctv) (ys:=vs) (kz:=ks) (lt:=zY ks) (p:=pp) I2 ⟨_,Ext.refl,r2⟩ (LstAt.sW (LstAt.mono (U:=⟨U1.z,[]⟩) x2 (λa ha=>by simp at ha) hl1)) gV nA (λi v k' hv hk H3 ps s' u g3 aZ DR rv=>?_) (λi j b e=>?_) Dv λH' r g3 hn=>?_
 ·obtain⟨U3,x3,r3⟩:=g3;obtain⟨d,ed⟩ : ∃d,xs[i]?=some d:=by
   cases e:xs[i]? with
   |none=>rw[rs.none e] at hv;cases hv
   |some d=>exact⟨d,rfl⟩
  obtain⟨v2,ev2,rd⟩:=rs.get ed;rw[hv] at ev2;cases ev2;have ef:=kf i d k' ed hk;have rd3:Rep X.K cA U3 H3 d v:=((Rep.zl rd []).mono x2 λa ha=>by simp at ha).mono x3 λa ha=>by simp at ha
  obtain⟨oc,w,ws,tq,g1,g2,g4⟩:=gc;have gc3:GoodC H3 c':=⟨oc,w,ws,tq,x3.frame c' _ g1 trivial Zaa,g2,g4⟩;refine zhN (X:=X.DQ) (CX:=fB X.prog X.w) (cm:=true) aZ (aZ.pin _ (lg _ DR)).1 gc3 Sc (λ_=>aZ.ok.hd hc) hr.depth (kY pm c' ctv) rv (hb fa c' s' H3) ?_ (λe s' z=>by obtain⟨_,_,_,_,_,_,_,_,_,_,z⟩:=z;exact z);refine⟨U3,[some (.d d)],[],⟨rfl,λj y e=>?_⟩,r3,?_⟩
  ·cases j with
   |zero=>simp at e;subst e;exact⟨v,rfl,.d rd3⟩
   |succ j=>simp at e
  ·unfold Run;rw[ef];intro U' H' x' r' v' rv';cases rv' with
   |d rv'=>
    cases rv';exact⟨rfl,U',x3.trans x',r'⟩
 ·unfold zY at e;cases e1:ks[i]? with
  |none=>rw[e1] at e;cases e
  |some a=>
   cases e2:ks[j]? with
   |none=>rw[e1,e2] at e;cases e
   |some b'=>
    rw[e1,e2] at e;cases e;exact⟨a,b',rfl,rfl,rfl⟩
 ·obtain⟨U3,x3,r3⟩:=g3;obtain⟨xe,re⟩:=Le aJ (x2.trans x3) r3;have rs3:aC X.K cA ⟨U3.z,U1.l⟩ H' xs vs:=rs.mono xe aJ.lz;exact Zw re (h4.ext xe) r _ hn (hz rs3)
end
structure JL(X:Cx):Prop where
 ex:∃c P,X.env.code=.ref c/\codeHdIn X.K c P=true/\jY X.K c P=true/\K_ X.K X.mg
structure DW(K:Frag)(mg:Str->Option Value)(fd:FuncData):Prop where
 ex:∃c P,fd.code=.ref c/\codeHdIn K c P=true/\jY K c P=true/\K_ K mg
section
variable {X:Cx}{cA:Cl}{aq:Nat->Nat->Bool}{aj:Bool}{F:Fn}{EX:XS}{a:Expr}{A B:E}{fz:Bool}{k:Nat}{params:Arguments}{body:Expr}{scope:Scope}{p pos yX kpos:Pos}
theorem ziK(x:Str)(L:JL X)(hr:bB k X.A)(hc:X.aj=true)(hm:X.mg "sorted"=none)(hg:JK X "sorted" .globalImplicit)(ha:JE X cA aq aj F EX a A)
  (hb:∀fa c' s' H',JE (dH (fB X.prog X.w) X.prog X.w X.K X.mg X.base [x] iY scope fa (.ref c') X.A.in1.in1 X.stack s' H' (λ_ _ _=>False) true) cA aq aj F (λ_ _ _ _=>False) body B)
  (qe:closureFor scope X.env=pure []:=by rfl) (hq:X.env.qual++"<lambda>"=iY:=by kernel_rfl) (vV:defaultsOf params X.env=([],[]):=by rfl)
  (kY:∀pm c' ctv u,bindArgs (kla_fn "<lambda>" iY params body scope [] pm (.ref c') ctv) ⟨[u],[]⟩=pure [(x,u)]:=by intros;rfl)
  (Sc:bV [x] [x] scope:=by exact⟨rfl,rfl,rfl,dk,rfl,dk,dk⟩) (he:starEach [a] X.env=(false,eval a X.env)::starEach [] X.env:=by rfl) (on:qQ=true:=by rfl) :
  JE X cA aq aj F EX (.Call (.Name "sorted" p) [a] [⟨some "key",.Lambda params body scope yX,kpos⟩] pos) (.rz fz A B):=by
 obtain⟨c,P,l1,l2,l3,l4⟩:=L.ex;exact⟨zhX on hc l1 l2 l3 l4 qe hq vV Sc hr kY hm hg.o ha.o (λfa c' s' H'=>(hb fa c' s' H').o) he⟩
end
theorem fJL{P:Program}{w:World}{K:Frag}{mg:Str->Option Value}{base:Heap}{cA:Cl}{aq:Nat->Nat->Bool}{T:Nat->Option Df}{x:Str}{st:Stmt}{ps:List Str}{k n:Nat}{cm:Bool}{df:Df}(D:D3 K mg x st ps)(LK:DW K mg (fdOf K x st))(N:List Str)(hT:T n=some df)
  (hb:∀(cdv:Value) (A:Around) (outer:List Env) (s:Shared) (H:Hp) (E:XK),bB k (A.deeper (envOfC x (au st) s.heap.objs.size (fQ K x) cdv))->JL (dH (fB P w) P w K mg base N x (au st) (fQ K x) cdv A outer s H E cm)->
   JB (dH (fB P w) P w K mg base N x (au st) (fQ K x) cdv A outer s H E cm) cA aq cm (λc=>call aq T k c) (λ_ C dx H'=>E C dx H') (aM st) df.body) (S:bV N ps (au st):=by exact⟨rfl,rfl,rfl,dk,rfl,dk,dk⟩) (hp:df.iB=ps.length:=by rfl) (hm:df.many=N.length:=by rfl) :
  cB P w K mg base (fB P w) cm (k+1) (fQ K x) (fdOf K x st) ps (lG K cA (call aq T (k+1) cm n)):=by
 obtain⟨c,P',l1,l2,l3,l4⟩:=LK.ex;obtain⟨oc,od,kV,doc,pm,an,cdv,ct,osl,e,lk,iK⟩:=D.f.ex;rw[e] at lk l1 ⊢;have l1:cdv=.ref c:=l1;refine RQ lk iK S (λvs H Q E ⟨U,ds,s,r,hS,h⟩=>?_) λA outer s H vs Q E hr ⟨U,ds,st',r,hS,h⟩=>?_
 ·rw[<-r.len,(Ov hT h).1,hp]
 ·obtain⟨hl,h2⟩:=Ov hT h;exact⟨_,(hb cdv A outer s H E (hr.deeper _) ⟨c,P',l1,l2,l3,l4⟩).o,U,_,st',Ur r hl.symm hm,hS,h2⟩
structure kZ(K:Frag)(h:Heap):Prop where
 ex:∃(q:Addr×FuncData) (c P:Addr),xK K "plain_rings"=some q/\q.2.code=.ref c/\codeHdIn K c P=true/\jY K c P=true/\K.lookup P=none/\h.get? P=some (tabObj #[])/\(∀c' P',jY K c' P'=true->P'=P)/\bmB K=true
theorem zkf{K:Frag}{c P:Addr}(h:jY K c P=true):∃o,K.lookup c=some o/\lM o=some (.ref P):=by
 unfold jY at h;split at h
 ·rename_i o e;refine⟨o,e,?_⟩;split at h
  ·rename_i vs ed;rw[gG] at h;obtain⟨h1,h2⟩:=h;split at h1
   ·rename_i q t e1;split at h2
    ·rename_i p S8;unfold lM;rw[ed];dsimp only;rw[e1];dsimp only;rw[h1];dsimp only;rw[S8,nM.mp h2]
    ·cases h2
   ·cases h1
  ·cases h
 ·cases h
theorem zjv{K:Frag}{c P:Addr}{o:Obj}(e:K.lookup c=some o)(h:lM o=some (.ref P)):jY K c P=true:=by
 unfold lM at h;split at h
 ·rename_i vs ed;split at h
  ·rename_i q t e1;split at h
   ·rename_i eq;unfold jY;rw[e];dsimp only;rw[ed];dsimp only;rw[e1,h];dsimp only;rw[eq];simp
   ·cases h
  ·cases h
 ·cases h
theorem zhx{o:Obj}(h:qP o=true):o=tabObj #[]:=by
 unfold qP at h;split at h
 ·rename_i vs sl;rw[gG] at h;rw[Array.isEmpty_iff.mp h.1,Array.isEmpty_iff.mp h.2]
 ·cases h
theorem zj3{K:Frag}{h:Heap}(e:Bt K h=true):kZ K h:=by
 unfold Bt at e;split at e
 ·rename_i q hq;split at e
  ·rename_i c hc;split at e
   ·rename_i P hP;simp only[gG,jo] at e;obtain⟨⟨⟨⟨e1,e2⟩,e3⟩,e4⟩,e5⟩:=e;obtain⟨o,ho,hi⟩:=zm.mp hP;refine⟨q,c,P,hq,hc,e1,zjv ho hi,by simpa using e2,?_,λc' P' hl=>?_,e4⟩
    ·unfold Ib at e3;split at e3
     ·rename_i o' pU;rw[pU,zhx e3]
     ·cases e3
    ·obtain⟨o',pU,qg⟩:=zkf hl;have:=e5 (c',o') (Vi pU);dsimp only at this;rw[qg] at this;exact nM.mp this
   ·cases e
  ·cases e
 ·cases e
theorem kZ.keeps{K:Frag}{h h':Heap}(L:kZ K h)(k:∀b o,h.get? b=some o->h'.get? b=some o):kZ K h':=by
 obtain⟨q,c,P,a1,a2,a3,a4,a5,a6,a7⟩:=L.ex;exact⟨q,c,P,a1,a2,a3,a4,a5,k _ _ a6,a7⟩
theorem znG{K:Frag}{h:Heap}{mg:Str->Option Value}(e:bmB K=true)(X:K.In h)(G:h.Ns mainGlobals mg):K_ K mg:=by
 unfold bmB at e;split at e
 ·rename_i bm hb;split at e
  ·rename_i d sl hl;simp only[gG,nM,bne_iff_ne] at e;obtain⟨⟨e1,e2⟩,e3⟩:=e;exact⟨bm,_,mg_of X G hb,e2,e3,hl,rfl,by rw[e1],rfl⟩
  ·cases e
 ·cases e
theorem kZ.lk{K:Frag}{h:Heap}{mg:Str->Option Value}(L:kZ K h)(X:K.In h)(G:h.Ns mainGlobals mg)(st:Stmt):DW K mg (fdOf K "plain_rings" st):=by
 obtain⟨q,c,P,a1,a2,a3,a4,a5,a6,a7,a8⟩:=L.ex;refine⟨c,P,?_,a3,a4,znG a8 X G⟩;unfold fdOf;rw[a1];exact a2
theorem zf9{P:Program}{w:World}{K:Frag}{mg mb:Str->Option Value}{CX:sE}{k:Nat}{fa a:Addr}{fd:FuncData}{x:Str}{sp:Sp}{s₁:Shared}{vs:List Value}{ns:List Int}
  (KX:K.In s₁.heap) (hns:s₁.heap.Ns mainGlobals mg) (hb:s₁.heap.Ns builtinsNs mb) (hbb:∀x:Str,x≠"__name__"->mb x=bootBuiltins x) (VR:s₁.heap.NoLimit) (hg:s₁.gens=#[])
  (ha:s₁.heap.get? a=some {cls:=.type "list",data:=.seq vs.toArray}) (hi:IntsAre vs ns) (hl:ns.length<=sizeLine) (hr:bB k callerA)
  (F:∀base:Heap,K.In base->base.Ns mainGlobals mg->cB P w K mg base CX true k fa fd [x] sp) (kY:∀(s:Shared) (u:Value),BindsTo s fd ⟨[u],[]⟩ [(x,u)])
  (NZ:∀H:Hp,cV K H a (ns.map V.int)->sp [.ref a] H (λv _=>v=.bl true) λ_ _ _=>False)
  (hCX:∀H e s',CX [] H s₁ (λ_ _ _=>False) e s'->False) (LH:kZ K s₁.heap) :
  codeAny (model P w) callerA (.call (.ref fa) ⟨[.ref a],[]⟩) (λr s'=>r=.ok (.ret (.bool true))/\OldK s₁.heap s'.heap/\s'.os=s₁.os/\AllBare s'.gens) s₁:=by
 have rv:=Y0 hi;have lenV:=hi.length;obtain⟨q,c,T,a1,a2,a3,a4,a5,a6,a7,a8⟩:=LH.ex;have nTa:T≠a:=λz=>by rw[z,ha] at a6;cases a6
 have core:∀H:Hp,H T=some (.lN #[])->cV K H a (ns.map V.int)->iU P w H s₁.heap->(∀b,H b≠none->b=T\/(b=a/\∃o xs,H b=some (.nU o (.lst xs))))->(H a≠none->K.lookup a=none)->
   codeAny (model P w) callerA (.call (.ref fa) ⟨[.ref a],[]⟩) (λr s'=>r=.ok (.ret (.bool true))/\OldK s₁.heap s'.heap/\s'.os=s₁.os/\AllBare s'.gens) s₁:=by
  intro H hT hS hok hA hK;have rN:∀{b:Addr} {o:Obj},s₁.heap.get? b=some o->H b=none->(mK s₁.heap H).get? b=some o:=λe n=>zhd e n;have Jf:∀{b:Addr} {o:Obj} {es:Array DictEntry} {ep:Nat},s₁.heap.get? b=some o->o.data=.dict es ep->H b=none:=λ{b o es ep} e d=>by
   cases qq:H b with
   |none=>rfl
   |some u=>
    rcases hA b (by rw[qq];simp) with z|⟨z,_⟩
    ·subst z;rw[a6] at e;cases e;have d':Data.fields #[]=Data.dict es ep:=d;cases d'
    ·subst z;rw[ha] at e;cases e;have d':Data.seq vs.toArray _=Data.dict es ep:=d;cases d'
  have Pk:∀{b:Addr} {m:Str->Option Value},s₁.heap.Ns b m->(mK s₁.heap H).Ns b m:=λ{b m} ⟨o,es,ep,e,d,r⟩=>⟨o,es,ep,rN e (Jf e d),d,r⟩;have hKb:K.In (mK s₁.heap H):=λb o e=>rN (KX b o e) (by
   cases qq:H b with
   |none=>rfl
   |some u=>
    rcases hA b (by rw[qq];simp) with z|⟨z,_⟩
    ·subst z;rw[a5] at e;cases e
    ·subst z;rw[hK (by rw[qq];simp)] at e;cases e)
  have hM:Mod K mg (mK s₁.heap H):=⟨hKb,Pk hns,⟨mb,Pk hb,hbb⟩,let ⟨mc,h1,h2⟩:=VR;⟨mc,Pk h1,h2⟩⟩;have e0:pZ P w K mg (mK s₁.heap H) callerA [] s₁ H:=⟨rfl,hM,λb o e=>ziE e,Nat.le_of_eq (zfy _ _),trivial,⟨λb hb=>absurd (show b∈([]:List Addr) from hb) Zaa,λ_ c' P' hc=>⟨#[],by rw[a7 c' P' hc];exact hT,.nil⟩⟩,hok,.of_eq hg⟩;refine zF ((F _ hKb (Pk hns)).run callerA [] s₁ H ⟨[.ref a],[]⟩ [.ref a] [.ref a] _ _ (λ_=>rfl) hr e0 (kY s₁ (.ref a)) (.cons rfl .nil) (NZ H hS)) λr s' h=>?_;cases r with
  |error e=>exact(hCX H e s' h).elim
  |ok fl=>
   cases fl with
   |next=>exact False.elim h
   |brk=>exact False.elim h
   |cont=>exact False.elim h
   |ret u=>
    obtain⟨v,H',os,bare,un,Lg,r',q'⟩:=h;have q':v=.bl true:=q';subst q';obtain rfl:u=Value.bool true:=r';obtain⟨more,hT',_⟩:=un.jB T #[] hT;have oT:s'.heap.get? T=some (tabObj (#[]++more)):=Lg T _ hT';have ht₀:s₁.heap.TableAt c T #[]:=(codeHd_of_K KX a3).tab a6;have kept:∀b o,b≠T->s₁.heap.get? b=some o->s'.heap.get? b=some o:=λb o nb e=>by
     cases qq:H b with
     |none=>exact un.keep b o e qq (by intro z;exact absurd (show b∈([]:List Addr) from z) Zaa) Zaa
     |some u=>
      rcases hA b (by rw[qq];simp) with z|⟨_,ob,xs,z⟩
      ·exact absurd z nb
      ·have z2:=un.iZ b ob _ z;obtain⟨e1,_⟩:=hok b _ z;obtain⟨e2,_⟩:=Lg b _ z2;rw[e] at e1;cases e1;exact e2
    refine⟨rfl,⟨λb o e=>?_,λb o e=>?_⟩,os,bare⟩
    ·by_cases z:b=T
     ·subst z;rw[a6] at e;cases e;exact .inr (.inl ⟨ht₀.isCodeTable,rfl,#[],more,rfl,oT⟩)
     ·exact .inl (kept b o z e)
    ·by_cases z:b=T
     ·exact⟨_,by rw[z];exact oT⟩
     ·exact⟨o,kept b o z e⟩
 have Aq:∀H,bF P w H s₁.heap T (.lN #[]):=λH=>a6;cases hk:K.lookup a with
 |some o=>
  have e:=KX a o hk;rw[ha] at e;cases e;refine core (λb=>if b=T then some (.lN #[]) else none) (if_pos rfl) (.inr ⟨_,vs.toArray,_,hk,rfl,rfl,rfl,by rw[fW,lenV];exact hl,by simpa using rv⟩) (λb u z=>?_) (λb z=>?_) λz=>absurd (if_neg (Ne.symm nTa)) z
  ·by_cases hb:b=T
   ·subst hb;have z':=(if_pos rfl).symm.trans z;cases z';exact Aq _
   ·have z':=(if_neg hb).symm.trans z;cases z'
  ·by_cases hb:b=T
   ·exact .inl hb
   ·exact absurd (if_neg hb) z
 |none=>
  refine core (λb=>if b=T then some (.lN #[]) else if b=a then some (.nU {cls:=.type "list",data:=.seq vs.toArray} (.lst (ns.map V.int))) else none) (if_pos rfl) (.inl (.inr ⟨{cls:=.type "list",data:=.seq vs.toArray},by show (if a=T then _ else _)=_;rw[if_neg (Ne.symm nTa),if_pos rfl]⟩)) (λb u z=>?_) (λb z=>?_) λ_=>hk
  ·by_cases hb:b=T
   ·subst hb;have z':=(if_pos rfl).symm.trans z;cases z';exact Aq _
   ·have z':=(if_neg hb).symm.trans z;by_cases t_:b=a
    ·have z'':=(if_pos t_).symm.trans z';cases z'';subst t_;exact⟨ha,by rw[cR];exact hl,vs,_,rv,ha⟩
    ·have z'':=(if_neg t_).symm.trans z';cases z''
  ·by_cases hb:b=T
   ·exact .inl hb
   ·by_cases t_:b=a
    ·exact .inr ⟨t_,_,_,(if_neg hb).trans (if_pos t_)⟩
    ·exact absurd ((if_neg hb).trans (if_neg t_)) z
end Mi
namespace Mi
open PySem PySem.Spec PyProof.Rows L2
section
variable {K:W.Frag}{cA:Cl}{U:Ph}{H:Hp}{s:S}
theorem zeJ{β:Type}{c:Nat}{x:Xv}{v:V}{k:List D->M β}{P:β->S->Ph->Hp->Prop}{Ee:Nat->List D->S->Ph->Hp->Prop}(r:aU K cA U H x v)(h:Run K cA (M.bd (sU c x) k) U H s P Ee) :
  ∃fs ad dx vs,v=.ref ad/\H ad=some (.ins (cA.b c) dx ((cA.g c).zip vs))/\aC K cA U H fs vs/\Run K cA (k fs) U H s P Ee:=by
 cases r with
 |l _=>exact h.elim
 |d r=>cases r with
  |@ob ad e fs vs q r=>
   have h2:Run K cA (M.bd (if e=c then M.ret fs else M.no) k) U H s P Ee:=h;clear h;by_cases z:e=c
   ·rw[if_pos z] at h2;subst z;obtain⟨_,dx,q1,_⟩:=q;exact⟨fs,ad,dx,vs,rfl,q1,r,h2⟩
   ·rw[if_neg z] at h2;exact h2.elim
  |_=>exact h.elim
theorem Run.qt'{α:Type}{m:M α}{P:α->S->Ph->Hp->Prop}{Ee Ee':Nat->List D->S->Ph->Hp->Prop}(h:Run K cA (M.qt m) U H s P Ee):Run K cA m U H s P Ee':=by
 unfold Run M.qt at *;cases e:m s with
 |none=>rw[e] at h;exact h
 |some r=>
  obtain⟨r,s1⟩:=r;rw[e] at h;cases r with
  |ok a=>exact h
  |er c f=>exact h.elim
theorem zcw:∀{ns:List Str} {vs:List V} {m:Str},m∉ns->(ns.zip vs).lookup m=none
 |[],vs,m,_=>by simp
 |n::ns,[],m,_=>by simp
 |n::ns,v::vs,m,h=>by
  rw[Hs,pN,show (m==n)=false from Er.mpr λe=>h (by simp[e])];exact zcw λz=>h (iI _ z)
end
structure Ow(K:W.Frag)(cA:Cl)(c:Nat):Prop where
 cl:Cls K (cA.b c)
 nf:∀f∈cA.g c,iu K (cA.b c) f
 nd:(cA.g c).Nodup
section
variable {X:Cx}{cA:Cl}{aq:Nat->Nat->Bool}{aj:Bool}{F:Fn}{EX:XS}{a e:Expr}{es:List Expr}{A:E}{Xs:Es}{pos apos p:Pos}{x:Str}
theorem GQ{c i:Nat}(o:Ow X.K cA c)(ha:JE X cA aq aj F EX a A)(hi:((cA.g c)[i]?==some x)=true:=by kernel_rfl)(hb:attributeBase a x X.env (eval a X.env)=eval a X.env:=by rfl):JE X cA aq aj F EX (.Attribute a x pos) (.of A c i):=⟨PE.weak (zk9 ha.o hb) λZ H Q hh=>un hh λU J s hL hS h=>by
 refine bw hL hS h λy H1 U1 d1 s1 x1 hL1 aJ r1 h1=>?_;obtain⟨fs,ad,dx,vs,rfl,q1,q2,h2⟩:=zeJ r1 h1;have hi:(cA.g c)[i]?=some x:=nM.mp hi;cases ef:fs[i]? with
 |none=>rw[ef] at h2;exact h2.elim
 |some d=>
  rw[ef] at h2;obtain⟨v,e1,rv⟩:=q2.get ef;exact⟨ad,_,dx,_,v,rfl,q1,o.cl,o.nf x (eG hi),zfa o.nd hi e1,h2.bH aJ v (.d rv)⟩⟩
theorem zgv:Passes (fB X.prog X.w) X λ_ _ _=>False:=λao Z H s e s' I h=>by
 obtain⟨_,_,_,_,_,_,_,_,_,_,z⟩:=h;exact z.elim
structure Mt(K:W.Frag)(C:Addr)(m q:Str)(st:Stmt)(ps:List Str)(f:Addr)(fd:FuncData):Prop where
 fn:oW K m q st f fd
 mt:Meth K C m f
 bd:Binds K fd ps []
theorem yZ{c f k:Nat}{cm:Bool}{m q:Str}{st:Stmt}{ps:List Str}{fa:Addr}{fd:FuncData}{pl:Sem Bool}(o:Ow X.K cA c)(D:Mt X.K (cA.b c) m q st ps fa fd)(Fo:cB X.prog X.w X.K X.mg X.base (fB X.prog X.w) cm k fa fd ps (lG X.K cA (F f)))(hr:bB k X.A)(ha:JE X cA aq aj F EX a A)(hb:JA X cA aq aj F EX (e::es) Xs)
  (hm:decide (m∉cA.g c)=true:=by kernel_rfl) (je:cm=true->X.aj=true:=by first|exact λ_=>rfl|exact λz=>nomatch z) (he:aF e=true:=by rfl) (cT:es.all aF=true:=by rfl)
  (ht:eval (.Call (.Attribute a m apos) (e::es) [] pos) X.env=(do
   let ov <-eval a X.env
   standAt apos.atName
   let (f,first) <-holding [ov] (getMethod ov m pl)
   callWith pos f first (backTo pos (starEach (e::es) X.env)) (backToKw pos (keywordEach [] X.env))):=by rfl):JE X cA aq aj F EX (.Call (.Attribute a m apos) (e::es) [] pos) (.cm c f A Xs):=⟨PE.weak (zjL (pl:=pl) (n6:=[]) ha.o o.cl D.mt Fo je hr D.bd .nil zgv hb.o (bA he) (bD cT) ht) λZ H Q hh=>un hh λU J s hL hS h=>by
 refine bw hL hS h λy H1 U1 d1 s1 x1 hL1 aJ r1 h1=>?_;obtain⟨fs,ad,dx,vs,rfl,q1,q2,h2⟩:=zeJ r1 h1;refine⟨ad,dx,_,rfl,q1,zcw (jU hm),qy hL1 aJ h2 λus H2 U2 ds s2 x2 hL2 aR r2 h3=>?_⟩;rw[zB];obtain⟨U0,s0,a1,a2,a3⟩:=zeI (EE:=λ_ _ _ _=>False) aR (.cons (r1.mono x2 aJ.lz) r2) (λ_ _ _ _ _ _ z=>z) (h3.qt');refine⟨U0,_,s0,a1,a2,?_⟩;unfold Run at a3 ⊢;split at a3
 ·exact a3
 ·exact λU' H' x r=>(a3 U' H' x r).elim
 ·exact a3⟩
end
noncomputable def Pn(K:W.Frag)(cA:Cl)(c:Nat)(m:List Xv->M Xv):Sp:=λvs H Q _=>∃x dx us U H0 xs s,vs=.ref x::us/\H0 x=none/\H0 dx=none/\dx≠x/\H=upd (upd H0 dx (.own x)) x (.ins (cA.b c) dx [])/\aQ K cA U H0 xs us/\aD K cA U H0 s /\
 Run K cA (m (.d .any::xs)) U H0 s (λr _ U' H'=>∀ds ws,r=.d (.tup ds)->aC K cA U' H' ds ws->fD U' H' x (.ins (cA.b c) dx ((cA.g c).zip ws))->(cA.g c).length=ws.length->Q .non H') (λ_ _ _ _ _=>False)
section
variable {K:W.Frag}{cA:Cl}{U:Ph}{H:Hp}{s:S}
theorem zg9{xs:List Xv}{vs:List V}(h:locs xs=[])(r:aQ K cA U H xs vs)(l:List Addr):aQ K cA ⟨U.z,l⟩ H xs vs:=by
 induction r with
 |nil=>exact .nil
 |cons a r ih=>cases a with
  |d a=>exact .cons (.d (Rep.zl a l)) (ih h)
  |l a=>cases h
theorem Ext.made{x dx:Addr}{C:Addr}(hx:H x=none)(hd:H dx=none)(hn:dx≠x):Ext U H (U.mark x) (upd (upd H dx (.own x)) x (.ins C dx [])):=by
 have g:bC H (upd (upd H dx (.own x)) x (.ins C dx [])):=(bC.new hd).trans (bC.new (by rw[bT hn.symm];exact hx));exact⟨⟨[],by simp[Ph.mark],by simp⟩,λa z=>.inl z,λa z=>z.imp id λe=>by rw[e];exact hx,λa o h _ _=>g a o h,λa o h=>⟨o,g a o h⟩⟩
theorem aD.made{x dx:Addr}{C:Addr}(hS:aD K cA U H s)(hx:H x=none)(hd:H dx=none)(hn:dx≠x):aD K cA (U.mark x) (upd (upd H dx (.own x)) x (.ins C dx [])) s:=by
 have xt:=Ext.made (U:=U) (C:=C) hx hd hn;refine⟨hS.len,λn o a e1 e2=>(hS.obj n o a e1 e2).map (λu _ q=>?_) λ_ _ r=>r.mono xt hS.lz,hS.uniq,λa ha=>.inl (hS.lz a ha),λa z=>?_⟩
 ·have n1:a≠x:=λy=>by rw[y,hx] at q;cases q
  have n2:a≠dx:=λy=>by rw[y,hd] at q;cases q
  rw[bT n1,bT n2];exact q
 ·rcases z with z|z
  ·obtain⟨o,e⟩:=hS.zt a z;exact xt.stay a o e
  ·subst z;exact⟨_,iJ⟩
end
section
variable {X:Cx}{cA:Cl}{aq:Nat->Nat->Bool}{aj:Bool}{F:Fn}{EX:XS}{e:Expr}{es:List Expr}{Xs:Es}{pos p:Pos}{x:Str}
theorem zoQ{c f k:Nat}{cm:Bool}{ps:List Str}{fa:Addr}{fd:FuncData}(M:Mk X.K (cA.b c) fa)(Fo:cB X.prog X.w X.K X.mg X.base (fB X.prog X.w) cm k fa fd ps (Pn X.K cA c (F f)))(hr:∀us,bB k (X.A.under (.builtin "type.__call__" ⟨.ref (cA.b c)::us,[]⟩)))(hb:Binds X.K fd ps [])(hm:X.mg x=some (.ref (cA.b c)))(hg:JK X x .globalImplicit)
  (ha:JA X cA aq aj F EX (e::es) Xs) (h:okN x=true:=by kernel_rfl) (je:cm=true->X.aj=true:=by first|exact λ_=>rfl|exact λz=>nomatch z) (he:aF e=true:=by rfl) (cT:es.all aF=true:=by rfl):JE X cA aq aj F EX (.Call (.Name x p) (e::es) [] pos) (.mk c f Xs):=⟨PE.weak (zjG (n6:=[]) M Fo je hr hg.o hm hb .nil zgv ha.o (vg h).1 (bA he) (bD cT)) λZ H Q hh=>un hh λU J s hL hS h=>
 qy hL hS h λus H1 U1 ds s1 x1 hL1 aJ r1 h1 x dx hx hd hn=>by
  rw[zB];unfold Run TX at h1;by_cases hl:locs ds=[]
  ·simp only[if_pos hl] at h1;refine⟨x,dx,us,⟨U1.z,[]⟩,H1,ds,[],rfl,hx,hd,hn,rfl,zg9 hl r1 [],⟨rfl,(λn o a e=>by simp at e),Bl,(λa ha=>by cases ha),aJ.zt⟩,?_⟩;unfold Run;cases e:F f (.d .any::ds) [] with
   |none=>simp only[e] at h1
   |some r=>
    obtain⟨r,s2⟩:=r;simp only[e] at h1;cases r with
    |er c f=>exact h1.elim
    |ok r=>
     intro U' H' xt aR ts ws er rs kp hlen;subst er;have nx:¬U1.z x:=aJ.nz hx;have ne:∀a o,H1 a=some o->a≠x:=λa o q y=>by rw[y,hx] at q;cases q
     have xt2:Ext U1 H1 ⟨λa=>U'.z a/\a≠x,U1.l⟩ H':=by
      refine⟨⟨[],by simp,by simp⟩,λa z=>⟨xt.qx a z,λy=>nx (y▸z)⟩,λa z=>xt.kE a z.1,λa o q t _=>xt.frame a o q t Zaa,xt.stay⟩
     refine⟨rfl,h1 _ H' xt2 ⟨aJ.len,λn o a e1 e2=>(aJ.obj n o a e1 e2).map (λu t q=>xt.frame a u q t Zaa) λ_ _ r=>r.mono xt2 aJ.lz,aJ.uniq,λa ha=>⟨xt.qx a (aJ.lz a ha),λy=>nx (y▸aJ.lz a ha)⟩,λa z=>aR.zt a z.1⟩ _ (.d (.ob ⟨λz=>z.2 rfl,dx,kp.at_,hlen⟩ (rs.kO (U':=⟨λa=>U'.z a/\a≠x,U1.l⟩) λ_ z=>z.1)))⟩
  ·simp only[if_neg hl] at h1⟩
end
structure zc(X:Cx)(cA:Cl)(aq:Nat->Nat->Bool)(aj:Bool)(F:Fn)(EX:XS)(c:Nat)(body:List Stmt)(is:Es)(ns:List Str):Prop where
 o:pW X body λD Z H=>∃U0 H0 U J s x dx done vs ys,Ext U0 H0 U H/\aX X.K cA U H Z J/\aD X.K cA U H s/\H0 x=none/\Z[0]?=some (some (.ref x))/\fD U H x (.ins (cA.b c) dx (done.zip vs))/\aQ X.K cA U H ys vs/\done.length=vs.length/\done++ns=cA.g c/\done.length+ns.length<=900 /\
  Run X.K cA (M.bd (evs aq aj F is J) λzs=>cJ (ys++zs)) U0 H0 s (λes _ U' H'=>∀ws,aC X.K cA U' H' es ws->fD U' H' x (.ins (cA.b c) dx ((cA.g c).zip ws))->(cA.g c).length=ws.length->D.nx Z H') (eX X.K cA EX Z)
theorem zei{f:Str}{v:V}:∀{fs:List (Str×V)},f∉fs.map (·.1)->fO f v fs=fs++[(f,v)]
 |[],_=>rfl
 |(g,x)::r,h=>by
  unfold fO;rw[if_neg λe=>h (by simp[e]),zei λz=>h (iI _ z)];rfl
theorem aQ.out{K:W.Frag}{cA:Cl}{U:Ph}{H H':Hp}(x:cL U H H'):∀{ds:List Xv} {vs:List V},aQ K cA U H ds vs->aQ K cA U H' ds vs
 |_,_,.nil=>.nil
 |_,_,.cons h r=>.cons (h.out x) (aQ.out x r)
theorem aQ.app{K:W.Frag}{cA:Cl}{U:Ph}{H:Hp}:∀{ds es:List Xv} {vs us:List V},aQ K cA U H ds vs->aQ K cA U H es us->aQ K cA U H (ds++es) (vs++us)
 |_,_,_,_,.nil,s=>s
 |_,_,_,_,.cons h r,s=>.cons h (aQ.app r s)
theorem Run.er{K:W.Frag}{cA:Cl}{U:Ph}{H:Hp}{s:S}{α:Type}{m:M α}{P:α->S->Ph->Hp->Prop}{Ee:Nat->List D->S->Ph->Hp->Prop}(h:Run K cA m U H s P λ_ _ _ _ _=>False):Run K cA m U H s P Ee:=by
 unfold Run at *;split at h
 ·exact h
 ·exact λU' H' x r=>(h U' H' x r).elim
 ·exact h
section
variable {X:Cx}{cA:Cl}{aq:Nat->Nat->Bool}{aj:Bool}{F:Fn}{EX:XS}{c:Nat}{a:Expr}{A:E}{is:Es}{ns:List Str}{body:List Stmt}{f:Str}{pos p p2:Pos}
theorem zmI:zc X cA aq aj F EX c [] .nil []:=⟨λao s Z H D I hh=>Yo ao s Z H D I (by
 obtain⟨U0,H0,U,J,st,x,dx,done,vs,ys,xt,hL,hS,hx,h0,kp,rs,hl,hg,hz,h⟩:=hh;rw[zB] at hg;subst hg;have h2:Run X.K cA (M.bd (cJ ys) M.ret) U H st (λes _ U' H'=>∀ws,aC X.K cA U' H' es ws->fD U' H' x (.ins (cA.b c) dx ((cA.g c).zip ws))->(cA.g c).length=ws.length->D.nx Z H') (eX X.K cA EX Z):=by
  have h3:=h.ext xt;unfold Run at h3 ⊢;have e0:M.bd (evs aq aj F .nil J) (λzs=>cJ (ys++zs)) st=cJ ys st:=by show cJ (ys++[]) st=_;rw[zB]
  rw[e0] at h3;unfold M.bd;cases e1:cJ ys st with
  |none=>rw[e1] at h3;exact h3
  |some r=>
   obtain⟨r,s2⟩:=r;rw[e1] at h3;cases r with
   |er c f=>exact h3
   |ok ds=>exact h3
 obtain⟨ds,_,rs2,h4⟩:=T4 rs h2;exact h4.bH hS vs rs2 kp hl)⟩
theorem Pq{j:Nat}(ow:Ow X.K cA c)(ha:JE X cA aq aj F EX a A)(hr:zc X cA aq aj F EX c body is ns)(h0:(decide (X.N[0]?=some ("self" : Str))&&vR X.env.scope "self"&&okN "self")=true:=by kernel_rfl)
  (hs:swapsWith a (some (.Attribute (.Name "self" p) f p2)) pos.line X.env=pure false:=by rfl):zc X cA aq aj F EX c (.Assign [.Attribute (.Name "self" p) f p2] a pos::body) (.cons A is) (f::ns):=by
 rw[gG,gG] at h0;obtain⟨k,e,hv⟩:=VG h0.1.2;refine⟨λao s Z H D I hh=>Yp (zk4 (Yk (i:=0) (jU h0.1.1) (by cases k<;>first|exact .inl e|exact .inr (.inl e)|exact .inr (.inr e)|cases hv) (vg h0.2).1 (vg h0.2).2.1) ha.o hs) hr.o ao s Z H D I ?_⟩;obtain⟨U0,H0,U,J,st,x,dx,done,vs,ys,xt,hL,hS,hx,hx0,kp,rs,hl,hg,hz,h⟩:=hh;have h:Run X.K cA (M.bd (M.bd (ev aq aj F A J) λy=>M.bd (evs aq aj F is J) λzs=>M.ret (y::zs)) λzs=>cJ (ys++zs)) U0 H0 st _ _:=h;simp only[gW] at h;refine⟨U,J,st,hL,hS,(h.bd0 xt).imp λy s1 U1 H1 ⟨x1,aJ,h1⟩ v rv=>?_⟩;have Pu:=kp.mono x1;have nf:f∈cA.g c:=by rw[<-hg];simp
 have nd:f∉done:=λz=>by
  have:=ow.nd;rw[<-hg,Hu] at this;exact this.2.2 f z f Zaa rfl
 have hk:(done.zip vs).map (·.1)=done:=by rw[List.map_fst_zip];lia
 refine⟨.ref x,hx0,x,_,dx,_,rfl,Pu.at_,ow.cl,ow.nf f nf,?_,?_⟩
 ·have:(done.zip vs).length<=done.length:=by rw[List.length_zip];lia
  simp at hz
  lia
 rw[zei (by rw[hk];exact nd)];have ez:done.zip vs++[(f,v)]=(done++[f]).zip (vs++[v]):=by rw[List.zip_append hl];rfl
 rw[ez];have ox:cL U1 H1 (upd H1 x (.ins (cA.b c) dx ((done++[f]).zip (vs++[v])))):=Pu.ext.1;refine⟨U0,H0,U1,J,s1,x,dx,done++[f],vs++[v],ys++[y],Ext.keep (vs:=[]) (xt.trans x1) hx,(hL.mono x1 hS.lz).out ox,aJ.keep Pu,hx,hx0,Pu.ext.2,((rs.mono x1 hS.lz).app (.cons rv .nil)).out ox,by simp[hl],by rw[<-hg,M7];rfl,by simp at hz ⊢;lia,?_⟩;have h1:Run X.K cA (M.bd (evs aq aj F is J) λzs=>M.bd (M.ret (y::zs)) λzs=>cJ (ys++zs)) U0 H0 s1 _ _:=h1;have e2:(λzs=>cJ (ys++[y]++zs))=λzs=>M.bd (M.ret (y::zs)) λzs=>cJ (ys++zs):=by
  funext zs
  rw[M7];rfl
 rw[e2];exact h1
end
theorem zhM{K:W.Frag}{cA:Cl}{U:Ph}{H:Hp}{s:S}{α:Type}{m m':M α}{P:α->S->Ph->Hp->Prop}{Ee:Nat->List D->S->Ph->Hp->Prop}(e:m s=m' s)(h:Run K cA m U H s P Ee):Run K cA m' U H s P Ee:=by
 unfold Run at *;rw[<-e];exact h
theorem zgk{aq:Nat->Nat->Bool}{T:Nat->Option Df}{k n m p:Nat}{cm:Bool}{is:Es}{xs:List Xv}{s:S}(hT:T n=some ⟨m,p,.cons (.ret (.tup is)) .nil⟩)(hl:xs.length=p) :
  call aq T (k+1) cm n xs s=M.bd (M.bd (evs aq cm (call aq T k cm) is (xs.map some++List.replicate (m-p) none)) cJ) (λds=>M.ret (.d (.tup ds))) s:=by
 unfold call;simp only[hT,if_pos hl];show (match cP (ofM (M.bd (evs aq cm (call aq T k cm) is _) λvs=>M.bd (cJ vs) λds=>M.ret (.d (.tup ds))) _ λx s=>some (.rt x,s)) _ s with|some (.nx _,s')=>_|some (.rt v,s')=>_|some (.er c fs _,s')=>_|_=>none)=_;rw[gW];unfold cP ofM;cases e:M.bd (evs aq cm (call aq T k cm) is (xs.map some++List.replicate (m-p) none)) (λvs=>M.bd (cJ vs) λds=>M.ret (Xv.d (.tup ds))) s with
 |none=>rfl
 |some r=>
  obtain⟨r,s1⟩:=r;cases r<;>rfl
theorem zj2{P:Program}{w:World}{K:W.Frag}{mg:Str->Option Value}{base:Heap}{cA:Cl}{aq:Nat->Nat->Bool}{T:Nat->Option Df}{x qual:Str}{st:Stmt}{f:Addr}{fd:FuncData}{N ps:List Str}{k n c m p:Nat}{cm:Bool}{is:Es}(F:oW K x qual st f fd)(hT:T n=some ⟨m,p,.cons (.ret (.tup is)) .nil⟩)
  (hb:∀(cdv:Value) (A:Around) (outer:List Env) (s:Shared) (H:Hp) (E:XK),bB k (A.deeper (envOfC qual (au st) s.heap.objs.size f cdv))->
   zc (dH (fB P w) P w K mg base N qual (au st) f cdv A outer s H E cm) cA aq cm (call aq T k cm) (λ_ C dx H'=>E C dx H') c (aM st) is (cA.g c)) (hg:(cA.g c).length<=900) (S:bV N ps (au st):=by exact⟨rfl,rfl,rfl,dk,rfl,dk,dk⟩) (hp:p=ps.length:=by rfl) (hm:m=N.length:=by rfl) (h0:0<p:=by decide) :
  cB P w K mg base (fB P w) cm (k+1) f fd ps (Pn K cA c (call aq T (k+1) cm n)):=by
 obtain⟨oc,od,kV,doc,pm,an,cdv,ct,osl,rfl,lk,iK⟩:=F.ex;have hlen:∀{U:Ph} {H:Hp} {s:Mi.S} {xs:List Xv} {P:Xv->Mi.S->Ph->Hp->Prop},Run K cA (call aq T (k+1) cm n (.d .any::xs)) U H s P (λ_ _ _ _ _=>False)->xs.length+1=p:=λ{U H s xs P} h=>by
  unfold call at h;simp only[hT] at h;by_cases hl:(Xv.d D.any::xs).length=p
  ·simpa using hl
  ·rw[if_neg hl] at h;exact h.elim
 refine RQ lk iK S (λvs H Q E ⟨x,dx,us,U,H0,xs,s,e,_,_,_,_,r,_,h⟩=>?_) λA outer s H vs Q E hr ⟨x,dx,us,U,H0,xs,st',e,hx,hd,hn,eH,r,hS,h⟩=>⟨_,(hb cdv A outer s H E (hr.deeper _)).o,?_⟩
 ·have:=hlen h;rw[e,h_,<-r.len,<-hp]
  lia
 ·subst e eH;have hl:=hlen h;have xt:=Ext.made (U:=U) (C:=cA.b c) hx hd hn;refine⟨U,H0,U.mark x,(Xv.d .any::xs).map some++List.replicate (m-p) none,st',x,dx,[],[],[],xt,Ur (.cons (.d (.any x)) (r.mono xt hS.lz)) (by simp;lia) hm,hS.made hx hd hn,hx,rfl,⟨iJ,λz=>hS.nz hx (hS.lz x z),.inr rfl,trivial⟩,.nil,rfl,rfl,by simpa using hg,?_⟩;have h2:=(zhM (zgk hT (by simpa using hl)) h).bd0 Ext.refl;exact Run.er (Run.imp h2 λds s1 U1 H1 ⟨x1,aJ,h4⟩ ws rs kp hl=>h4 U1 H1 x1 aJ ds ws rfl rs kp hl)
section
variable {prog:Program}{w:World}{A:Around}{E:Value->Shared->Prop}{s:Shared}
theorem zdK{r:Addr}{n:Nat}{lo hi:Int}{t u v:Tok}{Q:List Value->Shared->Prop}(hh:A.handled=none)(hr:IsRange s.heap r lo hi 1 t u v)(hs:Builtin.Range.small lo hi 1=true)(hn:Builtin.Range.rangeSize lo hi 1=n)(hl:n<=65536)
  (q:∀(h':Heap) (tk:Nat) (acc:Array Value),(∀b o,s.heap.get? b=some o->h'.get? b=some o)->ItemsOf (λi v=>∃t,v=.int (lo+i*1) t) acc n->Q acc.toList {s with heap:=h',toks:=tk}):wpAny (model prog w) A (collect (.ref r)) Q E s:=by
 unfold collect;refine aB (wpAny_runValue (Hy F.entry_proto_collect ?_));rw[Ho F.plain_proto_collect _];refine aB (m:=newList []) (HB (aP ⟨HD F.plain_list_iadd _,Hy F.entry_list_iadd ?_⟩));rw[Ho F.plain_list_iadd _];have fin:∀{r':Result} {s':Shared},(∃h' tk acc c,r'=.ok (.ret (.ref s.heap.objs.size))/\s'={s with heap:=h',toks:=tk}/\h'.get? s.heap.objs.size=some (seqObj "list" acc c)/\(∀b o,s.heap.get? b=some o->h'.get? b=some o)/\ItemsOf (λi v=>∃t,v=.int (lo+i*1) t) acc n)->(match r' with
   |.ok (.ret v)=>wpAny (model prog w) A (match v with
    |.ref a=>do
     match (<-load a).data with
      |.seq xs _=>pure xs.toList
      |_=>unsupported "internal:collect"
    |_=>unsupported "internal:collect") Q E s'
   |.ok _=>False
   |.error e=>E e s'):=λ{r' s'} z=>by
  obtain⟨h',tk,acc,c,rfl,rfl,hS,kp,tO⟩:=z;exact aB (wpAny_load hS (aP (q h' tk acc kp tO)))
 refine fX (wpAny_extend_range (A:=A) (s:={s with heap:=s.heap.push (seqObj "list" #[] 0)}) (R:=λr' s'=>∃h' tk acc c,r'=.ok (.ret (.ref s.heap.objs.size))/\s'={s with heap:=h',toks:=tk}/\h'.get? s.heap.objs.size=some (seqObj "list" acc c)/\(∀b o,s.heap.get? b=some o->h'.get? b=some o)/\ItemsOf (λi v=>∃t,v=.int (lo+i*1) t) acc n)
  hh (cj _ hr) hs hn gV s.heap.objs.size (.ref s.heap.objs.size) 0 (eN _ rfl) λh' tk acc c kp hS tO=>⟨h',tk,acc,c,rfl,rfl,hS,λb o e=>kp b o (cU (bO e)) (cj _ e),tO⟩) (λf s' z=>?_) λe s' z=>?_
 ·cases f with
  |done f=>exact fin z
  |again c'=>exact⟨z.1,zF z.2 λr s'' hr=>fin hr⟩
 ·obtain⟨_,_,_,_,e,_⟩:=z;cases e
end
theorem ze6(r:Addr)(lo hi:Int)(t u v:Tok)(n:Nat)(hs:Builtin.Range.small lo hi 1=true)(hn:Builtin.Range.rangeSize lo hi 1=n)(hl:n<=65536):Meets (Builtin.«tuple.__new__» ⟨[.type "tuple",.ref r],[]⟩)
   (λA R s=>A.handled=none/\IsRange s.heap r lo hi 1 t u v/\∀(h':Heap) (tk:Nat) (acc:Array Value),(∀b o,s.heap.get? b=some o->h'.get? b=some o)->ItemsOf (λi v=>∃t,v=.int (lo+i*1) t) acc n->R (.ok (.ret (.ref h'.objs.size))) {s with heap:=h'.push {cls:=.type "tuple",data:=.seq acc},toks:=tk}):=
 .of_wp λprog w A R s h=>by
  obtain⟨hh,hr,h⟩:=h;have hsub:=sub_tuple_self;have hinit:=init_tuple_lookup;have hmh:=madeHere_tuple;have hT:s.TypeIs (.ref r) "range":=⟨_,hr,rfl⟩;have V0:A.in1.handled=none:=hh
  wp_walk using wpAny_typeOf hT,MF hr,zdK V0 hr hs hn hl
  intro h' tk acc hk tO;show wpAny _ _ (Builtin.Tuple.tupleExact acc.toList.toArray >>= λv=>ret v) _ _ _;unfold Builtin.Tuple.tupleExact;have e:acc.toList.toArray=acc:=by simp
  rw[e];exact aB (tU (aP ⟨_,rfl,h h' tk acc hk tO⟩) (show acc.size<=sizeLine by rw[tO.1];exact jW hl Tc))
section
variable {X:Cx}
theorem zce{ao:List (Addr×Obj)}{Z:L2.St}{H:Hp}{s:Shared}{Q:VK}{hi:Int}{t u v:Tok}{tk:Nat}(hc:X.aj=true)(I:Inv X ao Z H s)(hk:okR 0 hi=true)
  (q:∀l,H l=none->Q (.ref l) (upd H l (.tup (GF 0 (hi-0).toNat)))) :
  wpAny (model X.prog X.w) X.A (PySem.call (.type "tuple") [.ref s.heap.objs.size]) (EP X ao Z Q) X.xe {s with heap:=s.heap.push {cls:=.type "range",data:=.fields #[.int 0 t,.int hi u,.int 1 v]},toks:=tk}:=by
 obtain⟨h1,h2,h3,h4,h5⟩:=jU hk;have en:Builtin.Range.rangeSize 0 hi 1=((hi-0).toNat:Nat):=by rw[rangeSize_one];split<;>lia
 refine callType_new F.called_tuple Tc (F.typeCall_tuple_1 _) (F.newCall_tuple_1 _) (λobj=>F.args_object_init_2 obj _) F.entry_tuple_new (ze6 _ 0 hi t u v _ (small_one h1 h2 h3 h4) en h5) ⟨I.ok.hd hc,IsRange.new ..,λh' tk' acc kp ⟨z1,z2⟩=>?_⟩;have hv:Vals (GF 0 (hi-0).toNat) acc.toList:=by
  have:=ziN (i:=0) (acc:=acc) (n:=(hi-0).toNat) (m:=0) (λk v e=>by
   obtain⟨t,e⟩:=z2 k v (by simpa using e);exact⟨t,by rw[e,Br,Nat.zero_add]⟩) (by rw[pC];exact z1)
  simpa [GF] using this
 have hz:s.heap.objs.size<=h'.objs.size:=rW (bO (kp _ _ (eN s.heap rfl)));have I':=I.laid (a:=h'.objs.size) (o:=.tup (GF 0 (hi-0).toNat)) (h':=h'.push {cls:=.type "tuple",data:=.seq acc}) (t':=tk') (λb u q=>cj _ (kp b u (cj _ q))) hz (show bF X.prog X.w _ _ _ (.tup (GF 0 (hi-0).toNat)) from ⟨by
  rw[hv.length,pC,z1];exact jW h5 Tc,acc.toList,hv,⟨_,eN _ rfl,rfl,0,by simp⟩⟩)
 exact⟨⟨_,eN _ rfl,rfl⟩,.ref h'.objs.size,_,I',rfl,q _ (I.hok.fresh hz)⟩
def Lh(vs:List V)(H:Hp)(Q:VK):Prop:=∃j:Int,vs=[.int j]/\okR 0 j=true/\∀l,H l=none->Q (.ref l) (upd H l (.tup (GF 0 (j-0).toNat)))
theorem zlP{e:Expr}{t:TA}{p p' pos pos':Pos}(hc:X.aj=true)(hg:Gl X "tuple")(hm:X.mg "tuple"=none)(V1:Gl X "range")(Pa:X.mg "range"=none)(ha:PA X [e] t)(he:starEach [e] X.env=(false,eval e X.env)::starEach [] X.env:=by rfl) :
  PE X (.Call (.Name "tuple" p) [.Call (.Name "range" p') [e] [] pos'] [] pos) (RT Lh t):=by
 intro ao s Z H Q I h;refine Ba (wD I hg hm Oz ?_);refine Ax ?_ rfl rfl;show wpAny _ _ (spliced ((false,eval (.Call (.Name "range" p') [e] [] pos') X.env)::backTo pos (starEach [] X.env))) _ _ s;refine Calls.spliced_cons ?_;refine Ba (wD I V1 Pa boot_range ?_);refine Ax (aW (ha pos' ao s Z H _ I h) λus s1 ⟨vs,H1,I1,r1,q1⟩=>?_) he rfl;obtain⟨j,rfl,hk,q⟩:=q1;cases r1 with
 |cons r rr=>
  cases rr;obtain⟨t,rfl⟩:=r;exact call_range_1 (Calls.spliced_nil (zce hc I1 hk q))
theorem zmg{e:Expr}{te:TE}(h:PE X e te)(he:∀whole,isTrue e X.env whole=(do let v <-whole;standAt e.pos;holding [v] (truthy v))):PT X e (λZ H Q=>te Z H λx H1=>∃k,Cd X.K x H1 k/\Q k H1):=by
 intro ao s Z H Q I hw;exact isTrue_plain (aW (h ao s Z H _ I hw) λv s1 hx=>fu hx λx H1 I1 r1 q1=>zlk ao s1 Z H1 x v Q I1 r1 q1) (he _)
end
section
variable {K:W.Frag}{cA:Cl}{U:Ph}{H:Hp}
theorem zkS:bG K cA .Gd Lh:=by
 intro U H ds vs Q zt rs o;have o:bL K cA U H (CZ ds) Q:=o;unfold CZ at o;split at o
 ·rename_i j _;obtain⟨v,rfl,r1⟩:=rs.one;cases (show Rep K cA U H (.int j) v from r1);by_cases hk:okR 0 j=true
  ·rw[if_pos hk] at o;exact⟨j,rfl,hk,λl hl=>o.tup zt (zgj _) hl⟩
  ·rw[if_neg hk] at o;exact o.elim
 ·exact o.elim
end
section
variable {X:Cx}{cA:Cl}{aq:Nat->Nat->Bool}{aj:Bool}{F:Fn}{EX:XS}{a e:Expr}{A:E}{pos pos' p p':Pos}{Xs:Es}{fz:Bool}
theorem zn2(hc:X.aj=true)(hm:X.mg "tuple"=none)(hg:JK X "tuple" .globalImplicit)(Pa:X.mg "range"=none)(V1:JK X "range" .globalImplicit)(ha:JA X cA aq aj F EX [e] Xs)(he:aF e=true:=by rfl):JE X cA aq aj F EX (.Call (.Name "tuple" p) [.Call (.Name "range" p') [e] [] pos'] [] pos) (.pr fz .Gd Xs):=⟨PE.weak (zlP hc hg.o hm V1.o Pa ha.o (bA he)) λZ H Q hh=>un hh λU J s hL hS h=>
 qy hL hS h λvs H1 U1 ds s1 x1 hL1 aJ r1 h1=>by
  obtain⟨ds,rs,h3⟩:=wJ aJ r1 h1;exact zkS U1 H1 ds _ _ aJ.zs rs (uX aJ h3)⟩
theorem zmX(ha:JE X cA aq aj F EX a A)(he:Ae a=true:=by rfl):JT X cA aq aj F EX a (.Gf A):=⟨PT.weak (zmg ha.o (by cases a<;>first|(intro _;rfl)|cases he)) λZ H Q hh=>un (zfH hh) λU J s hL hS h=>by
 refine bw hL hS h λx H1 U1 d1 s1 x1 hL1 aJ r1 h1=>?_;obtain⟨dd,rv,h2⟩:=Ol aJ r1 h1;obtain⟨bb,e,h3⟩:=Run.m7 h2;obtain⟨c,ec,q⟩:=h3.bH aJ _ (.d (.bl bb));cases ec;exact⟨bb,zk3 rv e,q⟩⟩
end
def iC(h:Heap)(items:Array Value)(rows:List (List Int))(no:List Addr):Prop:=∀i v,items[i]?=some v->∃a xs,v=.ref a/\IsTup h a xs/\IntsAre xs.toList (rows.getD i [])/\a∉no
theorem iC.keep{h h':Heap}{items:Array Value}{rows:List (List Int)}{no:List Addr}(g:iC h items rows no)(k:∀b o,b∉no->h.get? b=some o->h'.get? b=some o):iC h' items rows no:=λi v e=>by
 obtain⟨a,xs,e1,⟨o,e2,r⟩,e3,e4⟩:=g i v e;exact⟨a,xs,e1,⟨o,k a o e4 e2,r⟩,e3,e4⟩
noncomputable abbrev wY(rows:List (List Int))(i j:Nat):Bool:=HT.lexLt (rows.getD i []) (rows.getD j [])
section
variable {prog:Program}{w:World}{A:Around}{R:Result->Shared->Prop}{I S l:Addr}{items:Array Value}{rows:List (List Int)}
theorem zjK{s:Shared}{i j:Nat}{u v:Value}{Q:Value->Shared->Prop}{E:Value->Shared->Prop}(hu:A.units<cLine)(g:iC s.heap items rows [I,S])(h1:items[i]?=some u)(h2:items[j]?=some v)(q:Q (.bool (wY rows i j)) s):wpAny (model prog w) A (richCompare .Lt u v) Q E s:=by
 obtain⟨a,xs,rfl,p1,i1,_⟩:=g i u h1;obtain⟨b,ys,rfl,p2,i2,_⟩:=g j v h2;exact HT.j9 p1 p2 i1 i2 hu q
theorem zfn(hh:A.handled=none)(hu:A.units+1<cLine)(hlI:l≠I)(hS:S∉[I,l]):∀(k j:Nat) (s:Shared) (vb:Value) (c:Nat),items.size-(j+1)=k->j+1<=items.size->(s.heap.IsListIter I l (j+1)/\s.heap.IsList l items)->items[argBest (wY rows) j]?=some vb->iC s.heap items rows [I,S]->
  s.heap.get? S=some (seqObj "list" #[vb,vb] c)->(∀v h' tk,items[argBest (wY rows) (items.size-1)]?=some v->(∀b o,b∉[I,S]->s.heap.get? b=some o->h'.get? b=some o)->R (.ok (.ret v)) {s with heap:=h',toks:=tk})->
  codeAny (model prog w) A (.builtin "min.loop" ⟨[.ref I,.none,.ref S],[]⟩) R s:=by
 have W:=Walks.list (prog:=prog) (w:=w) (A:=A.in1) hh I l hlI items;have nm:(toString "min"++toString ".loop" : String)="min.loop":=by decide
 have SI:S∉[I]:=λz=>hS (by simp at z;simp[z]);intro k
 induction k with
 |zero=>
  intro j s vb c e1 e2 st hb g oS q;refine Hy F.entry_min_loop ?_;rw[Ho Bh _];refine aB (m:=seqItems? (.ref S)) (rT oS rfl ?_);refine aB (m:=tryCatch (pyNext (.ref I)) _) (wpAny_tryCatch (W.done s _ _ ((show j+1=items.size by lia)▸st) λh' tk kp=>?_));refine aB (m:=updateSeq S λ_=>#[]) (wpAny_updateSeq (kp S _ SI oS) rfl (aB (zG (aP (q vb _ tk ?_ λb o hb e=>?_)))))
  ·rw[show items.size-1=j by lia];exact hb
  ·exact(xr _ _ (λz=>hb (by simp[z]))).trans (kp b o (λz=>hb (by simp at z;simp[z])) e)
 |succ k ih=>
  intro j s vb c e1 e2 st hb g oS q;refine Hy F.entry_min_loop ?_;rw[Ho Bh _];refine aB (m:=seqItems? (.ref S)) (rT oS rfl ?_);refine aB (m:=tryCatch (pyNext (.ref I)) _) (wpAny_tryCatch (W.item (j+1) s _ _ gV st λv h' tk hP st' kp=>?_));have V2:=kp S _ SI oS;have g':iC h' items rows [I,S]:=g.keep λb o hb e=>kp b o (λz=>hb (by simp at z;simp[z])) e;refine aB (m:=tryCatch (holding [v,v] (richCompare .Lt v vb >>= _)) _) (wpAny_tryCatch (pQ (aB (zjK (A:=A.in1) (s:={s with heap:=h',toks:=tk}) hu g' hP hb ?_))));refine aB (pQ (v8 (aB (zG (aP ?_)))));cases e3:wY rows (j+1) (argBest (wY rows) j) with
  |true=>
   simp only[if_true];refine aB (wpAny_updateSeq V2 rfl (aB (zG ?_)));rw[nm];have GR:∀b o,b≠S->h'.get? b=some o->(h'.update S (Obj.mapSeq λ_=>#[v,v])).get? b=some o:=λb o hb e=>(xr _ _ (Ne.symm hb)).trans e;refine aP ⟨HD Bh _,ih (j+1) _ v _ gV gV (W.frame _ _ _ st' λb hb o e=>GR b o (λz=>hS (by rw[<-z];exact hb)) e) (by simp only[argBest,e3,if_true];exact hP) (g'.keep λb o hb e=>GR b o (λz=>hb (by simp[z])) e) (A_ _ V2 rfl) λv' h2 tk2 Li Lj=>q v' h2 tk2 Li λb o hb e=>Lj b o hb (GR b o (λz=>hb (by simp[z])) (kp b o (λz=>hb (by simp at z;simp[z])) e))⟩
  |false=>
   simp only[rR,nO];refine aB (zG ?_);rw[nm];exact aP ⟨HD Bh _,ih (j+1) _ vb c gV gV st' (by simp only[argBest,e3,rR,nO];exact hb) g' V2 λv' h2 tk2 Li Lj=>q v' h2 tk2 Li λb o hb e=>Lj b o hb (kp b o (λz=>hb (by simp at z;simp[z])) e)⟩
theorem zfb{s:Shared}{E:Value->Shared->Prop}{Q:Value->Shared->Prop}(hh:A.handled=none)(hu:A.units+2<cLine)(hl:s.heap.IsList l items)(h0:0<items.size)(g:iC s.heap items rows [])
  (q:∀v h' tk,items[argBest (wY rows) (items.size-1)]?=some v->(∀b o,s.heap.get? b=some o->h'.get? b=some o)->Q v {s with heap:=h',toks:=tk}):wpAny (model prog w) A (PySem.call (.builtin "min") [.ref l]) Q E s:=by
 have nm:(toString "min"++toString ".loop" : String)="min.loop":=by decide
 have cH:l<s.heap.objs.size:=by obtain⟨o,e,_⟩:=hl;exact bO e
 refine call_function_tree F.kind_min F.plain_min F.entry_min (F.args_min1 _) ?_;refine aB (m:=Builtin.Builtins.bindParams "min" ["key","default"] 0 ⟨[],[]⟩) (Fp (show Builtin.Builtins.bindParams "min" ["key","default"] 0 ⟨[],[]⟩=pure [none,none] from rfl) (aB (aP ?_)));refine aB (M6 hl (aB (tU ?_)));rw[nm];have n1:(s.heap.push {cls:=.type "list_iterator",data:=.fields #[.ref l,.int 0 0]}).objs.size=s.heap.objs.size+1:=wj ..;refine aP ⟨HD Bh _,?_⟩;refine Hy F.entry_min_loop ?_;rw[Ho Bh _];have W:=Walks.list (prog:=prog) (w:=w) (A:=A.in1) hh s.heap.objs.size l (cU cH) items;have oS:((s.heap.push {cls:=.type "list_iterator",data:=.fields #[.ref l,.int 0 0]}).push (seqObj "list" #[] 0)).get? (s.heap.objs.size+1)=some (seqObj "list" #[] 0):=by rw[<-n1];exact eN _ rfl
 have k0:∀b o,s.heap.get? b=some o->((s.heap.push {cls:=.type "list_iterator",data:=.fields #[.ref l,.int 0 0]}).push (seqObj "list" #[] 0)).get? b=some o:=λb o e=>cj _ (cj _ e);rw[n1];refine aB (m:=seqItems? (.ref (s.heap.objs.size+1))) (rT oS rfl ?_);refine aB (m:=tryCatch (pyNext (.ref s.heap.objs.size)) _) (wpAny_tryCatch (W.item 0 _ _ _ h0 ⟨⟨_,cj _ (eN _ rfl),rfl,rfl⟩,hl.at λo e=>k0 l o e⟩ λv h' tk hP st' kp=>?_));have ne1:s.heap.objs.size+1∉[s.heap.objs.size]:=by simp
 refine aB (m:=updateSeq (s.heap.objs.size+1) λ_=>#[v,v]) (wpAny_updateSeq (kp _ _ ne1 oS) rfl ?_);rw[nm];have GR:∀b o,b≠s.heap.objs.size+1->h'.get? b=some o->(h'.update (s.heap.objs.size+1) (Obj.mapSeq λ_=>#[v,v])).get? b=some o:=λb o hb e=>(xr _ _ (Ne.symm hb)).trans e;have Ln:∀b o,s.heap.get? b=some o->(h'.update (s.heap.objs.size+1) (Obj.mapSeq λ_=>#[v,v])).get? b=some o:=λb o e=>GR b o (cU (tV (bO e))) (kp b o (by simpa using cU (bO e)) (k0 b o e));have out:∀b o,s.heap.get? b=some o->b∉[s.heap.objs.size,s.heap.objs.size+1]:=λb o e z=>by
  rcases jA.mp z with z|z
  ·exact absurd z (cU (bO e))
  ·exact absurd (Bb.mp z) (cU (tV (bO e)))
 refine aP ⟨HD Bh _,zfn (A:=A) (rows:=rows) hh gV (cU cH) (λz=>by
  rcases jA.mp z with z|z
  ·exact absurd z (Nat.succ_ne_self _)
  ·exact absurd (Bb.mp z) (pR (tV cH))) _ 0 _ v _ rfl h0 (W.frame _ _ _ st' λb hb o e=>GR b o (λz=>by
  rcases jA.mp hb with y|y
  ·exact absurd (z.symm.trans y) (Nat.succ_ne_self _)
  ·exact absurd (z.symm.trans (Bb.mp y)) (pR (tV cH))) e) hP ?_ (A_ _ (kp _ _ ne1 oS) rfl) λv' h2 tk2 Li Lj=>q v' h2 tk2 Li λb o e=>Lj b o (out b o e) (Ln b o e)⟩
 intro i u e;obtain⟨a,xs,e1,⟨o,e2,r⟩,e3,_⟩:=g i u e;exact⟨a,xs,e1,⟨o,Ln a o e2,r⟩,e3,out a o e2⟩
end
theorem zeL{x:List Int}{rs:List (List Int)}:∀k,k<=rs.length->(x::rs).getD (argBest (wY (x::rs)) k) []=gb x (rs.take k)
 |0,_=>rfl
 |k+1,hk=>by
  have ih:=zeL (x:=x) (rs:=rs) k gV;have app:∀(a b:List (List Int)) (y:List Int),gb y (a++b)=gb (gb y a) b:=λa=>by
   induction a with
   |nil=>intro b y;rfl
   |cons z a ih=>intro b y;exact ih b _
  have ht:rs.take (k+1)=rs.take k++[rs[k]' gV]:=List.take_succ_eq_append_getElem gV;have hv:(x::rs).getD (k+1) []=rs[k]' gV:=by
   rw[jM,En,cZ gV];rfl
  rw[ht,app,<-ih];show _=(if ltI (rs[k]' gV) _=true then _ else _);rw[argBest.eq_2,T_];unfold wY;rw[hv]
  split
  ·exact hv
  ·rfl
theorem zck{K:W.Frag}{cA:Cl}{U:Ph}{H:Hp}:∀{xs:List D} {rs:List (List Int)} {vs:List V},j_ xs=some rs->aC K cA U H xs vs->rs.length=vs.length/\∀(i:Nat) v,vs[i]?=some v->∃a,v=.ref a/\TupAt K U H a ((rs.getD i []).map .int)
 |[],rs,vs,h,r=>by cases h;cases r;exact⟨rfl,λi v e=>by simp at e⟩
 |d::xs,rs,vs,h,r=>by
  cases r with
  |cons q r=>cases q with
   |@tup a ys us t ts=>
    unfold j_ at h;cases e1:cC ys with
    |none=>simp only[e1] at h;cases h
    |some is=>cases e2:j_ xs with
     |none=>simp only[e1,e2] at h;cases h
     |some rr=>
      simp only[e1,e2] at h;cases h;obtain⟨l,k⟩:=zck e2 r;refine⟨by simp[l],λi v e=>?_⟩;cases i with
      |zero=>
       simp at e;subst e;refine⟨a,rfl,?_⟩;show TupAt K U H a (is.map V.int);rw[<-show _=is.map V.int from Oq e1 ts];exact t
      |succ i=>exact k i v (by simpa using e)
   |_=>cases h
section
variable {X:Cx}{cA:Cl}{aq:Nat->Nat->Bool}{aj:Bool}{F:Fn}{EX:XS}{e:Expr}{pos p:Pos}{es:List Expr}{Xs:Es}{fz:Bool}
def vW(K:W.Frag)(vs:List V)(H:Hp)(Q:VK):Prop:=∃(l:Addr) (x:List Int) (rs:List (List Int)) (us:List V),vs=[.ref l]/\cV K H l us/\(x::rs).length=us.length/\(∀(i:Nat) v,us[i]?=some v->∃a,v=.ref a/\gR K H a (((x::rs).getD i []).map V.int))/\∀(i:Nat) a,us[i]?=some (.ref a)->(x::rs).getD i []=gb x rs->Q (.ref a) H
theorem zfE:∀{is:List Int} {us:List Value},Vals (is.map V.int) us->IntsAre us is
 |[],_,.nil=>.nil
 |_::is,_,.cons ⟨t,e⟩ r=>by subst e;exact .cons _ t (zfE r)
theorem zf0(hc:X.aj=true)(hu:X.A.units+2<cLine):cW X (.builtin "min") (vW X.K):=by
 intro ao s Z H xs us Q I r ⟨l,x,rs,ws,e,hl,hlen,Lp,q⟩;subst e;obtain⟨u,rfl,ru⟩:=Vals.one r;cases (show u=Value.ref l from ru);obtain⟨its,rv,pl,hz⟩:=I.list hl;have hL:=rv.length;have hsz:its.toArray.size=rs.length+1:=by rw[fW,<-hL,<-hlen];rfl
 refine zfb (rows:=x::rs) (I.ok.hd hc) hu pl.isList gV (λi v e=>?_) λv h' tk hP hk=>?_
 ·have hi:its[i]?=some v:=by simpa using e
  have cH:i<ws.length:=by rw[hL];exact(dW.mp hi).1
  obtain⟨a,ea,ht⟩:=Lp i _ (cZ cH);obtain⟨v',e1,e2⟩:=rv.get (cZ cH);rw[hi] at e1;cases e1;rw[ea] at e2;cases (show v=Value.ref a from e2);obtain⟨xs,rx,p,_⟩:=I.tuple ht;exact⟨a,_,rfl,p,by simpa using zfE rx,by simp⟩
 ·rw[hsz,Nat.add_sub_cancel] at hP;have hi:its[argBest (wY (x::rs)) rs.length]?=some v:=by simpa using hP
  have cH:argBest (wY (x::rs)) rs.length<ws.length:=by rw[hL];exact(dW.mp hi).1
  obtain⟨a,ea,ht⟩:=Lp _ _ (cZ cH);obtain⟨v',e1,e2⟩:=rv.get (cZ cH);rw[hi] at e1;cases e1;rw[ea] at e2;cases (show v=Value.ref a from e2);exact⟨.ref a,H,I.kept (h':=h') (t':=tk) hk,rfl,q _ a ((cZ cH).trans (by rw[ea])) (by rw[zeL rs.length (bQ _),Fe])⟩
theorem zjt{K:W.Frag}:bG K cA .sI (vW K):=by
 intro U H ds vs Q zt rs o;have o:bL K cA U H (oM ds) Q:=o;unfold oM at o;split at o
 ·rename_i xs _;obtain⟨v,rfl,rv⟩:=rs.one;obtain⟨a,us,rfl,sq,q⟩ : ∃a us,v=.ref a/\cV K H a us/\aC K cA U H xs us:=rv;split at o
  ·rename_i x r e;obtain⟨l,k⟩:=zck e q;refine⟨a,x,r,us,rfl,sq,l,λi v ei=>?_,λi b ei hb=>?_⟩
   ·obtain⟨c,e1,e2⟩:=k i v ei;exact⟨c,e1,e2.jH⟩
   ·obtain⟨c,e1,e2⟩:=k i _ ei;cases e1;rw[hb] at e2;have rr:∀is:List Int,aC K cA U H (is.map D.int) (is.map V.int):=λis=>by
     induction is with
     |nil=>exact .nil
     |cons j is ih=>exact .cons (.int j) ih
    exact o.here (.tup e2 (rr _))
  ·exact o.elim
 ·exact o.elim
theorem zk1{k:Nat}(hr:bB k X.A)(hc:X.aj=true)(hm:X.mg "min"=none)(hg:JK X "min" .globalImplicit)(ha:JA X cA aq aj F EX (e::es) Xs)(he:aF e=true:=by rfl)(cT:es.all aF=true:=by rfl):JE X cA aq aj F EX (.Call (.Name "min" p) (e::es) [] pos) (.pr fz .sI Xs):=⟨Ab (zf0 hc (by have:=hr.un;lia)) zjt hg.o hm PyProof.Rows.boot_min ha.o Tc Tc (bA he) (bD cT)⟩
end
end Mi
namespace Mi
open PySem PySem.Spec PyProof.Rows L2 PySem.W
end Mi
namespace PySem
open Builtin
end PySem
namespace Mi
open PySem PySem.Spec PyProof.Rows L2 PySem.W
noncomputable def iD(K:Frag)(C:Addr)(m:Str):Addr:=match lK K C m with
 |some p=>p.1
 |none=>0
noncomputable def jL(K:Frag)(C:Addr)(m:Str)(st:Stmt):FuncData:=match lK K C m with
 |some p=>p.2
 |none=>Fx m m st
theorem ziU{fd:FuncData}{m q:Str}{st:Stmt}(h:nQ fd=Fx m q st):fd=fnOf m q (aY st) (aM st) (au st) .none fd.kwdefaults fd.doc fd.pyModule fd.annotations fd.code fd.closureTuple:=by
 cases fd;unfold nQ Fx at h;cases h;rfl
theorem zn7{K:Frag}{C:Addr}{m q:Str}{st:Stmt}(h:(lK K C m).map (λp=>nQ p.2)=some (Fx m q st)):oW K m q st (iD K C m) (jL K C m st)/\Meth K C m (iD K C m):=by
 cases e:lK K C m with
 |none=>rw[e] at h;cases h
 |some p=>
  rw[e] at h;have hp:nQ p.2=Fx m q st:=cI h;have h1:iD K C m=p.1:=by unfold iD;rw[e]
  have h2:jL K C m st=p.2:=by unfold jL;rw[e]
  rw[h1,h2];unfold lK at e;split at e
  ·rename_i f hf;split at e
   ·rename_i oc od fd sl hl;split at e
    ·rename_i hc;cases e;simp only[gG] at hc;have eq:fd=_:=ziU hp;have qn:fd.qualname=q:=by rw[eq]
     exact⟨⟨⟨oc,od,_,_,_,_,_,_,sl,eq,hl,by rw[<-qn];exact hc.1.1⟩,hc.1.2⟩,hf,hc.2,hc.1.2⟩
    ·cases e
   ·cases e
  ·cases e
structure rO(fs:List (Str×Stmt))(ms:List ur)(xs:List (Nat×Str))(l:Lk)(b:Bd)(K:Frag):Prop where
 i:oZ fs ms xs l K
 m:∀p∈b.ms,oW K p.1 p.2.1 p.2.2 (iD K (dX K b.n) p.1) (jL K (dX K b.n) p.1 p.2.2)/\Meth K (dX K b.n) p.1 (iD K (dX K b.n) p.1)
 b:zL K b=true
section
variable {K:Frag}{b:Bd}
theorem zm4{cA:Cl}(h:zL K b=true)(hb:cA.b 0=dX K b.n)(hg:cA.g 0=b.fs)(nd:b.fs.Nodup):Ow K cA 0:=by
 unfold zL at h;simp only[gG,nM,jo] at h;obtain⟨⟨⟨⟨⟨⟨⟨h1,h2⟩,h3⟩,h4⟩,h5⟩,h6⟩,h7⟩,h8⟩:=h;exact⟨by rw[hb];exact⟨h2,h3,h4,h5⟩,λf hf=>by rw[hb];rw[hg] at hf;exact h8 f hf,by rw[hg];exact nd⟩
theorem znH{f:Addr}(h:zL K b=true)(m:Meth K (dX K b.n) "__init__" f):Mk K (dX K b.n) f:=by
 unfold zL at h;simp only[gG,nM,jo] at h;exact⟨h.1.1.2,m.at_,m.fn,h.1.2⟩
theorem znA{h:Heap}{mg:Str->Option Value}(z:zL K b=true)(X:K.In h)(G:h.Ns mainGlobals mg):mg b.n=some (.ref (dX K b.n)):=by
 unfold zL at z;simp only[gG] at z;exact znf z.1.1.1.1.1.1.1 X G
end
theorem bB.made{k:Nat}{A:Around}(r:bB (k+1) A)(env:Env)(C:Addr)(us:List Value):bB k ((A.deeper env).under (.builtin "type.__call__" ⟨.ref C::us,[]⟩)):=
 ⟨by have:=r.dp;rw[zfl];show A.depth+1+1+3*k+5<_;lia,by have:=r.un;rw[zeZ];show A.units+3+1+16*k+200<_;lia,by
  have e:(A.deeper env).guards=some []:=r.gd;rw[<-e];cases h:(A.deeper env).guards<;>simp[Around.under,pushGuards,Code.guards,Code.isGuard,guardIds,h]⟩
section
variable {P:Program}{w:World}{K:Frag}{mg:Str->Option Value}{base:Heap}{cA:Cl}{aq:Nat->Nat->Bool}{T:Nat->Option Df}{x m q:Str}{st:Stmt}{ps:List Str}{k n:Nat}{cm:Bool}{df:Df}{C fa:Addr}{fd:FuncData}
theorem fM(D:Mt K C m q st ps fa fd)(N:List Str)(hT:T n=some df)
  (hb:∀(cdv:Value) (A:Around) (outer:List Env) (s:Shared) (H:Hp) (E:XK),bB k (A.deeper (envOfC q (au st) s.heap.objs.size fa cdv))->
   JB (dH (fB P w) P w K mg base N q (au st) fa cdv A outer s H E cm) cA aq cm (λc=>call aq T k c) (λ_ C dx H'=>E C dx H') (aM st) df.body) (S:bV N ps (au st):=by exact⟨rfl,rfl,rfl,dk,rfl,dk,dk⟩) (hp:df.iB=ps.length:=by rfl) (hm:df.many=N.length:=by rfl) :
  cB P w K mg base (fB P w) cm (k+1) fa fd ps (lG K cA (call aq T (k+1) cm n)):=zia D.fn S hT hp hm hb
theorem zhr{c:Nat}:cB P w K mg base (fB P w) cm 0 fa fd ps (Pn K cA c (call aq T 0 cm n)):=
 ⟨λvs H Q E ⟨_,_,_,_,_,_,_,_,_,_,_,_,_,_,h⟩=>h.elim,λA outer s H args us vs Q E _ _ _ _ _ ⟨_,_,_,_,_,_,_,_,_,_,_,_,_,_,h⟩=>h.elim⟩
theorem fR(D:D3 K mg x st ps)(N:List Str)(hT:T n=some df)
  (hb:∀(cdv:Value) (A:Around) (outer:List Env) (s:Shared) (H:Hp) (E:XK),bB (k+1) A->
   JB (dH (fB P w) P w K mg base N x (au st) (fQ K x) cdv A outer s H E cm) cA aq cm (λc=>call aq T k c) (λ_ C dx H'=>E C dx H') (aM st) df.body) (S:bV N ps (au st):=by exact⟨rfl,rfl,rfl,dk,rfl,dk,dk⟩) (hp:df.iB=ps.length:=by rfl) (hm:df.many=N.length:=by rfl) :
  cB P w K mg base (fB P w) cm (k+1) (fQ K x) (fdOf K x st) ps (lG K cA (call aq T (k+1) cm n)):=zh8 D.f S hT hp hm λcdv A outer s H E hr=>(hb cdv A outer s H E hr).o
theorem V3{p p2:Str}(h:oW K m q st fa fd/\Meth K C m fa)(hb:∀(kV doc pm:Value) (an:Option Addr) (cdv ct a b:Value),bindArgs (fnOf m q (aY st) (aM st) (au st) .none kV doc pm an cdv ct) ⟨[a,b],[]⟩=pure [(p,a),(p2,b)]:=by intros;rfl):Mt K C m q st [p,p2] fa fd:=⟨h.1,h.2,by
 obtain⟨oc,od,kV,doc,pm,an,cdv,ct,osl,rfl,lk,iK⟩:=h.1.ex;exact vm (hb kV doc pm an cdv ct)⟩
theorem zom{p p2 p3:Str}(h:oW K m q st fa fd/\Meth K C m fa)(hb:∀(kV doc pm:Value) (an:Option Addr) (cdv ct a b c:Value),bindArgs (fnOf m q (aY st) (aM st) (au st) .none kV doc pm an cdv ct) ⟨[a,b,c],[]⟩=pure [(p,a),(p2,b),(p3,c)]:=by intros;rfl):Mt K C m q st [p,p2,p3] fa fd:=⟨h.1,h.2,by
 obtain⟨oc,od,kV,doc,pm,an,cdv,ct,osl,rfl,lk,iK⟩:=h.1.ex;exact vo (hb kV doc pm an cdv ct)⟩
theorem zon{p p2 p3 p4:Str}(h:oW K m q st fa fd/\Meth K C m fa)(hb:∀(kV doc pm:Value) (an:Option Addr) (cdv ct a b c d:Value),bindArgs (fnOf m q (aY st) (aM st) (au st) .none kV doc pm an cdv ct) ⟨[a,b,c,d],[]⟩=pure [(p,a),(p2,b),(p3,c),(p4,d)]:=by intros;rfl):Mt K C m q st [p,p2,p3,p4] fa fd:=⟨h.1,h.2,by
 obtain⟨oc,od,kV,doc,pm,an,cdv,ct,osl,rfl,lk,iK⟩:=h.1.ex;exact vp (hb kV doc pm an cdv ct)⟩
end
noncomputable def jk(fs:List (Str×Stmt))(ms:List ur)(xs:List (Nat×Str))(l:Lk)(b:Bd):Hook where
 α:=((List (Option FuncData)×List (Option FuncData)×Bool)×(List (Option FuncData)×Bool))×Bool
 obs:=λs=>((jX fs ms xs l s,xO b s),nR s)
 val:=λw=>((lC fs ms w,xP b),true)
 says:=λ_ h=>∃K:Frag,K.In h/\rO fs ms xs l b K/\kZ K h
 of:=λw s e=>by
  have e9:(jX fs ms xs l s,xO b s)=(lC fs ms w,xP b):=lB Prod.fst e;have el:nR s=true:=lB Prod.snd e;have e0:jX fs ms xs l s=lC fs ms w:=lB Prod.fst e9;have e4:xO b s=xP b:=lB Prod.snd e9;have e3:(_&&_&&_)=true:=lB (λx=>x.2.2) e0;rw[gG,gG,jo,jo] at e3;refine⟨bR s.heap,zhF,⟨⟨λp hp=>?_,Kab e3.1.1,λm hm=>?_,e3.1.2,λx hx=>znS (e3.2 x hx)⟩,λp hp=>?_,lB Prod.snd e4⟩,zj3 el⟩
  ·exact znk (QX.mp (lB Prod.fst e0) p hp)
  ·exact znt (QX.mp (lB (λx=>x.2.1) e0) m hm)
  ·exact zn7 (QX.mp (lB Prod.fst e4) p hp)
 keeps:=λw h h' ⟨K,X,Y,Ub⟩ k=>⟨K,X.keeps k,Y,Ub.keeps k⟩
theorem DX{l:OpenLaw}{k:Nat}{q:Program}{loose:List Str}{XP:(Str->Option Value)->Heap->Prop}{fs:List (Str×Stmt)}{ms:List ur}{xs:List (Nat×Str)}{lk:Lk}{b:Bd}{d:DefRec}{x:Str}(hn:l.most=some 63)(R_:d.params.defaults=[])(hr:bB k callerA)
  (F:∀(w:World) (K:Frag) (mg:Str->Option Value) (fa:Addr) (h:Heap),rO fs ms xs lk b K->kZ K h->K.In h->h.Ns mainGlobals mg->mg d.name=some (.ref fa)->
   ∃fd:FuncData,(∀(s:Shared) (u:Value),BindsTo s fd ⟨[u],[]⟩ [(x,u)])/\∀base:Heap,K.In base->base.Ns mainGlobals mg->cB l.prog w K mg base (fB l.prog w) true k fa fd [x] (vh K)) :
  WalkO q loose XP (jk fs ms xs lk b).says l.row.toRowW d [] (λf vs=>PySem.call f vs):=by
 refine YZ.ou hn R_ λw s₀ s₁ mg mb fa o pm cd doc a vs ns G Y ho hd iK hmg Cq hints hlen hg=>?_;obtain⟨K,KX,SY,LH⟩:=Y;obtain⟨fd,hb,hF⟩:=F w K mg fa _ SY LH KX G.T.g hmg;exact zf9 KX G.T.g G.T.b G.T.builtins G.T.nolimit hg Cq hints (jW hlen Tc) hr hF hb (λH hS=>⟨a,ns,rfl,hS,hlen,trivial,λ_=>rfl⟩) (λH e s' h=>by
  obtain⟨_,_,_,_,_,_,_,_,_,_,z⟩:=h;exact z) LH
end Mi
namespace Mi
open PySem
end Mi
namespace Mi
open PySem Ts
theorem znX{ps:List (Int×Int)}(h:ps.Pairwise λa b=>tM a b=true):ps.Pairwise lx:=h.imp λ{a b} e=>vQ.mp e
theorem zdu{α:Type}{q:α->Bool}:∀l:List α,l.length=(l.filter q).length+(l.filter λx=>!q x).length
 |[]=>rfl
 |x::l=>by
  have:=zdu (q:=q) l;simp only[List.filter_cons];cases q x<;>simp<;>lia
theorem zl0{ps:List (Int×Int)}{n:Int}(h1:1<=n)(h8:n<=8)(ht:∀p∈ps,0<=p.1/\p.1<p.2/\p.2<n)(hi:ps.Pairwise lx):(ps.length:Int)<=7*n:=by
 have key:∀m:Nat,∀qs:List (Int×Int),(∀p∈qs,0<=p.1/\p.1<(m:Int)/\p.1<p.2/\p.2<n)->qs.Nodup->(qs.length:Int)<=7*m:=by
  intro m
  induction m with
  |zero=>
   intro qs hq _;cases qs with
   |nil=>simp
   |cons p r=>have:=hq p Zaa;lia
  |succ m ih=>
   intro qs hq nd;have h1:=ih (qs.filter λp=>decide (p.1<(m:Int))) (λp hp=>by
    obtain⟨a,b⟩:=pO.mp hp;have:=hq p a;have:=jU b
    lia) (nd.filter _)
   have h2:(qs.filter λp=>!decide (p.1<(m:Int))).length<=(([1,2,3,4,5,6,7]:List Int).map λx=>((m:Int),x)).length:=Vw (nd.filter _) (λp hp=>by
    obtain⟨a,b⟩:=pO.mp hp;have:=hq p a;have b:¬p.1<(m:Int):=by simpa using b
    obtain⟨p1,p2⟩:=p;dsimp only at *;have e:p1=(m:Int):=by lia
    subst e;refine nJ.mpr ⟨p2,?_,rfl⟩;have:p2=1\/p2=2\/p2=3\/p2=4\/p2=5\/p2=6\/p2=7:=by lia
    simpa using this)
   have h3:=zdu (q:=λp=>decide (p.1<(m:Int))) qs;simp only[cR,h_,Bk] at h2
   lia
 have:=key n.toNat ps (λp hp=>by have:=ht p hp;lia) (zhe hi)
 lia
end Mi
namespace Mi
open PySem
end Mi
namespace Mi
open PySem PySem.W L2
theorem Lq{a b:Int×Int}:oJ [.int a.1,.int a.2] [.int b.1,.int b.2]=some (tM a b):=by
 unfold tM;simp only[oJ];by_cases h1:a.1=b.1
 ·rw[if_pos h1];by_cases h2:a.2=b.2
  ·rw[if_pos h2]
   congr 1
   simp only[Bk,pD,decide_false]
   symm
   rw[QF]
   lia
  ·rw[if_neg h2]
   congr 1
   rw[v9]
   lia
 ·rw[if_neg h1]
  congr 1
  rw[v9]
  lia
theorem zkb{us:List (Int×Int)}:wI (us.map dG)=K9 us:=by
 funext i j
 unfold wI K9;rw[gM,gM];cases us[i]? with
 |none=>rfl
 |some a=>
  cases us[j]? with
  |none=>rfl
  |some b=>exact Lq
theorem zjn{ps:List (Int×Int)}(hl:ps.length<64)(nd:ps.Nodup):∃qs:List (Int×Int),uR (ps.map dG)=some (qs.map dG)/\qs.Pairwise lx/\(∀x,x∈qs↔x∈ps)/\qs.length=ps.length:=by
 have hk:((ps.map dG).all jf||(ps.map dG).all iw)=true:=by
  rw[Nb]
  right
  rw[HF,jo];intro p _;rfl
 unfold uR;rw[if_pos hk];unfold iR;rw[cR,zkb];by_cases h2:ps.length<2
 ·rw[if_pos h2];refine⟨ps,rfl,?_,λ_=>Iff.rfl,rfl⟩;cases ps with
  |nil=>exact .nil
  |cons x t=>
   cases t with
   |nil=>exact List.pairwise_singleton ..
   |cons y t=>exact absurd h2 Zaa
 ·rw[if_neg h2,if_pos hl];obtain⟨p,e,e1,e2,e3,e4⟩:=zgc (us:=ps) gV nd;rw[e];dsimp only;rw[if_pos e1];refine⟨p.toList.map λi=>ps.getD i (0,1),?_,znX e4,e3,by rw[cR,pC,e1]⟩;rw[xG]
  congr 1
  refine List.map_congr_left λi hi=>?_;have:=e2 i hi;simp[jM,this]
noncomputable def rP(k d:Int)(ps:List (Int×Int))(hs:List Int):List (Int×Int):=ps.filter λp=>decide (kW k (at' hs p.1) (at' hs p.2)<d)
noncomputable def GX(k d:Int)(ps:List (Int×Int))(hs:List Int):D:=match rP k d ps hs with
 |[]=>.non
 |p::_=>dG p
theorem DY{k d:Int}{ps:List (Int×Int)}{hs:List Int}:rP k d ps hs=[]↔DK k d ps hs=true:=by
 unfold rP;rw[List.filter_eq_nil_iff,o8]
 constructor
 ·intro h p hp;have:=h p hp;simp at this
  lia
 ·intro h p hp;have:=h p hp;simp
  lia
end Mi
namespace Mi
open PySem
theorem W.c0{F:List Xv->M Xv}{xs:List Xv}{s:S}{e:D}{P:Xv->S->Prop}(h:W (F (dN 0 xs)) [] λv _=>v=.d e)(k:P (.d e) s)(hl:locs xs=[]:=by rfl):W (cO F xs) s P:=jQ hl (h.imp λ_ _ q=>⟨_,q,k⟩)
theorem W.c1{F:List Xv->M Xv}{xs:List Xv}{s:S}{P:Xv->S->Prop}(h:W (F (dN 0 xs)) [] λv _=>∃d,v=.d d)(k:∀d,P (.d d) s)(hl:locs xs=[]:=by rfl):W (cO F xs) s P:=jQ hl (h.imp λ_ _ ⟨d,q⟩=>⟨d,q,k d⟩)
section
variable {s:S}{o o' L L':SO}
theorem g1_:(s++[o]++[L])[s.length]?=some o:=by simp
theorem znr:(s++[o]++[L]).set s.length o'=s++[o']++[L]:=by simp
theorem Kar{F:List Xv->M Xv}{xs:List Xv}{P:Xv->S->Prop}(hl:locs xs=[s.length])(h:W (F (dN 0 xs)) [o] λv s1=>∃d o',v=.d d/\s1=[o']/\P (.d d) (s++[o']++[L])):W (cO F xs) (s++[o]++[L]) P:=by
 refine KR (n:=s.length) (o:=o) hl g1_ (h.imp λv s1=>?_);rintro⟨d,o',rfl,rfl,hp⟩;exact⟨d,o',rfl,rfl,by rw[znr];exact hp⟩
end
structure TW(m:Int)(l:List (Int×Int)):Prop where
 lo:2<=m
 hi:m<=7
 tie:∀p∈l,0<=p.1/\p.1<p.2/\p.2<m
 nd:l.Nodup
theorem TW.len{m:Int}{l:List (Int×Int)}(h:TW m l):l.length<=28:=zgt (by have:=h.hi;lia) h.tie h.nd
theorem TW.web{m:Int}{l:List (Int×Int)}(h:TW m l):∃qs,uR (l.map dG)=some (qs.map dG)/\Web m qs:=by
 have hl:=h.len;have h1:=h.lo;have h2:=h.hi;obtain⟨qs,e,e1,e2,e3⟩:=zjn gV h.nd;have ht:∀p∈qs,0<=p.1/\p.1<p.2/\p.2<m:=λp hp=>h.tie p ((e2 p).mp hp);exact⟨qs,e,by lia,by lia,ht,e1,zl0 gV gV ht e1⟩
noncomputable def GZ(m:Nat):List (Int×Int):=((List.range (m-1)).map λj=>((0:Int)+(j:Nat),(0:Int)+(j:Nat)+1))++[(0,(m:Int)-1)]
noncomputable def vX(m i:Nat):List (Int×Int):=(List.range i).flatMap λa=>(List.range (m-(a+1))).map λj=>((0:Int)+(a:Nat),(0:Int)+(a:Nat)+1+(j:Nat))
theorem zir:∀m∈[3,4,5,6,7],(∀p∈GZ m,0<=p.1/\p.1<p.2/\p.2<(m:Int))/\(GZ m).Nodup:=by decide
theorem zic:∀m∈[2,3,4,5],(∀p∈vX m m,0<=p.1/\p.1<p.2/\p.2<(m:Int))/\(vX m m).Nodup:=by decide
theorem Kai{m:Nat}(h3:3<=m)(h7:m<=7):TW m (GZ m):=by
 have hm:m∈[3,4,5,6,7]:=by
  have:m=3\/m=4\/m=5\/m=6\/m=7:=by lia
  simpa using this
 exact⟨by lia,by lia,(zir m hm).1,(zir m hm).2⟩
theorem Kah{m:Nat}(h3:2<=m)(h7:m<=5):TW m (vX m m):=by
 have hm:m∈[2,3,4,5]:=by
  have:m=2\/m=3\/m=4\/m=5:=by lia
  simpa using this
 exact⟨by lia,by lia,(zic m hm).1,(zic m hm).2⟩
theorem TW.top{m:Nat}{l:List (Int×Int)}(h:TW m l)(h7:m<7):TW ((m:Int)+1) (l++(List.range m).map λj=>((0:Int)+(j:Nat),(m:Int))):=by
 have h1:=h.lo;refine⟨by lia,by lia,λp hp=>?_,?_⟩
 ·rcases mC.mp hp with hp|hp
  ·have:=h.tie p hp;lia
  ·obtain⟨j,hj,rfl⟩:=nJ.mp hp;have:=uf.mp hj;dsimp only
   lia
 ·rw[Hu];refine⟨h.nd,?_,λa ha b hb e=>?_⟩
  ·unfold List.Nodup;rw[QZ];exact(List.nodup_range (n:=m)).imp λ{i j} qU e=>qU (by simp only[Prod.mk.injEq] at e;lia)
  ·obtain⟨j,hj,rfl⟩:=nJ.mp hb;have:=h.tie a ha;rw[e] at this;dsimp only at this
   lia
theorem zeP{m i:Nat}:vX m (i+1)=vX m i++(List.range (m-(i+1))).map λj=>((0:Int)+(i:Nat),(0:Int)+(i:Nat)+1+(j:Nat)):=by
 unfold vX;rw[List.range_succ,List.flatMap_append];simp
theorem zki{m i:Nat}(h:m<=8):(vX m i).length<=8*i:=by
 induction i with
 |zero=>simp[vX]
 |succ i ih=>
  rw[zeP,mj,cR,nq]
  lia
theorem zd9{k d k2 d2 a b:Int}(hk:1<=k)(D_:0<=k2)(zT:k*d2<=k2*d)(h1:d<=a-b)(h2:a-b<=k-d):d2<=a*k2/k-b*k2/k/\a*k2/k-b*k2/k<=k2-d2:=by
 have Ed:0<k:=by lia
 have e1:b*k2/k*k<=b*k2:=Int.ediv_mul_le _ gV;have e2:b*k2<(b*k2/k+1)*k:=Int.lt_ediv_add_one_mul_self _ Ed;have f1:0<=(a-b-d)*k2:=Bm gV D_;have f2:0<=(k-d-(a-b))*k2:=Bm gV D_;rw[qM,qM] at f1;rw[qM,qM,qM] at f2;rw[wz,Fq] at e2;rw[mD k2 d] at zT;have g1:b*k2/k+d2<=a*k2/k:=QK Ed (by rw[wz,mD d2 k];lia);have g2:a*k2/k<b*k2/k+k2-d2+1:=MN Ed (by rw[wz,qM,wz,mD d2 k,mD k2 k,Fq];lia)
 lia
theorem dz{n k d k2 d2:Int}{ps:List (Int×Int)}{hs:List Int}(h:Web n ps)(hh:bM n k d ps hs)(hk:1<=k)(hd:1<=d)(D_:1<=k2)(hd2:1<=d2)(zT:k*d2<=k2*d):bM n k2 d2 ps (hs.map λx=>x*k2/k):=by
 have hl:=hh.len;refine⟨by rw[cR];exact hl,λx hx=>?_,λp hp=>?_⟩
 ·obtain⟨y,hy,rfl⟩:=nJ.mp hx;have:=hh.lo y hy;refine⟨Int.ediv_nonneg (Bm this.1 gV) gV,MN gV ?_⟩;rw[mD k2 k];exact Int.mul_lt_mul_of_pos_right this.2 gV
 ·have ht:=h.tie p hp;rw[GK gV gV,GK gV gV];rcases(rM hd).mp (hh.fit p hp) with ⟨a,b⟩|⟨a,b⟩
  ·exact(rM hd2).mpr (.inl (zd9 hk gV zT a b))
  ·exact(rM hd2).mpr (.inr (zd9 hk gV zT a b))
noncomputable abbrev Fr:=List (Option (List Int))
noncomputable def bJ:Option (List Int)->D
 |none=>.non
 |some l=>.tup (l.map .int)
noncomputable def cellK:Option (List Int)->Kx
 |none=>.non
 |some l=>.row l
noncomputable def jy(F:Fr):D:=.tup (F.map bJ)
theorem V4:∀l:List Int,cC (l.map .int)=some l
 |[]=>rfl
 |i::l=>by show Option.map _ (cC (l.map .int))=_;rw[V4 l];rfl
theorem Px(F:Fr):kOf (jy F)=some (F.map cellK):=by
 show Di (F.map bJ)=_
 induction F with
 |nil=>rfl
 |cons c F ih=>
  have e:uU (bJ c)=some (cellK c):=by
   cases c with
   |none=>rfl
   |some l=>show Option.map _ (cC (l.map .int))=_;rw[V4];rfl
  simp only[jV,Di,e,ih]
theorem zgU:∀{F G:Fr},F.map cellK=G.map cellK->F=G
 |[],[],_=>rfl
 |[],_::_,h=>by cases h
 |_::_,[],h=>by cases h
 |c::F,e::G,h=>by
  simp only[jV,List.cons.injEq] at h;rw[zgU h.2]
  congr 1
  have h1:=h.1;cases c with
  |none=>cases e with
   |none=>rfl
   |some _=>cases h1
  |some l=>cases e with
   |none=>cases h1
   |some m=>cases h1;rfl
structure Bo(n k:Nat)(es:Nat->List Int)(A:Int->Int->Bool):Prop where
 hn:n<=8
 hk:k<=24
 mem:∀i,i<n->∀e∈es i,0<=e/\e<n/\e≠i
 sym:∀i e:Nat,i<n->e<n->(e:Int)∈es i->(i:Int)∈es e
 len:∀i,i<n->(es i).length<=8
 asy:∀a b:Int,0<=a->a<k->0<=b->b<k->A a b=A b a
structure Fv(n k:Nat)(F:Fr):Prop where
 len:F.length=n
 lo:∀(i:Nat) L,F[i]?=some (some L)->∀x∈L,0<=x/\x<k
 ll:∀(i:Nat) L,F[i]?=some (some L)->L.length<=24
 so:∀(i:Nat) L,F[i]?=some (some L)->L.Pairwise (·<·)
structure qH(es:Nat->List Int)(A:Int->Int->Bool)(F:Fr)(g:Nat->Int):Prop where
 mem:∀(i:Nat) L,F[i]?=some (some L)->g i∈L
 fit:∀(i e:Nat) L M,F[i]?=some (some L)->F[e]?=some (some M)->(e:Int)∈es i->A (g i) (g e)=true
def Sat(es:Nat->List Int)(A:Int->Int->Bool)(F:Fr):Prop:=∃g,qH es A F g
noncomputable def gD(f:Int->Bool)(F:Fr)(e:Int):Fr:=F.set e.toNat ((F[e.toNat]?.join).map (·.filter f))
noncomputable def settle(es:Nat->List Int)(A:Int->Int->Bool)(F:Fr)(p:Nat)(x:Int):Fr:=(es p).foldl (gD (A x)) (F.set p none)
theorem zem{f:Int->Bool}{F:Fr}{e:Int}:(gD f F e).length=F.length:=pP ..
theorem V5{f:Int->Bool}:∀{l:List Int} {F:Fr},(l.foldl (gD f) F).length=F.length
 |[],F=>rfl
 |e::l,F=>by rw[List.foldl_cons,V5,zem]
theorem ziY{f:Int->Bool}{F:Fr}{e:Int}(h0:0<=e)(i:Nat)(hi:i<F.length):(gD f F e)[i]?=if (i:Int)=e then F[i]?.map (Option.map (·.filter f)) else F[i]?:=by
 unfold gD;by_cases z:(i:Int)=e
 ·have:e.toNat=i:=by lia
  rw[if_pos z,this,zp hi,cZ hi];rfl
 ·rw[if_neg z,qK gV]
theorem V6{f:Int->Bool}:∀{l:List Int} {F:Fr} (i:Nat),(∀e∈l,0<=e)->i<F.length->(l.foldl (gD f) F)[i]?=if (i:Int)∈l then F[i]?.map (Option.map (·.filter f)) else F[i]?
 |[],F,i,_,hi=>by simp
 |e::l,F,i,h,hi=>by
  rw[List.foldl_cons,V6 i (λx hx=>h x (by simp[hx])) (by rw[zem];exact hi),ziY (h e Zaa) i hi];have ff:∀c:Option (Option (List Int)),(c.map (Option.map (·.filter f))).map (Option.map (·.filter f))=c.map (Option.map (·.filter f)):=λc=>by
   cases c with
   |none=>rfl
   |some c=>cases c with
    |none=>rfl
    |some L=>simp
  by_cases a:(i:Int)=e
  ·by_cases b:(i:Int)∈l
   ·rw[if_pos b,if_pos a,if_pos (by simp[b]),ff]
   ·rw[if_neg b,if_pos a,if_pos (by simp[a])]
  ·by_cases b:(i:Int)∈l
   ·rw[if_pos b,if_neg a,if_pos (by simp[b])]
   ·rw[if_neg b,if_neg a,if_neg (by simp[a,b])]
section
variable {n k:Nat}{es:Nat->List Int}{A:Int->Int->Bool}{F:Fr}{p:Nat}{x:Int}{g:Nat->Int}
theorem zcs:(settle es A F p x).length=F.length:=by unfold settle;rw[V5,pP]
theorem zds(B:Bo n k es A)(hF:F.length=n)(hp:p<n)(i:Nat)(hi:i<n):(settle es A F p x)[i]?=if i=p then some none else if (i:Int)∈es p then F[i]?.map (Option.map (·.filter (A x))) else F[i]?:=by
 unfold settle;rw[V6 i (λe he=>(B.mem p hp e he).1) (by rw[pP,hF];exact hi)];by_cases e:i=p
 ·subst e;rw[if_pos rfl,if_neg (λz=>(B.mem i hp _ z).2.2 rfl),zp (by rw[hF];exact hi)]
 ·rw[if_neg e,qK (Ne.symm e)]
theorem rQ{i:Nat}{c:Option (List Int)}(hF:F.length=n)(h:F[i]?=some c):i<n:=by rw[<-hF];exact(dW.mp h).1
theorem Py(B:Bo n k es A)(hF:F.length=n)(hp:p<n){i:Nat}{M:List Int}(h:(settle es A F p x)[i]?=some (some M)):i≠p/\∃L,F[i]?=some (some L)/\M=if (i:Int)∈es p then L.filter (A x) else L:=by
 have hi:i<n:=rQ (by rw[zcs];exact hF) h;rw[zds B hF hp i hi] at h;by_cases e:i=p
 ·rw[if_pos e] at h;cases h
 ·rw[if_neg e] at h;refine⟨e,?_⟩;by_cases m:(i:Int)∈es p
  ·rw[if_pos m] at h;obtain⟨c,e1,e2⟩:=lu.mp h;cases c with
   |none=>cases e2
   |some L=>cases e2;exact⟨L,e1,by rw[if_pos m]⟩
  ·rw[if_neg m] at h;exact⟨M,h,by rw[if_neg m]⟩
theorem Lr(B:Bo n k es A)(hF:F.length=n)(hp:p<n){i:Nat}{L:List Int}(hi:i≠p)(h:F[i]?=some (some L)):(settle es A F p x)[i]?=some (some (if (i:Int)∈es p then L.filter (A x) else L)):=by
 rw[zds B hF hp i (rQ hF h),if_neg hi,h]
 split<;>rfl
theorem Ls(B:Bo n k es A)(v:Fv n k F)(hp:p<n):Fv n k (settle es A F p x):=by
 refine⟨by rw[zcs];exact v.len,λi M h=>?_,λi M h=>?_,λi M h=>?_⟩<;>obtain⟨_,L,e,rfl⟩:=Py B v.len hp h
 ·intro y hy;refine v.lo i L e y ?_;split at hy
  ·exact(pO.mp hy).1
  ·exact hy
 ·split
  ·exact jW (Hj _ _) (v.ll i L e)
  ·exact v.ll i L e
 ·split
  ·exact(v.so i L e).filter _
  ·exact v.so i L e
theorem Pz(B:Bo n k es A)(v:Fv n k F)(hp:p<n){L:List Int}(hL:F[p]?=some (some L))(s:qH es A F g):qH es A (settle es A F p (g p)) g:=by
 refine⟨λi M h=>?_,λi e M N h1 h2 he=>?_⟩
 ·obtain⟨_,L',e,rfl⟩:=Py B v.len hp h;have:=s.mem i L' e
  split
  ·exact pO.mpr ⟨this,s.fit p i L L' hL e (by assumption)⟩
  ·exact this
 ·obtain⟨_,L',e1,_⟩:=Py B v.len hp h1;obtain⟨_,L2,e2,_⟩:=Py B v.len hp h2;exact s.fit i e L' L2 e1 e2 he
theorem zev(B:Bo n k es A)(v:Fv n k F)(hp:p<n){L:List Int}(hL:F[p]?=some (some L))(hx:x∈L)(s:qH es A (settle es A F p x) g):qH es A F λi=>if i=p then x else g i:=by
 have ap:∀(i:Nat) M,i≠p->F[i]?=some (some M)->(i:Int)∈es p->A x (g i)=true/\(0<=g i/\g i<k):=λi M ni h m=>by
  have h2:=Lr (x:=x) B v.len hp ni h;have:=s.mem i _ h2;rw[if_pos m] at this;exact⟨(pO.mp this).2,v.lo i M h _ (pO.mp this).1⟩
 have hxk:=v.lo p L hL x hx;refine⟨λi M h=>?_,λi e M N h1 h2 he=>?_⟩
 ·by_cases z:i=p
  ·subst z;rw[if_pos rfl];rw[hL] at h;cases h;exact hx
  ·rw[if_neg z];have:=s.mem i _ (Lr (x:=x) B v.len hp z h);split at this
   ·exact(pO.mp this).1
   ·exact this
 ·have li:=rQ v.len h1;have le:=rQ v.len h2;by_cases z:i=p
  ·subst z;have ne:e≠i:=λq=>(B.mem i li _ he).2.2 (by rw[q]);rw[if_pos rfl,if_neg ne];exact(ap e N ne h2 he).1
  ·by_cases y:e=p
   ·subst y;rw[if_neg z,if_pos rfl];have m:=B.sym i e li le he;obtain⟨q1,q2⟩:=ap i M z h1 m;rw[B.asy _ _ q2.1 q2.2 hxk.1 hxk.2];exact q1
   ·rw[if_neg z,if_neg y];exact s.fit i e _ _ (Lr (x:=x) B v.len hp z h1) (Lr (x:=x) B v.len hp y h2) he
theorem G3(B:Bo n k es A)(v:Fv n k F)(hp:p<n){L:List Int}(hL:F[p]?=some (some L)):Sat es A F↔∃x∈L,Sat es A (settle es A F p x):=
 ⟨λ⟨g,s⟩=>⟨g p,s.mem p L hL,g,Pz B v hp hL s⟩,λ⟨x,hx,g,s⟩=>⟨_,zev B v hp hL hx s⟩⟩
noncomputable def dO(es:Nat->List Int)(F:Fr)(p:Nat):Nat:=((es p).filter λe=>(F[e.toNat]?.join).isSome).length
noncomputable def bnd(es:Nat->List Int)(F:Fr):Fr:=F.mapIdx λi c=>if 0<dO es F i then c else none
theorem ziq{i:Nat}:(bnd es F)[i]?=F[i]?.map λc=>if 0<dO es F i then c else none:=by unfold bnd;rw[List.getElem?_mapIdx]
theorem Ef{i:Nat}{L:List Int}(h:(bnd es F)[i]?=some (some L)):F[i]?=some (some L)/\0<dO es F i:=by
 rw[ziq] at h;obtain⟨c,e1,e2⟩:=lu.mp h;split at e2
 ·subst e2;exact⟨e1,by assumption⟩
 ·cases e2
theorem zid(v:Fv n k F):Fv n k (bnd es F):=⟨by unfold bnd;rw[List.length_mapIdx];exact v.len,λi L h=>v.lo i L (Ef h).1,λi L h=>v.ll i L (Ef h).1,λi L h=>v.so i L (Ef h).1⟩
theorem zeb{i e:Nat}{L:List Int}(hm:(e:Int)∈es i)(h:F[e]?=some (some L)):0<dO es F i:=by
 unfold dO;refine List.length_pos_of_mem (a:=(e:Int)) (pO.mpr ⟨hm,?_⟩);rw[pL,h];rfl
theorem zjH(B:Bo n k es A)(v:Fv n k F)(ne:∀(i:Nat) L,F[i]?=some (some L)->L≠[]):Sat es A (bnd es F)↔Sat es A F:=by
 constructor
 ·rintro⟨g,s⟩;have to:∀(i:Nat) L,F[i]?=some (some L)->0<dO es F i->(bnd es F)[i]?=some (some L):=λi L h q=>by rw[ziq,h];show some (if _ then _ else _)=_;rw[if_pos q]
  refine⟨λi=>if 0<dO es F i then g i else ((F[i]?.join).getD []).headD 0,λi L h=>?_,λi e L M h1 h2 he=>?_⟩
  ·by_cases q:0<dO es F i
   ·rw[if_pos q];exact s.mem i L (to i L h q)
   ·rw[if_neg q,h];show L.headD 0∈L;cases L with
    |nil=>exact absurd rfl (ne i [] h)
    |cons a L=>exact lA
  ·have q1:=zeb he h2;have q2:=zeb (B.sym i e (rQ v.len h1) (rQ v.len h2) he) h1;rw[if_pos q1,if_pos q2];exact s.fit i e L M (to i L h1 q1) (to e M h2 q2) he
 ·rintro⟨g,s⟩;exact⟨g,λi L h=>s.mem i L (Ef h).1,λi e L M h1 h2 he=>s.fit i e L M (Ef h1).1 (Ef h2).1 he⟩
theorem V7(h:∀(i:Nat) L,F[i]?≠some (some L)):Sat es A F:=⟨λ_=>0,λi L q=>absurd q (h i L),λi _ L _ q=>absurd q (h i L)⟩
theorem zjz{i:Nat}(h:F[i]?=some (some [])):¬Sat es A F:=λ⟨g,s⟩=>nomatch s.mem i [] h
noncomputable def g8(k:Nat):List Int:=(List.range k).map λ(i:Nat)=>(i:Int)
theorem eY{k:Nat}{y:Int}:y∈g8 k↔0<=y/\y<k:=by
 unfold g8;rw[nJ]
 constructor
 ·rintro⟨i,hi,rfl⟩;have:=uf.mp hi;lia
 ·intro h;exact⟨y.toNat,uf.mpr gV,by lia⟩
theorem V8(B:Bo n k es A)(v:Fv n k F)(hp:p<n)(hk:1<=k)(dJ:∀t a b:Int,0<=a->a<k->0<=b->b<k->A ((a+t)%k) ((b+t)%k)=A a b)(all:∀(i:Nat) L,F[i]?=some (some L)->L=g8 k)(hL:F[p]?=some (some (g8 k))):Sat es A F↔Sat es A (settle es A F p 0):=by
 constructor
 ·rintro⟨g,s⟩;have md:∀z:Int,0<=z%(k:Int)/\z%(k:Int)<k:=λz=>⟨zE _ gV,Bc _ gV⟩;have s2:qH es A F λi=>(g i + -(g p))%k:=by
   refine⟨λi L h=>?_,λi e L M h1 h2 he=>?_⟩
   ·rw[all i L h];exact eY.mpr (md _)
   ·have a:=eY.mp (all i L h1▸s.mem i L h1);have b:=eY.mp (all e M h2▸s.mem e M h2);show A ((g i + -(g p))%k) ((g e + -(g p))%k)=true;rw[dJ _ _ _ a.1 a.2 b.1 b.2];exact s.fit i e L M h1 h2 he
  have:=Pz B v hp hL s2;have e0:(g p + -(g p))%(k:Int)=0:=by rw[Int.add_right_neg];rfl
  simp only[e0] at this;exact⟨_,this⟩
 ·intro h;exact(G3 B v hp hL).mpr ⟨0,eY.mpr ⟨by lia,by lia⟩,h⟩
noncomputable def unset(F:Fr):Nat:=F.countP Option.isSome
theorem zdc:unset (bnd es F)<=unset F:=by
 unfold unset bnd;generalize dO es F=f
 induction F generalizing f with
 |nil=>simp
 |cons c F ih=>
  rw[List.mapIdx_cons,Fg,Fg];have:=ih (λi=>f (i+1));have e:(if (if 0<f 0 then c else none).isSome=true then 1 else 0)<=(if c.isSome=true then 1 else 0):=by
   split<;>split<;>simp_all
  lia
theorem zfB{F:Fr}:∀{p:Nat} {L:List Int},F[p]?=some (some L)->unset (F.set p none)+1=unset F:=by
 unfold unset
 induction F with
 |nil=>intro p L h;simp at h
 |cons c F ih=>
  intro p L h;cases p with
  |zero=>simp at h;subst h;simp
  |succ p=>
   have:=ih (p:=p) (L:=L) (by simpa using h);rw[List.set_cons_succ,Fg,Fg]
   lia
theorem zgC{f:Int->Bool}{F:Fr}{e:Int}:unset (gD f F e)<=unset F:=by
 unfold unset gD;generalize e.toNat=j
 induction F generalizing j with
 |nil=>simp
 |cons c F ih=>
  cases j with
  |zero=>cases c<;>simp
  |succ j=>
   rw[List.set_cons_succ,Fg,Fg,En];have:=ih j
   lia
theorem zcn{f:Int->Bool}:∀{l:List Int} {F:Fr},unset (l.foldl (gD f) F)<=unset F
 |[],F=>bQ _
 |e::l,F=>jW (zcn (l:=l)) zgC
theorem Lw{L:List Int}(h:F[p]?=some (some L)):unset (settle es A F p x)+1<=unset F:=by
 have:=zcn (f:=A x) (l:=es p) (F:=F.set p none);have:=zfB h;unfold settle
 lia
theorem zfc(h:unset F=0)(i:Nat)(L:List Int):F[i]?≠some (some L):=λe=>by
 have:=List.countP_eq_zero.mp h _ (eG e);exact this rfl
def lJ(es:Nat->List Int)(A:Int->Int->Bool)(kvs:iV):Prop:=∀F d,cg (F.map cellK) kvs=some d->∃b,d=.bl b/\(b=true↔Sat es A F)
theorem zeQ{j q:List Kx}{d:D}:∀{kvs:iV},cg j (jE q d kvs)=if j=q then some d else cg j kvs:=by
 intro kvs;unfold jE;have app:∀{r:iV},cg j (r++[(q,d)])=match cg j r with|some e=>some e|none=>if j=q then some d else none:=λ{r}=>by
  induction r with
  |nil=>
   show (if q=j then some d else none)=if j=q then some d else none
   by_cases e:q=j
   ·rw[if_pos e,if_pos e.symm]
   ·rw[if_neg e,if_neg λz=>e z.symm]
  |cons p r ih=>
   rw[List.cons_append];unfold cg;by_cases e:p.1=j
   ·simp[e]
   ·simp only[e,nO];exact ih
 by_cases h:(cg q kvs).isSome=true
 ·rw[if_pos h];by_cases e:j=q
  ·subst e;rw[if_pos rfl]
   induction kvs with
   |nil=>simp[cg] at h
   |cons p r ih=>
    rw[jV];by_cases z:p.1=j
    ·rw[if_pos z];unfold cg;rw[if_pos z]
    ·rw[if_neg z];unfold cg at h ⊢;rw[if_neg z] at h ⊢;exact ih h
  ·rw[if_neg e];clear h
   induction kvs with
   |nil=>rfl
   |cons p r ih=>
    rw[jV];by_cases z:p.1=q
    ·rw[if_pos z];unfold cg;rw[if_neg (λy=>e (y.symm.trans z)),if_neg (λy=>e (y.symm.trans z))];exact ih
    ·rw[if_neg z];unfold cg;by_cases y:p.1=j
     ·rw[if_pos y,if_pos y]
     ·rw[if_neg y,if_neg y];exact ih
 ·rw[if_neg h,app];by_cases e:j=q
  ·subst e;have:cg j kvs=none:=by simpa using h
   simp[this]
  ·rw[if_neg e,if_neg e];cases cg j kvs<;>rfl
theorem zhn{q:List Kx}{d:D}{kvs:iV}:(jE q d kvs).length<=kvs.length+1:=by
 unfold jE
 split
 ·rw[cR];lia
 ·simp
theorem zj7{kvs:iV}{b:Bool}(h:lJ es A kvs)(hb:b=true↔Sat es A F):lJ es A (jE (F.map cellK) (.bl b) kvs):=λG d e=>by
 rw[zeQ] at e;by_cases z:G.map cellK=F.map cellK
 ·rw[if_pos z] at e;cases e;rw[zgU z];exact⟨b,rfl,hb⟩
 ·rw[if_neg z] at e;exact h G d e
end
noncomputable def cnt(k:Nat):Nat->Nat
 |0=>1
 |m+1=>1+k*cnt k m
section
variable {aq:Nat->Nat->Bool}{aj:Bool}{F:Fn}{J:Vs}{s:S}{P:Xv->S->Prop}
theorem W.sU{c:Nat}{fs:List D}{P:List D->S->Prop}(h:P fs s):W (Mi.sU c (.d (.ob c fs))) s P:=by
 show W (if c=c then M.ret fs else M.no) s P;rw[if_pos rfl];exact W.ret h
theorem W.cm{c f:Nat}{o:E}{xs:Es}{fs:List D}{vs:List Xv}(h1:dw aq o J=some (.d (.ob c fs)))(h2:o7 aq xs J=some vs)(k:W (cO (F f) (.d (.ob c fs)::vs)) s P):W (ev aq aj F (.cm c f o xs) J) s P:=
 W.bd (W.eq (gC o _ h1) (W.bd (W.sU (W.bd (W.eq (jR xs h2) (W.qt k))))))
theorem W.sO(h:P (.l s.length) (s++[.dct []])):W (ev aq aj F .sO J) s P:=⟨_,_,rfl,h⟩
theorem W.key{x:D}{kx:List Kx}{P:List Kx->S->Prop}(e:kOf x=some kx)(h:P kx s):W (Mi.key (.d x)) s P:=W.opt e h
theorem W.gj{n:Nat}{kvs:iV}{P:Nat×iV->S->Prop}(e:s[n]?=some (.dct kvs))(h:P (n,kvs) s):W (Mi.gj (.l n)) s P:=⟨_,s,by unfold Mi.gj;simp only[e],h⟩
theorem W.CK{b:Bool}{k d:E}{x:D}{n:Nat}{kx:List Kx}{kvs:iV}(h1:dw aq k J=some (.d x))(h2:dw aq d J=some (.l n))(e:kOf x=some kx)(hn:s[n]?=some (.dct kvs))(h:P (.d (.bl ((cg kx kvs).isSome==b))) s):W (ev aq aj F (.CK b k d) J) s P:=
 W.bd (W.eq (gC k _ h1) (W.bd (W.eq (gC d _ h2) (W.bd (W.key e (W.bd (W.gj hn (W.ret h))))))))
theorem W.ql{d k:E}{x v:D}{n:Nat}{kx:List Kx}{kvs:iV}(h1:dw aq d J=some (.l n))(h2:dw aq k J=some (.d x))(e:kOf x=some kx)(hn:s[n]?=some (.dct kvs))(hv:cg kx kvs=some v)(h:P (.d v) s):W (ev aq aj F (.ql d k) J) s P:=
 W.bd (W.eq (gC d _ h1) (W.bd (W.eq (gC k _ h2) (W.bd (W.key e (W.bd (W.gj hn (W.opt (a:=.d v) (by show Option.map _ (cg kx kvs)=_;rw[hv];rfl) h))))))))
theorem W.Gf{a:E}(h:W (ev aq aj F a J) s λx s1=>W (rd x) s1 λd s2=>∃b,yC d=some b/\P (.d (.bl b)) s2):W (ev aq aj F (.Gf a) J) s P:=
 W.bd (h.imp λ_ _ h=>W.bd (h.imp λ_ _ ⟨_,e,h⟩=>W.bd (W.opt e (W.ret h))))
theorem KaM{xs:List D}{P:Src×Nat->S->Prop}(h:P (.fix (enumFrom 0 xs),(enumFrom 0 xs).length) s):W (oN (.d (.tup xs))) s P:=⟨_,s,rfl,h⟩
theorem W.mk{c f:Nat}{xs:Es}{vs:List Xv}{ds:List D}(h:W (evs aq aj F xs J) s λus s1=>us=vs/\P (.d (.ob c ds)) s1)(hl:locs vs=[])(k:W (F f (.d .any::vs)) [] λv _=>v=.d (.tup ds)):W (ev aq aj F (.mk c f xs) J) s P:=by
 refine W.bd (h.imp λus s1 ⟨e,hp⟩=>?_);subst e;obtain⟨v,s2,e1,rfl⟩:=k;refine⟨_,s1,?_,hp⟩;unfold TX;rw[if_pos hl];simp only[e1]
end
theorem WS.dput{aq:Nat->Nat->Bool}{aj:Bool}{F:Bool->Fn}{J:Vs}{s:S}{Q:Out->S->Prop}{d k v:E}{x:D}{n:Nat}{kx:List Kx}(h1:dw aq d J=some (.l n))(h2:dw aq k J=some (.d x))(e:kOf x=some kx)
  (h:W (ev aq aj (F aj) v J) s λz s1=>∃w kvs,z=.d w/\s1[n]?=some (.dct kvs)/\kvs.length<sizeLine/\Q (.nx J) (s1.set n (.dct (jE kx w kvs)))):WS (ex aq aj F (.dput d k v) J) s Q:=by
 refine WS.ofM (W.bd (h.imp λz s1 ⟨w,kvs,ez,hn,hl,q⟩=>?_));subst ez;refine W.bd (W.dat (W.bd (W.eq (gC d _ h1) (W.bd (W.eq (gC k _ h2) (W.bd (W.key e (W.bd (W.gj hn ?_)))))))));rw[if_pos hl];exact⟨_,_,rfl,WS.nx q⟩
theorem zbv{α:Type}{f:α->D}:∀(l:List α) (j:Nat),enumFrom j (l.map f)=(l.zipIdx j).map λp=>.tup [.int p.2,f p.1]
 |[],j=>rfl
 |a::l,j=>by rw[jV,List.zipIdx_cons,jV,<-zbv l (j+1)];rfl
theorem KaX{o:Option Rz}{xs:List D}{s:S}{P:Xv->S->Prop}(e:o=some (.nw xs))(h:P (.l s.length) (s++[.lst xs])):W (cD false o) s P:=by subst e;exact⟨_,_,rfl,h⟩
theorem zim{n:Nat}{j:Int}(h0:0<=j)(h:j<n):L2.pF n j=some j.toNat:=by
 unfold L2.pF;rw[if_pos h0,if_pos h]
theorem ziA{n:Nat}{j:Int}(h0:j<0)(h : -(n:Int)<=j):L2.pF n j=some (j+n).toNat:=by
 unfold L2.pF;rw[if_neg gV,if_pos h]
theorem zm7{xs:List D}{j:Int}{x:D}(h0:j<0)(h1 : -(xs.length:Int)<=j)(h:xs[(j+xs.length).toNat]?=some x):prim .ix [.fl xs,.int j]=some (.dat x):=by
 show Option.map Rz.dat (L2.n8 xs j)=_;have:L2.n8 xs j=some x:=by
  unfold L2.n8;rw[ziA h0 h1];exact h
 rw[this];rfl
theorem zhz(F:Fr):memD (.tup []) (F.map bJ)=some (decide (some []∈F)):=by
 induction F with
 |nil=>rfl
 |cons c F ih=>
  simp only[jV,memD,ih];cases c with
  |none=>simp[bJ,dF,kq]
  |some l=>
   cases l with
   |nil=>
    have:dF 50 (bJ (some [])) (.tup [])=some true:=rfl;rw[this];simp
   |cons a l=>
    have:dF 50 (bJ (some (a::l))) (.tup [])=some false:=rfl;rw[this];simp
theorem zm1{f:Bool->Bool}{F:Fr}:Gg f [.tup [],jy F]=some (.dat (.bl (f (decide (some []∈F))))):=by
 show Option.map _ (memD (.tup []) (F.map bJ))=_;rw[zhz];rfl
theorem zgH{k':Nat}:∀(a b:List Int),dR (dF k') (a.map D.int) (b.map D.int)=some (decide (a=b))
 |[],[]=>by simp[dR]
 |[],_::_=>by simp[dR]
 |_::_,[]=>by simp[dR]
 |x::a,y::b=>by
  have hi:dF k' (.int x) (.int y)=some (x==y):=by cases k'<;>rfl
  simp only[jV,dR,zgH a b,hi]
  congr 1
  by_cases e:x=y<;>by_cases e2:a=b<;>simp[e,e2]
theorem zlJ{f:Bool->Bool}{a b:List Int}:CT f [.tup (a.map .int),.tup (b.map .int)]=some (.dat (.bl (f (decide (a=b))))):=by
 show Option.map _ (dR (dF 49) (a.map D.int) (b.map D.int))=_;rw[zgH];rfl
theorem zdw:∀rs:List (List Int),j_ (rs.map λr=>D.tup (r.map .int))=some rs
 |[]=>rfl
 |r::rs=>by simp only[jV,j_,V4,zdw rs]
theorem V9:∀(rs:List (List Int)) (b:List Int),gb b rs=b\/gb b rs∈rs
 |[],b=>.inl rfl
 |x::r,b=>by
  unfold gb
  split
  ·rcases V9 r x with h|h
   ·rw[h];exact .inr lA
   ·exact .inr (iI _ h)
  ·rcases V9 r b with h|h
   ·exact .inl h
   ·exact .inr (iI _ h)
theorem zkL{rs:List (List Int)}(h:rs≠[]):∃r∈rs,prim .sI [.fl (rs.map λr=>D.tup (r.map .int))]=some (.dat (.tup (r.map .int))):=by
 cases rs with
 |nil=>exact absurd rfl h
 |cons x r=>
  refine⟨gb x r,?_,?_⟩
  ·rcases V9 r x with h|h
   ·rw[h];exact lA
   ·exact iI _ h
  ·show oM [.fl ((x::r).map λr=>D.tup (r.map .int))]=_;unfold oM;simp only[zdw]
theorem znn{n:Nat}(h:n<=65536):prim .Gd [.int n]=some (.dat (.tup ((g8 n).map .int))):=by
 show (if okR 0 (n:Int)=true then some (Rz.dat (.tup (J3 0 ((n:Int)-0).toNat))) else none)=_;rw[if_pos (show okR 0 (n:Int)=true from gH gV)];unfold J3 g8;rw[xG,show ((n:Int)-0).toNat=n by lia]
 congr 4
 funext i
 simp
noncomputable def Eh(n:Nat)(es:Nat->List Int):List D:=(List.range n).map λi=>.tup ((es i).map .int)
noncomputable def wZ(k:Nat)(A:Int->Int->Bool):List D:=(List.range k).map λ(a:Nat)=>.fl ((List.range k).map λ(b:Nat)=>.bl (A a b))
noncomputable def jz(al:Bool)(n k:Nat)(es:Nat->List Int)(A:Int->Int->Bool):D:=.ob 0 [.fl (Eh n es),.tup ((g8 k).map .int),.fl (wZ k A),.bl al]
noncomputable abbrev boD(n k:Nat)(es:Nat->List Int)(A:Int->Int->Bool):D:=jz true n k es A
theorem zkT{n:Nat}{es:Nat->List Int}{i:Nat}(h:i<n):(Eh n es)[i]?=some (.tup ((es i).map .int)):=by
 unfold Eh;rw[gM,Eu h];rfl
theorem znC{k:Nat}{A:Int->Int->Bool}{a:Int}(h0:0<=a)(h:a<k):(wZ k A)[a.toNat]?=some (.fl ((List.range k).map λ(b:Nat)=>.bl (A a b))):=by
 unfold wZ;rw[gM,Eu gV];have:((a.toNat:Nat):Int)=a:=by lia
 simp[this]
theorem V_{k:Nat}{f:Int->Bool}{b:Int}(h0:0<=b)(h:b<k):((List.range k).map λ(b:Nat)=>D.bl (f b))[b.toNat]?=some (.bl (f b)):=by
 rw[gM,Eu gV];have:((b.toNat:Nat):Int)=b:=by lia
 simp[this]
theorem Lx{F:Fr}{i:Nat}{c:Option (List Int)}(h:F[i]?=some c):(F.map bJ)[i]?=some (bJ c):=by rw[gM,h];rfl
theorem zjI{f:Int->Bool}{F:Fr}{e:Int}:(gD f F e).map bJ=(F.map bJ).set e.toNat (bJ ((F[e.toNat]?.join).map (·.filter f))):=by
 unfold gD;rw[List.map_set]
theorem zhk{f:Int->Bool}{F:Fr}{e:Int}(h:F[e.toNat]?=some none):gD f F e=F:=by
 unfold gD;rw[h];obtain⟨hl,e2⟩:=dW.mp h;show F.set e.toNat none=F;rw[<-e2,List.set_getElem_self]
theorem zc0{α:Type}{p:Int->Bool}(l:List Int):l.filterMap (λy=>if p y=true then some (D.int y) else none)=(l.filter p).map .int:=by
 induction l with
 |nil=>rfl
 |cons a l ih=>
  rw[Hq,List.filter_cons];by_cases q:p a=true
  ·simp[q,ih]
  ·simp[q,ih]
noncomputable def tot(k:Nat):Nat->Nat
 |0=>0
 |m+1=>k*cnt k m+tot k m
theorem ziw{k:Nat}{L:List Int}(h:L.Pairwise (·<·))(hb:∀x∈L,0<=x/\x<k):L.length<=k:=by
 have key:∀(L:List Int) (a:Int),L.Pairwise (·<·)->(∀x∈L,a<=x/\x<k)->a<=k->(L.length:Int)<=k-a:=by
  intro L
  induction L with
  |nil=>intro a _ _ ha;simp;lia
  |cons x r ih=>
   intro a h hb ha;rw[EY] at h;have hx:=hb x Zaa;have:=ih (x+1) h.2 (λy hy=>by have:=h.1 y hy;have:=hb y (by simp[hy]);lia) gV;rw[h_]
   lia
 have:=key L 0 h hb gV
 lia
noncomputable def dB(k d:Int)(a b:Int):Bool:=decide (d<=kW k a b)
section
variable {n k d:Int}{ps:List (Int×Int)}{ls:List Int}
theorem zgg(hd:1<=d){a b:Int}:dB k d a b=dB k d b a:=by
 unfold dB;rw[v9,rM hd,rM hd]
 lia
theorem zfr(hd:1<=d)(t a b:Int)(a0:0<=a)(ak:a<k)(b0:0<=b)(bk:b<k):dB k d ((a+t)%k) ((b+t)%k)=dB k d a b:=by
 unfold dB;rw[v9,rM hd,rM hd];have e1:=Int.emod_add_mul_ediv (a+t) k;have e2:=Int.emod_add_mul_ediv (b+t) k;have u0:=zE (a+t) (b:=k) gV;have w0:=zE (b+t) (b:=k) gV;have uk:=Bc (a+t) (b:=k) gV;have wk:=Bc (b+t) (b:=k) gV;generalize (a+t)%k=u at *;generalize (b+t)%k=w at *;generalize (a+t)/k=q1 at *;generalize (b+t)/k=q2 at *;have e3:k*(q1-q2)=(a-b)-(u-w):=by rw[HJ];lia
 have c:q1-q2 = -1\/q1-q2=0\/q1-q2=1:=by
  have h1:q1-q2<2:=Int.not_le.mp λz=>by
   have:=zj z (show 0<=k by lia)
   lia
  have h2 : -2<q1-q2:=Int.not_le.mp λz=>by
   have:=zj z (show 0<=k by lia)
   lia
  lia
 rcases c with c|c|c<;>rw[c] at e3<;>lia
theorem Ly(w:Web n ps){i e:Int}:e∈bN i ps↔(i,e)∈ps\/(e,i)∈ps:=by
 unfold bN;rw[Ew]
 constructor
 ·rintro⟨p,hp,h⟩;obtain⟨a,b⟩:=p;unfold endOf at h;dsimp only at h;split at h
  ·cases h;subst_vars;exact .inl hp
  ·split at h
   ·cases h;subst_vars;exact .inr hp
   ·cases h
 ·rintro(hp|hp)
  ·exact⟨_,hp,by simp[endOf]⟩
  ·have:=w.tie _ hp;dsimp only at this;exact⟨_,hp,by unfold endOf;dsimp only;rw[if_neg gV,if_pos rfl]⟩
theorem zlr(w:Web n ps)(hd:1<=d)(hk:k<=24):Bo n.toNat k.toNat (λi=>bN i ps) (dB k d) where
 hn:=by have:=w.h8;lia
 hk:=by lia
 mem:=λi hi e he=>by
  have:=zd0 w he;refine⟨this.1,by lia,λz=>?_⟩;subst z;rcases(Ly w).mp he with h|h<;>have:=w.tie _ h<;>dsimp only at this<;>lia
 sym:=λi e _ _ he=>(Ly w).mpr ((Ly w).mp he).symm
 len:=λi hi=>by
  have:=ziw (k:=n.toNat) (zd4 w i) (λx hx=>by have:=zd0 w hx;have:=w.h1;lia);have:=w.h8
  lia
 asy:=λa b _ _ _ _=>zgg hd
noncomputable def jm(n k:Int):Fr:=List.replicate n.toNat (some (g8 k.toNat))
theorem Lz{i:Nat}{L:List Int}(h:(jm n k)[i]?=some (some L)):i<n.toNat/\L=g8 k.toNat:=by
 unfold jm at h;rw[Ay] at h;split at h
 ·cases h;exact⟨by assumption,rfl⟩
 ·cases h
theorem PB{i:Nat}(h:i<n.toNat):(jm n k)[i]?=some (some (g8 k.toNat)):=by
 unfold jm;rw[Ay,if_pos h]
theorem PJ(hk:k<=24):Fv n.toNat k.toNat (jm n k) where
 len:=by unfold jm;simp
 lo:=λi L h x hx=>by rw[(Lz h).2] at hx;exact eY.mp hx
 ll:=λi L h=>by rw[(Lz h).2];unfold g8;simp;lia
 so:=λi L h=>by
  rw[(Lz h).2];unfold g8;rw[QZ];exact List.pairwise_lt_range.imp (by intro a b h;lia)
theorem zeF(w:Web n ps)(hd:1<=d){hs:List Int}(h:bM n k d ps hs):qH (λi=>bN i ps) (dB k d) (jm n k) λj=>at' hs j where
 mem:=λi L e=>by
  obtain⟨h1,rfl⟩:=Lz e;have:=h.len;have:=h.lo _ (K5 (fs:=hs) (j:=i) gV gV);exact eY.mpr gV
 fit:=λi e L M _ _ he=>by
  rcases(Ly w).mp he with q|q
  ·have:=h.fit _ q;show dB k d (at' hs i) (at' hs e)=true;unfold dB;rw[M5];exact this
  ·have:=h.fit _ q;rw[zgg hd];show dB k d (at' hs e) (at' hs i)=true;unfold dB;rw[M5];exact this
theorem zgZ(w:Web n ps){hs:List Int}(hl:hs.length=n.toNat)(s:qH (λi=>bN i ps) (dB k d) (jm n k) λj=>at' hs j):bM n k d ps hs where
 len:=by have:=w.h1;lia
 lo:=λx hx=>by
  obtain⟨j,hj,e⟩:=zx hx;have:=s.mem j _ (PB gV);have e2:at' hs (j:Int)=x:=by
   unfold at';rw[pL,jM,cZ hj,e];rfl
  rw[e2] at this;have:=eY.mp this
  lia
 fit:=λp hp=>by
  have ht:=w.tie p hp;obtain⟨a,b⟩:=p;dsimp only at ht;obtain⟨i,rfl⟩:=tR ht.1;obtain⟨e,rfl⟩:=tR (show 0<=b by lia);have:=s.fit i e _ _ (PB gV) (PB gV) ((Ly w).mpr (.inl hp));unfold dB at this;rw[M5] at this;exact this
theorem zjV{g h:List Int}(hl:g.length=h.length)(a:Ge g h)(b:Ge h g):g=h:=by
 have key:∀j:Nat,j<h.length->at' g j=at' h j:=by
  intro j
  induction j using Nat.strongRecOn with
  |_ j ih=>
   intro hj;have h1:=a j hj λi hi=>ih i hi gV;have h2:=b j gV λi hi=>(ih i hi gV).symm
   lia
 refine List.ext_getElem hl λj h1 h2=>?_;have:=key j h2;unfold at' at this;rw[pL,jM,jM,cZ h1,cZ h2] at this;exact this
end
theorem Wa{k k2 m m2:Nat}(hk:k<=k2)(hm:m<=m2):cnt k m<=cnt k2 m2:=by
 have h1:∀m,cnt k m<=cnt k2 m:=by
  intro m
  induction m with
  |zero=>exact bQ _
  |succ m ih=>exact Nat.add_le_add_left (Nat.mul_le_mul hk ih) 1
 have h3:∀m,1<=cnt k2 m:=λm=>by cases m<;>unfold cnt<;>lia
 by_cases c:k2=0
 ·subst c;have:k=0:=by lia
  subst this;cases m<;>cases m2<;>simp[cnt]
 ·have h2:∀j,cnt k2 m<=cnt k2 (m+j):=by
   intro j
   induction j with
   |zero=>exact bQ _
   |succ j ih=>
    have:1*cnt k2 (m+j)<=k2*cnt k2 (m+j):=MP _ gV;show _<=1+k2*cnt k2 (m+j)
    lia
  have:=h2 (m2-m);rw[show m+(m2-m)=m2 by lia] at this;exact jW (h1 m) this
theorem zeC{k k2 m m2:Nat}(hk:k<=k2)(hm:m<=m2):tot k m<=tot k2 m2:=by
 have h1:∀m,tot k m<=tot k2 m:=by
  intro m
  induction m with
  |zero=>exact bQ _
  |succ m ih=>exact Nat.add_le_add (Nat.mul_le_mul hk (Wa hk (bQ _))) ih
 have h2:∀j,tot k2 m<=tot k2 (m+j):=by
  intro j
  induction j with
  |zero=>exact bQ _
  |succ j ih=>show _<=k2*cnt k2 (m+j)+tot k2 (m+j);lia
 have:=h2 (m2-m);rw[show m+(m2-m)=m2 by lia] at this;exact jW (h1 m) this
theorem WS.aug{aq:Nat->Nat->Bool}{aj:Bool}{F:Bool->Fn}{J:Vs}{s:S}{Q:Out->S->Prop}{i:Nat}{e:E}{p q:Int}(h1:J[i]?.join=some (.d (.int p)))(h2:dw aq e J=some (.d (.int q)))(h:Q (.nx (J.set i (some (.d (.int (p+q)))))) s):WS (ex aq aj F (.aug i e) J) s Q:=
 WS.ofM (W.bd (W.opt h1 (W.bd (W.eq (gC e _ h2) (W.bd (W.int (W.bd (W.int (W.ret (WS.nx h))))))))))
theorem zkM{a k:Int}(h:0<k):0<=a%k/\a%k<k:=⟨zE _ gV,Bc _ h⟩
noncomputable def o_(k m:Int)(hs:List Int):List Int:=hs.map λx=>(x+m)%k
section
variable {n k d m:Int}{ps:List (Int×Int)}{hs:List Int}
theorem zgy(w:Web n ps)(hd:1<=d)(hk:1<=k)(h:bM n k d ps hs):bM n k d ps (o_ k m hs) where
 len:=by unfold o_;rw[cR];exact h.len
 lo:=λx hx=>by
  obtain⟨y,_,rfl⟩:=nJ.mp hx;exact zkM gV
 fit:=λp hp=>by
  have ht:=w.tie p hp;have hl:=h.len;have a:=h.lo _ (K5 (fs:=hs) (j:=p.1) gV gV);have b:=h.lo _ (K5 (fs:=hs) (j:=p.2) gV gV);unfold o_;rw[GK gV gV,GK gV gV];have:=zfr (k:=k) hd m _ _ a.1 a.2 b.1 b.2;unfold dB at this;rw[v9] at this;exact this.mpr (h.fit p hp)
theorem ziT(h:bM n k d ps hs):rP k d ps hs=[]:=DY.mpr (o8.mpr h.fit)
theorem zkx:(GX k d ps hs).oH=decide (rP k d ps hs=[]):=by
 unfold GX;cases rP k d ps hs with
 |nil=>rfl
 |cons p r=>rfl
end
section
variable {n k d q:Int}{ps qs:List (Int×Int)}{hs:List Int}
theorem zgo(h1:1<=n)(hk:1<=k):bM n k d [] (List.replicate n.toNat 0):=⟨by simp;lia,λx hx=>by rw[List.eq_of_mem_replicate hx];lia,λp hp=>by cases hp⟩
end
theorem Wb{k t b:Int}(h:k*t=b)(h1 : -k<b)(h2:b<k):b=0:=by
 have hk:0<k:=by omega
 rcases Int.lt_trichotomy t 0 with c|c|c
 ·have:=zj (show t<=-1 by omega) (Int.le_of_lt hk);rw[Int.mul_neg,Br] at this;omega
 ·rw[c,Int.mul_zero] at h;omega
 ·have:=zj (show 1<=t by omega) (Int.le_of_lt hk);rw[Br] at this;omega
theorem zdm{k d k2 d2 a b:Int}(hd:1<=d)(lZ:d<=k)(D_:1<=k2)(hf:k*d2=d*k2+1)(hak:a<k)(hb:0<b)(hbk:b<k)(h1:d<=a-b)(h2:a-b<=k-d):d2<=a*k2/k-b*k2/k/\a*k2/k-b*k2/k<=k2-d2:=by
 have Ed:0<k:=by omega
 have e1:b*k2/k*k<=b*k2:=Int.ediv_mul_le _ (by omega);have e2:b*k2<(b*k2/k+1)*k:=Int.lt_ediv_add_one_mul_self _ Ed;generalize b*k2/k=q at e1 e2 ⊢;have f1:0<=(a-b-d)*k2:=Bm (by omega) (by omega);have f2:0<=(k-d-(a-b))*k2:=Bm (by omega) (by omega);rw[qM,qM] at f1;rw[qM,qM,qM] at f2;rw[wz,Fq] at e2;have hfb:k*(d2*b)=d*(b*k2)+b:=by rw[<-qL,hf,wz,Fq,qL,mD k2 b]
 have n1:q*k≠b*k2:=λe=>by
  have g:k*(d2*b-d*q)=b:=by
   rw[HJ,hfb,<-e,Bf k d q,mD k q];omega
  have:=Wb g (by omega) hbk;omega
 have g1:q+d2<=a*k2/k:=QK Ed (by rw[wz,mD d2 k];omega);have g2:a*k2/k<q+k2-d2+1:=MN Ed (by
  rw[wz,qM,wz,mD d2 k,mD k2 k,Fq];by_cases c:b*k2+1=q*k+k
  ·have g:k*(d2*b-d*(q+1))=b-d:=by
    have:d*(b*k2)+d=k*(d*(q+1)):=by
     rw[Bf k d,HN k,Br,mD k q,<-c,HN,Br]
    rw[HJ,hfb,<-this];omega
   have e:=Wb g (by omega) (by omega);have eb:b=d:=by omega
   subst eb;have f3:0<=(k-1-a)*k2:=Bm (by omega) (by omega);rw[qM,qM,Fq] at f3;omega
  ·omega)
 omega
section
variable {n k d k2 d2:Int}{ps:List (Int×Int)}{hs:List Int}
theorem ze4(w:Web n ps)(hh:bM n k d ps hs)(hd:1<=d)(lZ:d<=k)(D_:1<=k2)(hd2:1<=d2)(hf:k*d2=d*k2+1)(h0:∀x∈hs,x≠0):bM n k2 d2 ps (hs.map λx=>x*k2/k):=by
 have hl:=hh.len;refine⟨by rw[cR];exact hl,λx hx=>?_,λp hp=>?_⟩
 ·obtain⟨y,hy,rfl⟩:=nJ.mp hx;have:=hh.lo y hy;refine⟨Int.ediv_nonneg (Bm this.1 (by omega)) (by omega),MN (by omega) ?_⟩;rw[mD k2 k];exact Int.mul_lt_mul_of_pos_right this.2 (by omega)
 ·have ht:=w.tie p hp;rw[GK (by omega) (by omega),GK (by omega) (by omega)];have m1:=K5 (fs:=hs) (j:=p.1) (by omega) (by omega);have m2:=K5 (fs:=hs) (j:=p.2) (by omega) (by omega);have a1:=hh.lo _ m1;have a2:=hh.lo _ m2;have b1:=h0 _ m1;have b2:=h0 _ m2;rcases(rM hd).mp (hh.fit p hp) with ⟨a,b⟩|⟨a,b⟩
  ·exact(rM hd2).mpr (.inl (zdm hd lZ D_ hf (by omega) (by omega) (by omega) a b))
  ·exact(rM hd2).mpr (.inr (zdm hd lZ D_ hf (by omega) (by omega) (by omega) a b))
theorem spare:∀(m:Nat) (hs:List Int),hs.length<m->∃x:Int,0<=x/\x<m/\x∉hs
 |0,hs,h=>absurd h (Hx _)
 |m+1,hs,h=>by
  by_cases c:(m:Int)∈hs
  ·have hl:(hs.filter λx=>decide (x≠(m:Int))).length<hs.length:=by
    rcases Ht (Hj (λx=>decide (x≠(m:Int))) hs) with z|z
    ·exact z
    ·have:=List.length_filter_eq_length_iff.mp z _ c;simp at this
   obtain⟨x,h0,h1,h2⟩:=spare m (hs.filter λx=>decide (x≠(m:Int))) (by omega);refine⟨x,h0,by omega,λz=>h2 (pO.mpr ⟨z,gH (by omega)⟩)⟩
  ·exact⟨m,by omega,by omega,c⟩
theorem LC:∀(d:Nat) (k:Int),1<=d->(d:Int)<=k->(∃g k' d':Int,2<=g/\1<=d'/\k=g*k'/\(d:Int)=g*d')\/k=1\/∃k2 d2:Int,1<=k2/\k2<k/\1<=d2/\d2<=d/\k*d2=d*k2+1:=by
 intro d
 induction d using Nat.strongRecOn with
 |_ d ih=>
  intro k h1 hk;by_cases c1:d=1
  ·subst c1;by_cases c2:k=1
   ·exact .inr (.inl c2)
   ·exact .inr (.inr ⟨k-1,1,by omega,by omega,by omega,by omega,by omega⟩)
  ·have hd0:(0:Int)<d:=by omega
   have er:=Int.mul_ediv_add_emod k d;have r0:=zE k (b:=(d:Int)) (by omega);have r1:=Bc k hd0;have q1:1<=k/d:=QK hd0 (by omega);generalize k/(d:Int)=q at er q1;by_cases c3:k%(d:Int)=0
   ·exact .inl ⟨d,q,1,by omega,by omega,by rw[c3] at er;omega,by omega⟩
   ·obtain⟨r,hr⟩:=tR r0;rw[hr] at er r1 c3;rcases ih r (by omega) d (by omega) (by omega) with ⟨g,k',d',hg,xW,e1,e2⟩|z|⟨K2,D2,a1,a2,a3,a4,a5⟩
    ·refine .inl ⟨g,k'*q+d',k',hg,?_,?_,e1⟩
     ·refine xJ.mp λz=>?_;have:=zj (show k'<=0 by omega) (show 0<=g by omega);rw[Int.mul_zero] at this;omega
     ·rw[HN,<-qL,<-e1,<-e2];omega
    ·omega
    ·have e3:k*(d-K2)=d*(r-D2+q*(d-K2))+1:=by
      rw[<-er,wz,HN,HJ (d:Int) r D2,HJ (r:Int) d K2,a5,qL,mD (r:Int) d];omega
     have p1:1*1<=q*(d-K2):=Int.mul_le_mul q1 (by omega) (by omega) (by omega);refine .inr (.inr ⟨r-D2+q*(d-K2),d-K2,by omega,?_,by omega,by omega,e3⟩);refine Int.lt_of_mul_lt_mul_left (a:=(d:Int)) ?_ (by omega);have:k*(d-K2)<=k*d:=zj (by omega) (by omega);rw[mD (d:Int) k];omega
theorem ze5(w:Web n ps):∀(m:Nat) (d:Int) (hs:List Int),1<=d->d<=m->bM n m d ps hs->∃(k' d':Int) (h':List Int),1<=d'/\d'<=k'/\k'<=n/\k'*d<=m*d'/\bM n k' d' ps h':=by
 intro m;have hn:=w.h1
 induction m using Nat.strongRecOn with
 |_ m ih=>
  intro d hs hd PK hh;by_cases c:(m:Int)<=n
  ·exact⟨m,d,hs,hd,PK,c,Int.le_refl _,hh⟩
  obtain⟨dn,rfl⟩:=tR (show 0<=d by omega);rcases LC dn m (by omega) PK with ⟨g,k',d',hg,xW,e1,e2⟩|z|⟨k2,d2,a1,a2,a3,a4,a5⟩
  ·have GD:d'<=k':=Mz (a:=g) (by omega) (by omega);have cH:k'<m:=by
    have:=Aw hg (show 0<=k' by omega);omega
   have hm:=dz (k2:=k') (d2:=d') w hh (by omega) hd (by omega) xW (by
    rw[e1,e2,qL,Bf k' g d'];exact Int.le_refl _)
   obtain⟨kn,rfl⟩:=tR (show 0<=k' by omega);obtain⟨k3,d3,h3,b1,b2,b3,b4,b5⟩:=ih kn (by omega) d' _ xW GD hm;refine⟨k3,d3,h3,b1,b2,b3,?_,b5⟩;rw[e1,e2,Bf k3 g d',qL];exact zj b4 (by omega)
  ·omega
  ·have hl:=hh.len;obtain⟨x,x0,x1,x2⟩:=spare m hs (by omega);have ht:=zgy (m:=-x) w hd (by omega) hh;have hne:∀y∈o_ m (-x) hs,y≠0:=λy hy e=>by
    unfold o_ at hy;obtain⟨z,hz,rfl⟩:=nJ.mp hy;have hz2:=hh.lo z hz;obtain⟨t,ht⟩:=Int.dvd_of_emod_eq_zero e;have:=Wb ht.symm (by omega) (by omega);exact x2 (by rw[show x=z by omega];exact hz)
   have hm:=ze4 w ht hd PK a1 a3 a5 hne;have lZ:d2<=k2:=by
    refine xJ.mp λz=>?_;have p1:=zj (show k2+1<=d2 by omega) (show (0:Int)<=m by omega);have p2:=Aw PK (show 0<=k2 by omega);rw[HN,Br] at p1;omega
   obtain⟨kn,rfl⟩:=tR (show 0<=k2 by omega);obtain⟨k3,d3,h3,b1,b2,b3,b4,b5⟩:=ih kn (by omega) d2 _ a3 lZ hm;refine⟨k3,d3,h3,b1,b2,b3,?_,b5⟩;refine Mz (a:=d2) ?_ (by omega);have p1:=Aw b4 (show (0:Int)<=dn by omega);have p2:(dn:Int)*kn*d3<=m*d2*d3:=Aw (by omega) (by omega)
   calc d2*(k3*(dn:Int))=k3*d2*dn:=by rw[Bf,<-qL]
    _<=kn*d3*dn:=p1
    _=dn*kn*d3:=by rw[mD _ (dn:Int),<-qL]
    _<=m*d2*d3:=p2
    _=d2*(m*d3):=by rw[Bf,<-qL]
theorem zfY(hd:1<=d)(hh:bM n k d ps hs)(hk:k<2*d):ps=[]:=by
 cases ps with
 |nil=>rfl
 |cons p r=>
  have:=(rM hd).mp (hh.fit p lA);omega
noncomputable def LQ:List (Int×Int):=[(1,1),(2,1),(7,3),(5,2),(8,3),(3,1),(7,2),(4,1),(5,1),(6,1),(7,1),(8,1)]
noncomputable def fG(n:Int):List (Int×Int):=LQ.filter λr=>decide (r.1<=n)
theorem zkm(n:Int):(fG n).Pairwise λr q=>r.1*q.2<q.1*r.2:=List.Pairwise.filter _ Tc
theorem Ar{n:Int}{r:Int×Int}(h:r∈fG n):1<=r.2/\r.2<=r.1/\r.1<=n/\r.1<=8:=by
 obtain⟨a,b⟩:=pO.mp h;have key:∀r∈LQ,1<=r.2/\r.2<=r.1/\r.1<=8:=by decide
 have:=key r a;have:=jU b;omega
theorem zkQ{k d:Int}(hn:n<=8)(hk:k<=n)(hd:1<=d)(h2:2*d<=k):∃r∈fG n,r.1*d=k*r.2:=by
 have key:∀k∈([2,3,4,5,6,7,8]:List Int),∀d∈([1,2,3,4]:List Int),2*d<=k->∃r∈LQ,r.1<=k/\r.1*d=k*r.2:=by decide
 obtain⟨r,a,b,c⟩:=key k (by simp;omega) d (by simp;omega) h2;exact⟨r,pO.mpr ⟨a,gH (by omega)⟩,c⟩
theorem zjo(h1:1<=n):(1,1)∈fG n:=pO.mpr ⟨by decide,gH h1⟩
theorem zhZ(h1:1<=n)(h8:n<=8):(n,1)∈fG n:=by
 have:n=1\/n=2\/n=3\/n=4\/n=5\/n=6\/n=7\/n=8:=by omega
 rcases this with rfl|rfl|rfl|rfl|rfl|rfl|rfl|rfl<;>decide
structure Short(n:Int)(ps:List (Int×Int))(r:Int×Int):Prop where
 mem:r∈fG n
 Wc:∃hs,bM n r.1 r.2 ps hs
 least:∀(k d:Int) (hs:List Int),1<=d->d<=k->bM n k d ps hs->r.1*d<=k*r.2
theorem zdX(w:Web n ps)(hd:1<=d)(lZ:d<=k)(hh:bM n k d ps hs):∃r∈fG n,(∃h,bM n r.1 r.2 ps h)/\r.1*d<=k*r.2:=by
 have h1:=w.h1;have h8:=w.h8;obtain⟨m,rfl⟩:=tR (show 0<=k by omega);obtain⟨k',d',h',a1,a2,a3,a4,a5⟩:=ze5 w m d hs hd lZ hh;by_cases c:2*d'<=k'
 ·obtain⟨r,hr,e⟩:=zkQ (n:=n) h8 a3 a1 c;have hr2:=Ar hr;refine⟨r,hr,⟨_,dz w a5 (by omega) a1 (by omega) hr2.1 (by omega)⟩,?_⟩;refine Mz (a:=d') ?_ (by omega);have p:=Aw a4 (show 0<=r.2 by omega)
  calc d'*(r.1*d)=r.1*d'*d:=by rw[<-qL,mD d' r.1]
   _=k'*r.2*d:=by rw[e]
   _=k'*d*r.2:=by rw[Int.mul_right_comm]
   _<=m*d'*r.2:=p
   _=d'*(m*r.2):=by rw[mD (m:Int) d',qL]
 ·have e:=zfY a1 a5 (by omega);subst e;exact⟨(1,1),zjo h1,⟨_,zgo h1 Tc⟩,by dsimp only;omega⟩
def vY(n:Int)(ps:List (Int×Int))(r:Int×Int):Prop:=∃i:Nat,(fG n)[i]?=some r/\(∃hs,bM n r.1 r.2 ps hs)/\∀(j:Nat) q,j<i->(fG n)[j]?=some q->∀hs,¬bM n q.1 q.2 ps hs
theorem vY.mem{r:Int×Int}(f:vY n ps r):r∈fG n:=by
 obtain⟨i,e,_⟩:=f;exact eG e
theorem vY.uniq{r q:Int×Int}(a:vY n ps r)(b:vY n ps q):r=q:=by
 obtain⟨i,e1,⟨h1,V0⟩,n1⟩:=a;obtain⟨j,e2,⟨h2,hh2⟩,n2⟩:=b;rcases Nat.lt_trichotomy i j with z|z|z
 ·exact absurd V0 (n2 i r z e1 h1)
 ·subst z;rw[e1] at e2;exact cI e2
 ·exact absurd hh2 (n1 j q z e2 h2)
theorem vY.short(w:Web n ps){r:Int×Int}(f:vY n ps r):Short n ps r:=by
 obtain⟨i,hr,hh,gU⟩:=f;refine⟨eG hr,hh,λk d hs hd lZ h=>?_⟩;obtain⟨q,hq,⟨h',hh'⟩,e⟩:=zdX w hd lZ h;obtain⟨j,hj⟩:=List.getElem?_of_mem hq;have hq2:=Ar hq;have le:r.1*q.2<=q.1*r.2:=by
  rcases Nat.lt_trichotomy j i with z|z|z
  ·exact absurd hh' (gU j q z hj h')
  ·subst z;rw[hr] at hj;cases hj;exact Int.le_refl _
  ·obtain⟨hi,e1⟩:=dW.mp hr;obtain⟨VF,e2⟩:=dW.mp hj;have:=G_.mp (zkm n) i j hi VF z;rw[e1,e2] at this;omega
 refine Mz (a:=q.2) ?_ (by omega);have p1:=Aw le (show 0<=d by omega);have hr2:=Ar (eG hr);have p2:=Aw e (show 0<=r.2 by omega)
 calc q.2*(r.1*d)=r.1*q.2*d:=by rw[<-qL,mD q.2 r.1]
  _<=q.1*r.2*d:=p1
  _=q.1*d*r.2:=by rw[Int.mul_right_comm]
  _<=k*q.2*r.2:=p2
  _=q.2*(k*r.2):=by rw[mD k q.2,qL]
theorem Short.room{r:Int×Int}(s:Short n ps r)(w:Web n ps)(hd:1<=d)(lZ:d<=k):(∃hs,bM n k d ps hs)↔¬k*r.2<r.1*d:=by
 have hr:=Ar s.mem
 constructor
 ·rintro⟨hs,hh⟩;exact xJ.mpr (s.least k d hs hd lZ hh)
 ·intro h;obtain⟨h',hh⟩:=s.Wc;exact⟨_,dz w hh (by omega) hr.1 (by omega) hd (xJ.mp h)⟩
end
end Mi
namespace eF
open PySem Mi
noncomputable def b0:bZ:=(.cons (.ret (.and (.rm (.v 0) .int) (.not (.rm (.v 0) .bool)))) .nil)
noncomputable def b1:bZ:=(.cons (.ret (.and (.call 0 (Ea (.v 0))) (.zW .le .le (.v 1) (.v 0) (.v 2)))) .nil)
noncomputable def b2:bZ:=(.cons (.ret (.and (.rm (.v 0) .tuple) (.pr true .eq (Eb (.pr true .len (Ea (.v 0))) (.v 1))))) .nil)
noncomputable def b3:bZ:=(.cons (.iff (.not (.call 2 (Eb (.v 0) (Ci 2)))) (.cons (.ret (.c (.bl false))) .nil) .nil) (.cons (.asg (.tp [1,2]) (.v 0)) (.cons (.iff (.or (.not (.call 4 (Ea (.v 1)))) (.not (.rm (.v 2) .tuple))) (.cons (.ret (.c (.bl false))) .nil) .nil) (.cons (.iff (.not (.pr true .all (Ea (.comp true (.call 6 (Eb (.v 1) (.v 0))) [0] (.seq (.v 2)) [1] 1 .no)))) (.cons (.ret (.c (.bl false))) .nil) .nil) (.cons (.ret (.pr true .all (Ea (.comp true (.pr true .lt (Eb (.v 0) (.v 1))) [0,1] (.zip (.v 2) (.sl true (.v 2) (.yes (Ci 1)) .no)) [] 2 .no)))) .nil)))))
noncomputable def b4:bZ:=(.cons (.ret (.call 1 (Ec (.v 0) (Ci 1) (Ci 8)))) .nil)
noncomputable def b5:bZ:=(.cons (.ret (.call 1 (Ec (.v 1) (Ci 0) (.pr true .aq (Eb (.v 0) (Ci 1)))))) .nil)
noncomputable def b6:bZ:=(.cons (.iff (.not (.call 2 (Eb (.v 1) (Ci 2)))) (.cons (.ret (.c (.bl false))) .nil) .nil) (.cons (.asg (.tp [2,3]) (.v 1)) (.cons (.ret (.and (.call 5 (Eb (.v 0) (.v 2))) (.and (.call 5 (Eb (.v 0) (.v 3))) (.pr true .lt (Eb (.v 2) (.v 3)))))) .nil)))
noncomputable def b7:bZ:=(.cons (.iff (.not (.call 3 (Ea (.v 0)))) (.cons .no .nil) .nil) .nil)
noncomputable def b8:bZ:=(.cons (.asg (.nm 2) (.comp true (.ite (.pr true .eq (Eb (.v 0) (.v 2))) (.v 1) (.v 0)) [0,1] (.seq (Ei (.v 0) (Ci 1))) [1] 2 (.yes (.pr true .inn (Eb (.v 2) (.tup (Eb (.v 0) (.v 1)))))))) (.cons (.ret (.pr true .tuple (Ea (.pr true .sorted (Ea (.v 2)))))) .nil))
noncomputable def b9:bZ:=(.cons (.ret (.comp true (.call 8 (Eb (.v 1) (.v 0))) [0] (.rg (Ci 0) (Ei (.v 0) (Ci 0))) [0] 1 .no)) .nil)
noncomputable def b10:bZ:=(.cons (.ret (.tup (.cons (.call 9 (Ea (.v 1))) (Ec (.pr true .Gd (Ea (.pr true .len (Ea (.v 2))))) (.v 2) (.v 3))))) .nil)
noncomputable def Wd:bZ:=(.cons (.ret (Ei (Ei (.of (.v 0) 0 2) (.v 1)) (.v 2))) .nil)
noncomputable def Wf:bZ:=(.cons (.asg (.nm 4) (.pr false .list (Ea (.v 1)))) (.cons (.asg (.aq (.v 4) (.v 2)) (.c .non)) (.cons (.fr (.nm 5) (.seq (Ei (.of (.v 0) 0 0) (.v 2))) (.cons (.iff (.pr true .sH (Ea (Ei (.v 4) (.v 5)))) (.cons (.asg (.aq (.v 4) (.v 5)) (.pr true .tuple (Ea (.comp true (.v 0) [0] (.seq (Ei (.v 4) (.v 5))) [0,3] 1 (.yes (.cm 0 11 (.v 1) (Eb (.v 2) (.v 0)))))))) .nil) .nil) .nil)) (.cons (.ret (.pr true .tuple (Ea (.v 4)))) .nil))))
noncomputable def Wg:bZ:=(.cons (.ret (.pr true .len (Ea (.comp true (.v 0) [0] (.seq (Ei (.of (.v 0) 0 0) (.v 2))) [1] 1 (.yes (.pr true .sH (Ea (Ei (.v 1) (.v 0))))))))) .nil)
noncomputable def Wh:bZ:=(.cons (.ret (.pr true .tuple (Ea (.comp true (.ite (.pr true .gt (Eb (.cm 0 13 (.v 2) (Eb (.v 3) (.v 0))) (Ci 0))) (.v 1) (.c .non)) [0,1] (.enum (.v 1)) [0,1] 2 .no)))) .nil)
noncomputable def Wi:bZ:=(.cons (.asg (.nm 2) (.lst false .nil)) (.cons (.fr (.tp [3,4]) (.enum (.v 1)) (.cons (.iff (.pr true .sH (Ea (.v 4))) (.cons (.ex (.push (.v 2) (.tup (Ec (.pr true .len (Ea (.v 4))) (.pr true .neg (Ea (.cm 0 13 (.v 0) (Eb (.v 1) (.v 3))))) (.v 3))))) .nil) .nil) .nil)) (.cons (.ret (.ite (.Gf (.v 2)) (Ei (.pr true .sI (Ea (.v 2))) (Ci 2)) (.c .non))) .nil)))
noncomputable def Wj:bZ:=(.cons (.ret (.pr true .all (Ea (.comp true (.or (.pr true .wH (Ea (.v 0))) (.pr true .eq (Eb (.v 0) (.of (.v 1) 0 1)))) [0] (.seq (.v 1)) [0] 1 .no)))) .nil)
noncomputable def Wm:bZ:=(.cons (.asg (.tp [2,3]) (.v 1)) (.cons (.asg (.nm 4) (.comp true (.pr true .ge (Eb (.pr true .min2 (Eb (.v 0) (.pr true .aq (Eb (.v 1) (.v 0))))) (.v 2))) [0] (.rg (Ci 0) (.v 2)) [2,3] 1 .no)) (.cons (.ret (.mk 0 10 (Ec (.v 0) (.comp true (.comp true (Ei (.v 1) (.pr true .aq (Eb (.v 2) (.v 0)))) [0] (.rg (Ci 0) (.v 1)) [2,0] 1 .no) [0] (.rg (Ci 0) (.v 2)) [2,4] 1 .no) (.c (.bl true))))) .nil)))
noncomputable def Wn:bZ:=(.cons (.iff (.not (.call 2 (Eb (.v 0) (Ci 2)))) (.cons (.ret (.c (.bl false))) .nil) .nil) (.cons (.asg (.tp [1,2]) (.v 0)) (.cons (.ret (.and (.call 1 (Ec (.v 1) (Ci 1) (Ci 24))) (.call 1 (Ec (.v 2) (Ci 1) (.v 1))))) .nil)))
noncomputable def Wo:bZ:=(.cons (.ret (.call 1 (Ec (.v 1) (Ci 0) (.pr true .aq (Eb (Ei (.v 0) (Ci 0)) (Ci 1)))))) .nil)
noncomputable def Wq:bZ:=(.cons (.iff (.not (.call 18 (Ea (.v 0)))) (.cons .no .nil) .nil) .nil)
noncomputable def b21:bZ:=(.cons (.asg (.nm 3) (.pr true .abs (Ea (.pr true .aq (Eb (.v 1) (.v 2)))))) (.cons (.ret (.pr true .min2 (Eb (.v 3) (.pr true .aq (Eb (Ei (.v 0) (Ci 0)) (.v 3)))))) .nil))
noncomputable def Wr:bZ:=(.cons (.ret (.pr true .lt (Eb (.pr true .mul (Eb (Ei (.v 0) (Ci 0)) (Ei (.v 1) (Ci 1)))) (.pr true .mul (Eb (Ei (.v 1) (Ci 0)) (Ei (.v 0) (Ci 1))))))) .nil)
noncomputable def b23:bZ:=(.cons (.par 2 3 (.v 0) (.v 1)) (.cons (.wh (.pr true .gt (Eb (.v 3) (Ci 0))) (.cons (.par 2 3 (.v 3) (.pr true .mod (Eb (.v 2) (.v 3)))) .nil)) (.cons (.ret (.tup (Eb (.pr true .fdiv (Eb (.v 0) (.v 2))) (.pr true .fdiv (Eb (.v 1) (.v 2)))))) .nil)))
noncomputable def Ws:bZ:=(.cons (.ex (.call 7 (Ea (.v 0)))) (.cons (.ex (.call 20 (Ea (.v 1)))) (.cons (.ret (.call 26 (Ec (.v 0) (.v 1) (.v 2)))) .nil)))
noncomputable def Wt:bZ:=(.cons (.ret (.and (.call 2 (Eb (.v 2) (Ei (.v 0) (Ci 0)))) (.pr true .all (Ea (.comp true (.call 19 (Eb (.v 1) (.v 0))) [0] (.seq (.v 2)) [1] 1 .no))))) .nil)
noncomputable def PL:bZ:=(.cons (.ret (.and (.call 25 (Ec (.v 0) (.v 1) (.v 2))) (.pr true .wH (Ea (.call 28 (Ec (.v 0) (.v 1) (.v 2))))))) .nil)
noncomputable def Wu:bZ:=(.cons (.ex (.call 7 (Ea (.v 0)))) (.cons (.ex (.call 20 (Ea (.v 1)))) (.cons (.iff (.not (.call 26 (Ec (.v 0) (.v 1) (.v 2)))) (.cons .no .nil) .nil) .nil)))
noncomputable def PN:bZ:=(.cons (.fr (.tp [3,4]) (.seq (Ei (.v 0) (Ci 1))) (.cons (.iff (.pr true .lt (Eb (.call 21 (Ec (.v 1) (Ei (.v 2) (.v 3)) (Ei (.v 2) (.v 4)))) (Ei (.v 1) (Ci 1)))) (.cons (.ret (.tup (Eb (.v 3) (.v 4)))) .nil) .nil) .nil)) (.cons (.ret (.c .non)) .nil))
noncomputable def Wv:bZ:=(.cons (.ex (.call 7 (Ea (.v 0)))) (.cons (.ex (.call 20 (Ea (.v 1)))) (.cons (.asg (.nm 2) (.call 17 (Eb (.v 0) (.v 1)))) (.cons (.ret (.call 30 (Eb (.v 2) (.comp true (.of (.v 1) 0 1) [0] (.rg (Ci 0) (Ei (.v 0) (Ci 0))) [2] 1 .no)))) .nil))))
noncomputable def Ww:bZ:=(.cons (.asg (.nm 2) (.pr true .tuple (Ea (.v 1)))) (.cons (.asg (.nm 3) .sO) (.cons (.iff (.not (.call 32 (Ec (.v 0) (.v 3) (.v 2)))) (.cons (.ret (.c .non)) .nil) .nil) (.cons (.asg (.nm 4) (.lst false .nil)) (.cons (.fr (.nm 5) (.rg (Ci 0) (.pr true .len (Ea (.v 1)))) (.cons (.asg (.nm 6) (.call 31 (.cons (.v 0) (Ec (.v 3) (.v 2) (.v 5))))) (.cons (.asg (.nm 2) (.cm 0 12 (.v 0) (Ec (.v 2) (.v 5) (.v 6)))) (.cons (.ex (.push (.v 4) (.v 6))) .nil)))) (.cons (.ret (.pr true .tuple (Ea (.v 4)))) .nil))))))
noncomputable def PX:bZ:=(.cons (.fr (.nm 4) (.seq (Ei (.v 2) (.v 3))) (.cons (.iff (.call 32 (Ec (.v 0) (.v 1) (.cm 0 12 (.v 0) (Ec (.v 2) (.v 3) (.v 4))))) (.cons (.ret (.v 4)) .nil) .nil) .nil)) (.cons (.ret (.c .non)) .nil))
noncomputable def Wx:bZ:=(.cons (.iff (.pr true .inn (Eb (.tup .nil) (.v 2))) (.cons (.ret (.c (.bl false))) .nil) .nil) (.cons (.asg (.nm 3) (.cm 0 14 (.v 0) (Ea (.v 2)))) (.cons (.iff (.CK false (.v 3) (.v 1)) (.cons (.dput (.v 1) (.v 3) (.call 33 (Ec (.v 0) (.v 1) (.v 3)))) .nil) .nil) (.cons (.ret (.ql (.v 1) (.v 3))) .nil))))
noncomputable def LR:bZ:=(.cons (.asg (.nm 3) (.cm 0 15 (.v 0) (Ea (.v 2)))) (.cons (.iff (.pr true .wH (Ea (.v 3))) (.cons (.ret (.c (.bl true))) .nil) .nil) (.cons (.iff (.and (.of (.v 0) 0 3) (.cm 0 16 (.v 0) (Ea (.v 2)))) (.cons (.ret (.call 32 (Ec (.v 0) (.v 1) (.cm 0 12 (.v 0) (Ec (.v 2) (.v 3) (Ci 0)))))) .nil) .nil) (.cons (.ret (.pr true .sH (Ea (.call 31 (.cons (.v 0) (Ec (.v 1) (.v 2) (.v 3))))))) .nil))))
noncomputable def b34:bZ:=(.cons (.asg (.nm 1) (.pr true .min2 (Eb (.v 0) (Ci 24)))) (.cons (.asg (.nm 2) (.oG true (.tup (Eb (.v 0) (.v 1))) [0] (.rg (Ci 1) (.pr true .add (Eb (.v 1) (Ci 1)))) [1] (.rg (Ci 1) (.pr true .add (Eb (.v 0) (Ci 1)))) [] 2 (.yes (.call 38 (Eb (.v 0) (.v 1)))))) (.cons (.ret (.rz true (.v 2) (.pr true .fdiv (Eb (.pr true .mul (Eb (Ei (.v 0) (Ci 0)) (Ci 27720))) (Ei (.v 0) (Ci 1)))))) .nil)))
noncomputable def Wy:bZ:=(.cons (.ret (.pr true .sH (Ea (.call 29 (Eb (.v 0) (.v 1)))))) .nil)
noncomputable def Wz:bZ:=(.cons (.ex (.call 7 (Ea (.v 0)))) (.cons (.asg (.nm 1) (.call 34 (Ea (Ei (.v 0) (Ci 0))))) (.cons (.asg (.nm 2) (Ci 0)) (.cons (.wh (.not (.call 35 (Eb (.v 0) (Ei (.v 1) (.v 2))))) (.cons (.aug 2 (Ci 1)) .nil)) (.cons (.ret (Ei (.v 1) (.v 2))) .nil)))))
noncomputable def WD:bZ:=(.cons (.ret (.call 29 (Eb (.v 0) (.call 36 (Ea (.v 0)))))) .nil)
noncomputable def b38:bZ:=(.cons (.ret (.and (.pr true .eq (Eb (.call 23 (Eb (.v 0) (.v 1))) (.tup (Eb (.v 0) (.v 1))))) (.or (.pr true .eq (Eb (.v 0) (Ci 1))) (.pr true .ge (Eb (.v 0) (.pr true .mul (Eb (Ci 2) (.v 1)))))))) .nil)
noncomputable def WK:bZ:=(.cons (.ex (.call 27 (Ec (.v 0) (.v 1) (.v 2)))) (.cons (.ex (.call 20 (Ea (.v 3)))) (.cons (.iff (.call 22 (Eb (.v 3) (.v 1))) (.cons .no .nil) .nil) (.cons (.ret (.pr true .tuple (Ea (.comp true (.pr true .fdiv (Eb (.pr true .mul (Eb (.v 0) (Ei (.v 1) (Ci 0)))) (Ei (.v 2) (Ci 0)))) [0] (.seq (.v 2)) [3,1] 1 .no)))) .nil))))
noncomputable def WL:bZ:=(.cons (.iff (.pr true .lt (Eb (.v 1) (.pr true .len (Ea (.v 0))))) (.cons (.ret (Ei (.v 0) (.v 1))) .nil) .nil) (.cons (.ret (Ci 0)) .nil))
noncomputable def WM:bZ:=(.cons (.asg (.nm 1) (.pr true .max2 (Eb (.v 0) (.pr true .aq (Eb (Ci 0) (.v 0)))))) (.cons (.ret (.lst false (Eb (.v 1) (.pr true .yx (Ea (.pr true .ge (Eb (.v 1) (.pr true .pow (Eb (Ci 10) (Ci 18)))))))))) .nil))
noncomputable def WQ:bZ:=(.cons (.iff (.pr true .eq (Eb (Ei (.v 0) (Ci 1)) (Ci 1))) (.cons (.asg (.tp [2,3]) (.pr true .divmod (Eb (Ei (.v 0) (Ci 0)) (.v 1)))) (.cons (.asg (.aq (.v 0) (Ci 0)) (.v 2)) (.cons (.ret (.v 3)) .nil))) .nil) (.cons (.asg (.nm 4) (.pr true .mod (Eb (.pr true .mul (Eb (.pr true .add (Eb (.pr true .mod (Eb (Ei (.v 0) (Ci 0)) (Ci 2147483647))) (Ci 40503))) (Ci 69621))) (Ci 2147483629)))) (.cons (.asg (.nm 4) (.pr true .mod (Eb (.pr true .add (Eb (.pr true .mul (Eb (.v 4) (.v 4))) (Ci 7817))) (Ci 2147483587)))) (.cons (.asg (.aq (.v 0) (Ci 0)) (.pr true .mod (Eb (.pr true .add (Eb (.pr true .mul (Eb (.v 4) (Ci 48271))) (Ci 11))) (Ci 2147483629)))) (.cons (.ret (.pr true .mod (Eb (.pr true .fdiv (Eb (Ei (.v 0) (Ci 0)) (Ci 32))) (.v 1)))) .nil)))))
noncomputable def WR:bZ:=(.cons (.asg (.nm 2) (Ei (.lst true (Ec (Ci 2) (Ci 4) (Ci 6))) (.call 42 (Eb (.v 0) (Ci 3))))) (.cons (.asg (.nm 3) (.lst true .nil)) (.cons (.fr (.nm 4) (.rg (Ci 0) (.v 1)) (.cons (.asg (.nm 3) (.pr true .add (Eb (.v 3) (.comp true (.tup (Eb (.v 1) (.v 0))) [0] (.rg (.pr true .add (Eb (.v 4) (Ci 1))) (.v 1)) [4,0,2] 1 (.yes (.pr true .lt (Eb (.call 42 (Eb (.v 2) (Ci 8))) (.v 3)))))))) .nil)) (.cons (.ret (.tup (Eb (.v 1) (.pr true .tuple (Ea (.v 3)))))) .nil))))
noncomputable def WT:bZ:=(.cons (.asg (.nm 1) (.lst true (.cons (.tup (Eb (Ci 2) (Ci 1))) (.cons (.tup (Eb (Ci 3) (Ci 1))) (.cons (.tup (Eb (Ci 5) (Ci 2))) (.cons (.tup (Eb (Ci 4) (Ci 1))) (.cons (.tup (Eb (Ci 7) (Ci 3))) (.cons (.tup (Eb (Ci 7) (Ci 2))) (.cons (.tup (Eb (Ci 4) (Ci 2))) (.cons (.tup (Eb (Ci 6) (Ci 2))) (.cons (.tup (Eb (Ci 10) (Ci 4))) (Ec (.tup (Eb (Ci 5) (Ci 1))) (.tup (Eb (Ci 8) (Ci 3))) (.tup (Eb (Ci 3) (Ci 2))))))))))))))) (.cons (.iff (.pr true .eq (Eb (.call 42 (Eb (.v 0) (Ci 6))) (Ci 0))) (.cons (.asg (.nm 2) (.pr true .add (Eb (Ci 1) (.pr true .mod (Eb (.call 42 (Eb (.v 0) (Ci 24))) (Ci 10)))))) (.cons (.ret (.tup (Eb (.v 2) (.pr true .max2 (Eb (Ci 1) (.pr true .fdiv (Eb (.call 42 (Eb (.v 0) (.v 2))) (Ci 2)))))))) .nil)) .nil) (.cons (.ret (Ei (.v 1) (.call 42 (Eb (.v 0) (Ci 12))))) .nil)))
noncomputable def WW:bZ:=(.cons (.ret (.pr true .lt (Eb (.pr true .mul (Eb (Ei (.v 0) (Ci 0)) (Ei (.v 1) (Ci 1)))) (.pr true .mul (Eb (Ei (.v 1) (Ci 0)) (Ei (.v 0) (Ci 1))))))) .nil)
noncomputable def WX:bZ:=(.cons (.ret (Ei (.lst true (.cons (Ci 1) (.cons (Ci 2) (.cons (Ci 3) (.cons (Ci 4) (.cons (Ci 5) (.cons (Ci 5) (.cons (Ci 6) (.cons (Ci 4) (.cons (Ci 5) (Ec (Ci 6) (Ci 3) (Ci 7)))))))))))) (.call 42 (Eb (.v 0) (Ci 12))))) .nil)
noncomputable def WY:bZ:=(.cons (.asg (.nm 1) (.call 42 (Eb (.v 0) (Ci 4)))) (.cons (.asg (.nm 2) (.pr true .add (Eb (Ci 3) (.call 42 (Eb (.v 0) (Ci 5)))))) (.cons (.asg (.nm 3) (.pr true .add (Eb (.comp true (.tup (Eb (.v 0) (.pr true .add (Eb (.v 0) (Ci 1))))) [0] (.rg (Ci 0) (.pr true .aq (Eb (.v 2) (Ci 1)))) [] 1 .no) (.lst true (Ea (.tup (Eb (Ci 0) (.pr true .aq (Eb (.v 2) (Ci 1)))))))))) (.cons (.iff (.pr true .eq (Eb (.v 1) (Ci 1))) (.cons (.asg (.nm 2) (.pr true .add (Eb (Ci 2) (.call 42 (Eb (.v 0) (Ci 4)))))) (.cons (.asg (.nm 3) (.lst true .nil)) (.cons (.fr (.nm 4) (.rg (Ci 0) (.v 2)) (.cons (.asg (.nm 3) (.pr true .add (Eb (.v 3) (.comp true (.tup (Eb (.v 1) (.v 0))) [0] (.rg (.pr true .add (Eb (.v 4) (Ci 1))) (.v 2)) [4] 1 .no)))) .nil)) .nil))) .nil) (.cons (.iff (.and (.pr true .eq (Eb (.v 1) (Ci 2))) (.pr true .lt (Eb (.v 2) (Ci 7)))) (.cons (.asg (.nm 3) (.pr true .add (Eb (.v 3) (.comp true (.tup (Eb (.v 0) (.v 1))) [0] (.rg (Ci 0) (.v 2)) [2] 1 .no)))) (.cons (.asg (.nm 2) (.pr true .add (Eb (.v 2) (Ci 1)))) .nil)) .nil) (.cons (.iff (.pr true .eq (Eb (.v 1) (Ci 3))) (.cons (.ret (.call 43 (Eb (.v 0) (.call 46 (Ea (.v 0)))))) .nil) .nil) (.cons (.ret (.tup (Eb (.v 2) (.pr true .tuple (Ea (.pr true .sorted (Ea (.v 3)))))))) .nil)))))))
noncomputable def W0:bZ:=(.cons (.iff (.and (.pr true .gt (Eb (Ei (.v 0) (Ci 0)) (Ci 5))) (.pr true .gt (Eb (Ei (.v 1) (Ci 0)) (Ci 7)))) (.cons (.asg (.nm 1) (.tup (Eb (Ci 7) (Ci 2)))) .nil) .nil) (.cons (.iff (.and (.pr true .gt (Eb (Ei (.v 0) (Ci 0)) (Ci 5))) (.pr true .gt (Eb (Ei (.v 2) (Ci 0)) (Ci 7)))) (.cons (.asg (.nm 2) (.tup (Eb (Ci 7) (Ci 2)))) .nil) .nil) (.cons (.par 3 4 (.call 36 (Ea (.v 0))) (.call 37 (Ea (.v 0)))) (.cons (.asg (.nm 5) (.call 35 (Eb (.v 0) (.v 1)))) (.cons (.iff (.or (.pr true .ne (Eb (.v 5) (.pr true .sH (Ea (.call 29 (Eb (.v 0) (.v 1))))))) (.and (.pr true .ne (Eb (Ei (.v 0) (Ci 1)) (.tup .nil))) (.pr true .eq (Eb (.v 5) (.call 45 (Eb (.v 1) (.v 3))))))) (.cons (.ret (.c (.bl false))) .nil) .nil) (.cons (.iff (.and (.v 5) (.and (.not (.call 45 (Eb (.v 2) (.v 1)))) (.not (.call 35 (Eb (.v 0) (.v 2)))))) (.cons (.ret (.c (.bl false))) .nil) .nil) (.cons (.iff (.or (.not (.call 24 (Ec (.v 0) (.v 3) (.v 4)))) (.pr true .ne (Eb (.call 29 (Eb (.v 0) (.v 3))) (.v 4)))) (.cons (.ret (.c (.bl false))) .nil) .nil) (.cons (.iff (.and (.v 5) (.not (.call 45 (Eb (.v 1) (.v 3))))) (.cons (.iff (.not (.call 24 (Ec (.v 0) (.v 1) (.call 39 (.cons (.v 0) (Ec (.v 3) (.v 4) (.v 1))))))) (.cons (.ret (.c (.bl false))) .nil) .nil) .nil) .nil) (.cons (.iff (.and (.pr true .lt (Eb (Ei (.v 0) (Ci 0)) (Ci 6))) (.and (.pr true .lt (Eb (Ei (.v 1) (Ci 0)) (Ci 13))) (.and (.pr true .lt (Eb (Ei (.v 1) (Ci 1)) (Ci 13))) (.pr true .ne (Eb (.call 35 (Eb (.v 0) (.tup (Eb (.pr true .mul (Eb (Ci 2) (Ei (.v 1) (Ci 0)))) (.pr true .mul (Eb (Ci 2) (Ei (.v 1) (Ci 1)))))))) (.v 5)))))) (.cons (.ret (.c (.bl false))) .nil) .nil) (.cons (.asg (.nm 6) (.comp true (.v 0) [0] (.seq (.call 34 (Ea (.pr true .max2 (Eb (Ci 2) (Ei (.v 0) (Ci 0))))))) [0] 1 (.yes (.call 35 (Eb (.v 1) (.v 0)))))) (.cons (.ret (.and (.pr true .eq (Eb (Ei (.v 6) (Ci 0)) (.v 3))) (.pr true .eq (Eb (Ei (Ei (.call 34 (Ea (Ei (.v 0) (Ci 0)))) (.pr true .neg (Ea (Ci 1)))) (Ci 1)) (Ci 1))))) .nil)))))))))))
noncomputable def W2:bZ:=(.cons (.fr (.nm 1) (.seq (.pr true .add (Eb (.lst true (Ea (.call 40 (Eb (.v 0) (Ci 0))))) (.sl true (.v 0) (.yes (Ci 1)) (.yes (Ci 3)))))) (.cons (.asg (.nm 2) (.call 41 (Ea (.v 1)))) (.cons (.asg (.nm 3) (.call 47 (Ea (.v 2)))) (.cons (.fr (.nm 4) (.rg (Ci 0) (Ci 2)) (.cons (.iff (.not (.call 48 (Ec (.v 3) (.call 44 (Ea (.v 2))) (.call 44 (Ea (.v 2)))))) (.cons (.ret (.c (.bl false))) .nil) .nil) .nil)) (.cons (.iff (.not (.call 48 (Ec (.tup (Eb (Ei (.v 3) (Ci 0)) (.tup .nil))) (.call 44 (Ea (.v 2))) (.call 44 (Ea (.v 2)))))) (.cons (.ret (.c (.bl false))) .nil) .nil) .nil))))) (.cons (.ret (.c (.bl true))) .nil))
noncomputable def T(n:Nat):Option Df:=([⟨1,1,b0⟩,⟨3,3,b1⟩,⟨2,2,b2⟩,⟨3,1,b3⟩,⟨1,1,b4⟩,⟨2,2,b5⟩,⟨4,2,b6⟩,⟨1,1,b7⟩,⟨3,2,b8⟩,⟨1,1,b9⟩,⟨4,4,b10⟩,⟨3,3,Wd⟩,⟨6,4,Wf⟩,⟨3,3,Wg⟩,⟨2,2,Wh⟩,⟨5,2,Wi⟩,⟨2,2,Wj⟩,⟨5,2,Wm⟩,⟨3,1,Wn⟩,⟨2,2,Wo⟩,⟨1,1,Wq⟩,⟨4,3,b21⟩,⟨2,2,Wr⟩,⟨4,2,b23⟩,⟨3,3,Ws⟩,⟨3,3,Wt⟩,⟨3,3,PL⟩,⟨3,3,Wu⟩,⟨5,3,PN⟩,⟨3,2,Wv⟩,⟨7,2,Ww⟩,⟨5,4,PX⟩,⟨4,3,Wx⟩,⟨4,3,LR⟩,⟨3,1,b34⟩,⟨2,2,Wy⟩,⟨3,1,Wz⟩,⟨1,1,WD⟩,⟨2,2,b38⟩,⟨4,4,WK⟩,⟨2,2,WL⟩,⟨2,1,WM⟩,⟨5,2,WQ⟩,⟨5,2,WR⟩,⟨3,1,WT⟩,⟨2,2,WW⟩,⟨1,1,WX⟩,⟨5,1,WY⟩,⟨7,3,W0⟩,⟨5,1,W2⟩]:List Df)[n]?
theorem T_0:T 0=some ⟨1,1,b0⟩:=rfl
theorem T_1:T 1=some ⟨3,3,b1⟩:=rfl
theorem T_2:T 2=some ⟨2,2,b2⟩:=rfl
theorem T_3:T 3=some ⟨3,1,b3⟩:=rfl
theorem T_4:T 4=some ⟨1,1,b4⟩:=rfl
theorem T_5:T 5=some ⟨2,2,b5⟩:=rfl
theorem T_6:T 6=some ⟨4,2,b6⟩:=rfl
theorem T_7:T 7=some ⟨1,1,b7⟩:=rfl
theorem T_8:T 8=some ⟨3,2,b8⟩:=rfl
theorem T_9:T 9=some ⟨1,1,b9⟩:=rfl
theorem zol:T 10=some ⟨4,4,b10⟩:=rfl
theorem zof:T 11=some ⟨3,3,Wd⟩:=rfl
theorem zog:T 12=some ⟨6,4,Wf⟩:=rfl
theorem zoC:T 13=some ⟨3,3,Wg⟩:=rfl
theorem zoq:T 14=some ⟨2,2,Wh⟩:=rfl
theorem zoc:T 15=some ⟨5,2,Wi⟩:=rfl
theorem zoo:T 16=some ⟨2,2,Wj⟩:=rfl
theorem zoh:T 17=some ⟨5,2,Wm⟩:=rfl
theorem zov:T 18=some ⟨3,1,Wn⟩:=rfl
theorem zoy:T 19=some ⟨2,2,Wo⟩:=rfl
theorem zoB:T 20=some ⟨1,1,Wq⟩:=rfl
theorem zoU:T 21=some ⟨4,3,b21⟩:=rfl
theorem zok:T 22=some ⟨2,2,Wr⟩:=rfl
theorem zoP:T 23=some ⟨4,2,b23⟩:=rfl
theorem zoA:T 24=some ⟨3,3,Ws⟩:=rfl
theorem zoz:T 25=some ⟨3,3,Wt⟩:=rfl
theorem W3:T 26=some ⟨3,3,PL⟩:=rfl
theorem zow:T 27=some ⟨3,3,Wu⟩:=rfl
theorem W4:T 28=some ⟨5,3,PN⟩:=rfl
theorem zn8:T 29=some ⟨3,2,Wv⟩:=rfl
theorem zox:T 30=some ⟨7,2,Ww⟩:=rfl
theorem W5:T 31=some ⟨5,4,PX⟩:=rfl
theorem zoI:T 32=some ⟨4,3,Wx⟩:=rfl
theorem P0:T 33=some ⟨4,3,LR⟩:=rfl
theorem zoO:T 34=some ⟨3,1,b34⟩:=rfl
theorem zoa:T 35=some ⟨2,2,Wy⟩:=rfl
theorem zoK:T 36=some ⟨3,1,Wz⟩:=rfl
theorem zop:T 37=some ⟨1,1,WD⟩:=rfl
theorem zoN:T 38=some ⟨2,2,b38⟩:=rfl
theorem zob:T 39=some ⟨4,4,WK⟩:=rfl
theorem zoH:T 40=some ⟨2,2,WL⟩:=rfl
theorem zoJ:T 41=some ⟨2,1,WM⟩:=rfl
theorem zor:T 42=some ⟨5,2,WQ⟩:=rfl
theorem zot:T 43=some ⟨5,2,WR⟩:=rfl
theorem zoL:T 44=some ⟨3,1,WT⟩:=rfl
theorem zod:T 45=some ⟨2,2,WW⟩:=rfl
theorem zoM:T 46=some ⟨1,1,WX⟩:=rfl
theorem zoG:T 47=some ⟨5,1,WY⟩:=rfl
theorem zou:T 48=some ⟨7,3,W0⟩:=rfl
theorem zoi:T 49=some ⟨5,1,W2⟩:=rfl
noncomputable def aq:Nat->Nat->Bool:=λc e=>(let n:=λc=>if c<0 then c else 0;n e==0||n c==n e)
end eF
namespace eF
open PySem PySem.Spec PyProof.Rows L2 Mi
abbrev LK(i:Nat)(x:Str)(k:NameKind):Prop:=(au (top i)).names.lookup x=some k
noncomputable abbrev gI:NameKind:=.globalImplicit
abbrev N3:List Str:=["thing","many","ties"]
abbrev N8:List Str:=["web","place","ends"]
abbrev N9:List Str:=["web"]
abbrev N12:List Str:=["self","free","place","spot","left","end"]
abbrev N13:List Str:=["self","free","place"]
abbrev N14:List Str:=["self","free"]
abbrev N16:List Str:=["self","free"]
abbrev W6:List Str:=["web","ring","k","d","wide"]
abbrev N25:List Str:=["web","ring","thing"]
abbrev N29:List Str:=["web","ring","board"]
abbrev N34:List Str:=["most","limit","rings"]
abbrev N39:List Str:=["web","ring","hues","other"]
abbrev N43:List Str:=["_law_pen_here","_law_many","_law_often","_law_ties","_law_one"]
abbrev P_:List Str:=["_law_pen_here","_law_way","_law_many","_law_ties","_law_one"]
abbrev N48:List Str:=["_law_web_here","_law_ring_here","_law_other","_law_short","_law_hues","_law_fits_here","_law_some"]
noncomputable def cl(K:W.Frag):Cl:=⟨iW (lk.L K),λ_=>[],λ_=>dX K "Board",λ_=>["ends","spots","apart","alike"]⟩
structure Top(K:W.Frag)(mg:Str->Option Value):Prop where
 d0:D3 K mg "is_whole" (top 7) ["thing"]
 d1:D3 K mg "is_within" (top 8) ["thing","least","most"]
 d2:D3 K mg "is_row" (top 9) ["thing","many"]
 d3:D3 K mg "is_web" (top 12) ["thing"]
 d4:D3 K mg "is_many" (top 13) ["thing"]
 d5:D3 K mg "is_place" (top 14) ["many","thing"]
 d6:D3 K mg "is_tie" (top 15) ["many","thing"]
 d7:D3 K mg "check_web" (top 16) ["thing"]
 d8:D3 K mg "tied_to" (top 17) ["web","place"]
 d9:D3 K mg "all_ends" (top 18) ["web"]
 W7:D3 K mg "ring_board" (top 21) ["web","ring"]
 W8:D3 K mg "is_ring" (top 24) ["thing"]
 W9:D3 K mg "is_spot" (top 25) ["ring","thing"]
 G4:D3 K mg "check_ring" (top 26) ["thing"]
 W_:D3 K mg "gap_of" (top 27) ["ring","one","other"]
 Xa:D3 K mg "is_shorter" (top 28) ["one","other"]
 Xb:D3 K mg "lowest_terms" (top 29) ["top","bottom"]
 Qa:D3 K mg "hues_hold" (top 31) ["web","ring","thing"]
 Xc:D3 K mg "are_spots" (top 32) ["web","ring","thing"]
 Qc:D3 K mg "are_hues" (top 33) ["web","ring","thing"]
 Xd:D3 K mg "check_hues" (top 34) ["web","ring","thing"]
 Xe:D3 K mg "clash_of" (top 35) ["web","ring","spots"]
 G5:D3 K mg "first_hues" (top 37) ["web","ring"]
 Xf:D3 K mg "first_among" (top 38) ["board","choices"]
 Qd:D3 K mg "first_spot" (top 39) ["board","answers","free","place"]
 L_:D3 K mg "can_settle" (top 40) ["board","answers","free"]
 Xg:D3 K mg "search" (top 41) ["board","answers","free"]
 Ma:D3 K mg "plain_rings" (top 44) ["most"]
 Ej:D3 K mg "has_room" (top 45) ["web","ring"]
 Qe:D3 K mg "shortest" (top 46) ["web"]
 Xh:D3 K mg "shortest_hues" (top 47) ["web"]
 Xi:D3 K mg "is_plain" (top 48) ["k","d"]
 Xj:D3 K mg "moved_hues" (top 50) ["web","ring","hues","other"]
 Xk:D3 K mg "_law_cell" (top 52) ["_law_script","_law_k"]
 Xl:D3 K mg "_law_pen" (top 53) ["_law_cell_here"]
 uc:D3 K mg "_law_draw" (top 54) ["_law_pen_here","_law_many"]
 Xm:D3 K mg "_law_web" (top 55) ["_law_pen_here","_law_many"]
 G6:D3 K mg "_law_ring" (top 56) ["_law_pen_here"]
 Mf:D3 K mg "_law_shorter" (top 57) ["_law_one","_law_other"]
 Xn:D3 K mg "_law_few" (top 58) ["_law_pen_here"]
 Xo:D3 K mg "_law_known" (top 59) ["_law_pen_here"]
 Qf:D3 K mg "_law_right" (top 60) ["_law_web_here","_law_ring_here","_law_other"]
 Qg:D3 K mg "law" (top 61) ["_law_script"]
 g_:∃t,mg "MOST_PLACES"=some (.int 8 t)
 eZ:∃t,mg "MOST_SPOTS"=some (.int 24 t)
 k_:∃t,mg "SO_OFTEN"=some (.int 27720 t)
 z12:mg "abs"=none
 z6:mg "all"=none
 z2:mg "bool"=none
 z14:mg "divmod"=none
 Xp:mg "enumerate"=none
 z1:mg "int"=none
 z0:mg "isinstance"=none
 z4:mg "len"=none
 z9:mg "list"=none
 Qh:mg "max"=none
 Mg:mg "min"=none
 z8:mg "range"=none
 z7:mg "sorted"=none
 z3:mg "tuple"=none
 z5:mg "zip"=none
 ow:Ow K (cl K) 0
 mq:Mk K ((cl K).b 0) (iD K ((cl K).b 0) "__init__")
 mc:mg "Board"=some (.ref ((cl K).b 0))
 Xq:Mt K ((cl K).b 0) "__init__" "Board.__init__" Fy ["self","web","apart","alike"] (iD K ((cl K).b 0) "__init__") (jL K ((cl K).b 0) "__init__" Fy)
 Xr:Mt K ((cl K).b 0) "far_apart" "Board.far_apart" Ie ["self","spot","other"] (iD K ((cl K).b 0) "far_apart") (jL K ((cl K).b 0) "far_apart" Ie)
 Mh:Mt K ((cl K).b 0) "settled" "Board.settled" Fz ["self","free","place","spot"] (iD K ((cl K).b 0) "settled") (jL K ((cl K).b 0) "settled" Fz)
 Qi:Mt K ((cl K).b 0) "ties_left" "Board.ties_left" FJ ["self","free","place"] (iD K ((cl K).b 0) "ties_left") (jL K ((cl K).b 0) "ties_left" FJ)
 Xu:Mt K ((cl K).b 0) "bound" "Board.bound" FN ["self","free"] (iD K ((cl K).b 0) "bound") (jL K ((cl K).b 0) "bound" FN)
 Xw:Mt K ((cl K).b 0) "narrowest" "Board.narrowest" Ig ["self","free"] (iD K ((cl K).b 0) "narrowest") (jL K ((cl K).b 0) "narrowest" Ig)
 Xx:Mt K ((cl K).b 0) "all_free" "Board.all_free" FP ["self","free"] (iD K ((cl K).b 0) "all_free") (jL K ((cl K).b 0) "all_free" FP)
 lam:DW K mg (fdOf K "plain_rings" (top 44))
theorem zmn{K:W.Frag}{h:Heap}{mg:Str->Option Value}(Sb:rO fs ms xs lk bd K)(LH:kZ K h)(X:K.In h)(G:h.Ns mainGlobals mg):Top K mg where
 d0:=qD Sb.i X G 0
 d1:=wU Sb.i X G 1
 d2:=pJ Sb.i X G 2
 d3:=qD Sb.i X G 3
 d4:=qD Sb.i X G 4
 d5:=pJ Sb.i X G 5
 d6:=pJ Sb.i X G 6
 d7:=qD Sb.i X G 7
 d8:=pJ Sb.i X G 8
 d9:=qD Sb.i X G 9
 W7:=pJ Sb.i X G 10
 W8:=qD Sb.i X G 11
 W9:=pJ Sb.i X G 12
 G4:=qD Sb.i X G 13
 W_:=wU Sb.i X G 14
 Xa:=pJ Sb.i X G 15
 Xb:=pJ Sb.i X G 16
 Qa:=wU Sb.i X G 17
 Xc:=wU Sb.i X G 18
 Qc:=wU Sb.i X G 19
 Xd:=wU Sb.i X G 20
 Xe:=wU Sb.i X G 21
 G5:=pJ Sb.i X G 22
 Xf:=pJ Sb.i X G 23
 Qd:=zn9 Sb.i X G 24
 L_:=wU Sb.i X G 25
 Xg:=wU Sb.i X G 26
 Ma:=qD Sb.i X G 27
 Ej:=pJ Sb.i X G 28
 Qe:=qD Sb.i X G 29
 Xh:=qD Sb.i X G 30
 Xi:=pJ Sb.i X G 31
 Xj:=zn9 Sb.i X G 32
 Xk:=pJ Sb.i X G 33
 Xl:=qD Sb.i X G 34
 uc:=pJ Sb.i X G 35
 Xm:=pJ Sb.i X G 36
 G6:=qD Sb.i X G 37
 Mf:=pJ Sb.i X G 38
 Xn:=qD Sb.i X G 39
 Xo:=qD Sb.i X G 40
 Qf:=wU Sb.i X G 41
 Qg:=qD Sb.i X G 42
 g_:=Vc (Sb.i.gd.it ("MOST_PLACES",8) (mG 0)) X G
 eZ:=Vc (Sb.i.gd.it ("MOST_SPOTS",24) (mG 1)) X G
 k_:=Vc (Sb.i.gd.it ("SO_OFTEN",27720) (mG 2)) X G
 z12:=qC (Sb.i.gd.no "abs" (mG 0)) X G
 z6:=qC (Sb.i.gd.no "all" (mG 1)) X G
 z2:=qC (Sb.i.gd.no "bool" (mG 2)) X G
 z14:=qC (Sb.i.gd.no "divmod" (mG 3)) X G
 Xp:=qC (Sb.i.gd.no "enumerate" (mG 4)) X G
 z1:=qC (Sb.i.gd.no "int" (mG 5)) X G
 z0:=qC (Sb.i.gd.no "isinstance" (mG 6)) X G
 z4:=qC (Sb.i.gd.no "len" (mG 7)) X G
 z9:=qC (Sb.i.gd.no "list" (mG 8)) X G
 Qh:=qC (Sb.i.gd.no "max" (mG 9)) X G
 Mg:=qC (Sb.i.gd.no "min" (mG 10)) X G
 z8:=qC (Sb.i.gd.no "range" (mG 11)) X G
 z7:=qC (Sb.i.gd.no "sorted" (mG 12)) X G
 z3:=qC (Sb.i.gd.no "tuple" (mG 13)) X G
 z5:=qC (Sb.i.gd.no "zip" (mG 14)) X G
 ow:=zm4 Sb.b rfl rfl Dc
 mq:=znH Sb.b (Sb.m ("__init__","Board.__init__",Fy) (mG 0)).2
 mc:=znA Sb.b X G
 Xq:=zon (Sb.m ("__init__","Board.__init__",Fy) (mG 0))
 Xr:=zom (Sb.m ("far_apart","Board.far_apart",Ie) (mG 1))
 Mh:=zon (Sb.m ("settled","Board.settled",Fz) (mG 2))
 Qi:=zom (Sb.m ("ties_left","Board.ties_left",FJ) (mG 3))
 Xu:=V3 (Sb.m ("bound","Board.bound",FN) (mG 4))
 Xw:=V3 (Sb.m ("narrowest","Board.narrowest",Ig) (mG 5))
 Xx:=V3 (Sb.m ("all_free","Board.all_free",FP) (mG 6))
 lam:=LH.lk X G (top 44)
abbrev FO(P:Program)(w:World)(K:W.Frag)(mg:Str->Option Value)(base:Heap)(k:Nat)(c:Bool)(x:Str)(i:Nat)(ps:List Str)(n:Nat):Prop:=cB P w K mg base (fB P w) c k (fQ K x) (fdOf K x (top i)) ps (lG K (cl K) (call aq T k c n))
abbrev FM(P:Program)(w:World)(K:W.Frag)(mg:Str->Option Value)(base:Heap)(k:Nat)(m:Str)(st:Stmt)(ps:List Str)(sp:Sp):Prop:=cB P w K mg base (fB P w) true k (iD K ((cl K).b 0) m) (jL K ((cl K).b 0) m st) ps sp
structure Fs(P:Program)(w:World)(K:W.Frag)(mg:Str->Option Value)(base:Heap)(k:Nat):Prop where
 t0:FO P w K mg base k true "is_whole" 7 ["thing"] 0
 t1:FO P w K mg base k true "is_within" 8 ["thing","least","most"] 1
 t2:FO P w K mg base k true "is_row" 9 ["thing","many"] 2
 t3:FO P w K mg base k true "is_web" 12 ["thing"] 3
 t4:FO P w K mg base k true "is_many" 13 ["thing"] 4
 t5:FO P w K mg base k true "is_place" 14 ["many","thing"] 5
 t6:FO P w K mg base k true "is_tie" 15 ["many","thing"] 6
 t7:FO P w K mg base k true "check_web" 16 ["thing"] 7
 t8:FO P w K mg base k true "tied_to" 17 ["web","place"] 8
 t9:FO P w K mg base k true "all_ends" 18 ["web"] 9
 t10:FM P w K mg base k "__init__" Fy ["self","web","apart","alike"] (Pn K (cl K) 0 (call aq T k true 10))
 t11:FM P w K mg base k "far_apart" Ie ["self","spot","other"] (lG K (cl K) (call aq T k true 11))
 Qj:FM P w K mg base k "settled" Fz ["self","free","place","spot"] (lG K (cl K) (call aq T k true 12))
 Xy:FM P w K mg base k "ties_left" FJ ["self","free","place"] (lG K (cl K) (call aq T k true 13))
 t14:FM P w K mg base k "bound" FN ["self","free"] (lG K (cl K) (call aq T k true 14))
 t15:FM P w K mg base k "narrowest" Ig ["self","free"] (lG K (cl K) (call aq T k true 15))
 t16:FM P w K mg base k "all_free" FP ["self","free"] (lG K (cl K) (call aq T k true 16))
 t17:FO P w K mg base k true "ring_board" 21 ["web","ring"] 17
 t18:FO P w K mg base k true "is_ring" 24 ["thing"] 18
 t19:FO P w K mg base k true "is_spot" 25 ["ring","thing"] 19
 Mj:FO P w K mg base k true "check_ring" 26 ["thing"] 20
 t21:FO P w K mg base k true "gap_of" 27 ["ring","one","other"] 21
 t22:FO P w K mg base k true "is_shorter" 28 ["one","other"] 22
 t23:FO P w K mg base k true "lowest_terms" 29 ["top","bottom"] 23
 Xz:FO P w K mg base k true "hues_hold" 31 ["web","ring","thing"] 24
 t25:FO P w K mg base k true "are_spots" 32 ["web","ring","thing"] 25
 XD:FO P w K mg base k true "are_hues" 33 ["web","ring","thing"] 26
 t27:FO P w K mg base k true "check_hues" 34 ["web","ring","thing"] 27
 t28:FO P w K mg base k true "clash_of" 35 ["web","ring","spots"] 28
 Ml:FO P w K mg base k true "first_hues" 37 ["web","ring"] 29
 t30:FO P w K mg base k true "first_among" 38 ["board","choices"] 30
 XH:FO P w K mg base k true "first_spot" 39 ["board","answers","free","place"] 31
 Qk:FO P w K mg base k true "can_settle" 40 ["board","answers","free"] 32
 t33:FO P w K mg base k true "search" 41 ["board","answers","free"] 33
 Ql:FO P w K mg base k true "plain_rings" 44 ["most"] 34
 G7:FO P w K mg base k true "has_room" 45 ["web","ring"] 35
 XJ:FO P w K mg base k true "shortest" 46 ["web"] 36
 t37:FO P w K mg base k true "shortest_hues" 47 ["web"] 37
 t38:FO P w K mg base k true "is_plain" 48 ["k","d"] 38
 t39:FO P w K mg base k true "moved_hues" 50 ["web","ring","hues","other"] 39
 t40:FO P w K mg base k true "_law_cell" 52 ["_law_script","_law_k"] 40
 t41:FO P w K mg base k true "_law_pen" 53 ["_law_cell_here"] 41
 vZ:FO P w K mg base k true "_law_draw" 54 ["_law_pen_here","_law_many"] 42
 t43:FO P w K mg base k true "_law_web" 55 ["_law_pen_here","_law_many"] 43
 Mp:FO P w K mg base k true "_law_ring" 56 ["_law_pen_here"] 44
 Qm:FO P w K mg base k true "_law_shorter" 57 ["_law_one","_law_other"] 45
 t46:FO P w K mg base k true "_law_few" 58 ["_law_pen_here"] 46
 t47:FO P w K mg base k true "_law_known" 59 ["_law_pen_here"] 47
 XM:FO P w K mg base k true "_law_right" 60 ["_law_web_here","_law_ring_here","_law_other"] 48
 t49:FO P w K mg base k true "law" 61 ["_law_script"] 49
section
variable {P:Program}{w:World}{K:W.Frag}{mg:Str->Option Value}{base:Heap}{k:Nat}
theorem zi8(Tp:Top K mg)(Fk:Fs P w K mg base k):Fs P w K mg base (k+1) where
 t0:=fJ Tp.d0 ["thing"] T_0 λ_ _ _ _ _ _ hr=>(aH (bY (wN (O2 rfl Tp.z0 gk (gv 0) (O1 rfl Tp.z1 zmc gk dk)) (vq (zno (O2 rfl Tp.z0 gk (gv 0) (O1 rfl Tp.z2 zji gk dk))))))
 aN)
 t1:=fJ Tp.d1 ["thing","least","most"] T_1 λ_ _ _ _ _ _ hr=>(aH (bY (wN (gc Fk.t0 Tp.d0 hr bK gk (aA (gv 0) aK)) (vq (zny zoD zoD (gv 1) (gv 0) (gv 2)))))
 aN)
 t2:=fJ Tp.d2 ["thing","many"] T_2 λ_ _ _ _ _ _ hr=>(aH (bY (wN (O2 rfl Tp.z0 gk (gv 0) (O1 rfl Tp.z3 Oz gk dk)) (vq (tD (sZ hr) (Gx Tp.z4 gk (aA (gv 0) aK)) (gv 1)))))
 aN)
 t3:=fJ Tp.d3 N3 T_3 λ_ _ _ _ _ _ hr=>(aH (gK (nG (ji (gc Fk.t2 Tp.d2 hr bK gk (aA (gv 0) (aA aL aK))))) (aH (bY pH)
 aN) aN)
 (aH (KD 1 2 rfl rfl nd rfl rfl jc jl rfl rfl (gv 0))
 (aH (gK (vC (Uw (nG (ji (gc Fk.t4 Tp.d4 hr bK gk (aA (gv 1) aK)))) (Uv (nG (ji (O2 rfl Tp.z0 gk (gv 2) (O1 rfl Tp.z3 Oz gk dk))))))) (aH (bY pH)
 aN) aN)
 (aH (gK (nG (ji (O4 rfl Tp.z6 gk (aA (pI (au (top 12)) N3 ["tie"] ["many"] [1] rfl rfl rfl Dc Dc (nF 0) Dc (tY (gv 2)) (λ_ _ _ _ _ _=>(nH 0 Dc rfl Dc)) (λ_ _ _ _ _ _=>rJ) (λ_ _ _ _ _ _=>(gc Fk.t6 Tp.d6 hr GC yW (aA (cG 1) (aA (cG 0) aK))))) aK)))) (aH (bY pH)
 aN) aN)
 (aH (bY (O4 rfl Tp.z6 gk (aA (pI (au (top 12)) N3 ["tie","later"] [] [] rfl rfl rfl Dc Dc (Ou 0 1) Dc (znp Tp.z5 gk (gv 2) (zoj (gv 2) (Uy aL) zoS)) (λ_ _ _ _ _ _=>(UL 0 1 rfl Dc rfl rfl Dc Dc)) (λ_ _ _ _ _ _=>rJ) (λ_ _ _ _ _ _=>(tD (vA hr) (cG 0) (cG 1)))) aK)))
 aN)))))
 t4:=fJ Tp.d4 ["thing"] T_4 λ_ _ _ _ _ _ hr=>(aH (bY (gc Fk.t1 Tp.d1 hr bK gk (aA (gv 0) (aA aL (aA (OD Tp.g_ gk dk) aK)))))
 aN)
 t5:=fJ Tp.d5 ["many","thing"] T_5 λ_ _ _ _ _ _ hr=>(aH (bY (gc Fk.t1 Tp.d1 hr bK gk (aA (gv 1) (aA aL (aA (cQ yN (gv 0) aL) aK)))))
 aN)
 t6:=fJ Tp.d6 ["many","thing","one","other"] T_6 λ_ _ _ _ _ _ hr=>(aH (gK (nG (ji (gc Fk.t2 Tp.d2 hr bK gk (aA (gv 1) (aA aL aK))))) (aH (bY pH)
 aN) aN)
 (aH (KD 2 3 rfl rfl nd rfl rfl jl jl rfl rfl (gv 1))
 (aH (bY (wN (gc Fk.t5 Tp.d5 hr bK gk (aA (gv 0) (aA (gv 2) aK))) (wN (gc Fk.t5 Tp.d5 hr bK gk (aA (gv 0) (aA (gv 3) aK))) (vq (tD (vA hr) (gv 2) (gv 3))))))
 aN)))
 t7:=fJ Tp.d7 ["thing"] T_7 λ_ _ _ _ _ _ hr=>(aH (gK (nG (ji (gc Fk.t3 Tp.d3 hr bK gk (aA (gv 0) aK)))) (aH O6
 aN) aN)
 aN)
 t8:=fJ Tp.d8 N8 T_8 λ_ _ _ _ _ _ hr=>(aH (zij 2 (au (top 17)) N8 ["one","other"] ["place"] [1] nd rfl jl rfl rfl rfl rfl Dc Dc (Ou 0 1) Dc (tY (cF (gv 0) aL)) (λ_ _ _ _ _ _=>(UL 0 1 rfl Dc rfl rfl Dc Dc)) (λ_ _ _ _ _ _=>(Gy (ju (zoE hr) (cG 2) (gQ (aA (cG 0) (aA (cG 1) aK)))))) (λ_ _ _ _ _ _=>(Ux (ju (sZ hr) (cG 0) (cG 2)) (cG 1) (cG 0))))
 (aH (bY (yP Tp.z3 gk (aA (zeA Tp.z7 gk (aA (gv 2) aK)) aK)))
 aN))
 t9:=fJ Tp.d9 N9 T_9 λ_ _ _ _ _ _ hr=>(aH (bY (pI (au (top 18)) N9 ["place"] ["web"] [0] rfl rfl rfl Dc Dc (nF 0) Dc (vG Tp.z8 gk (cF (gv 0) aL)) (λ_ _ _ _ _ _=>(nH 0 Dc rfl Dc)) (λ_ _ _ _ _ _=>rJ) (λ_ _ _ _ _ _=>(gc Fk.t8 Tp.d8 hr GC yW (aA (cG 1) (aA (cG 0) aK))))))
 aN)
 t10:=zj2 (N:=["self","web","apart","alike"]) Tp.Xq.fn zol (λ_ _ _ _ _ _ hr=>(Pq (j:=0) Tp.ow (gc Fk.t9 Tp.d9 hr bK gk (aA (gv 1) aK)) (Pq (j:=0) Tp.ow (zn2 rfl Tp.z3 gk Tp.z8 gk (aA (Gx Tp.z4 gk (aA (gv 2) aK)) aK)) (Pq (j:=0) Tp.ow (gv 2) (Pq (j:=0) Tp.ow (gv 3) zmI))))) (by show (4:Nat)<=900;decide)
 t11:=fM Tp.Xr ["self","spot","other"] zof λ_ _ _ _ _ _ hr=>(aH (bY (cF (cF (GQ Tp.ow (gv 0)) (gv 1)) (gv 2)))
 aN)
 Qj:=fM Tp.Mh N12 zog λ_ _ _ _ _ _ hr=>(aH (fU 4 nd rfl jl rfl (zlR Tp.z9 gk (aA (gv 1) aK)))
 (aH (O7 (gv 4) (gv 2) Gu)
 (aH (yQ vH rfl rfl (tY (cF (GQ Tp.ow (gv 0)) (gv 2))) (Dr 5 nd rfl jl rfl) (aH (gK (Uu (cF (gv 4) (gv 5))) (aH (O7 (gv 4) (gv 5) (yP Tp.z3 gk (aA (pI (au (Fz)) N12 ["other"] ["self","spot"] [0,3] rfl rfl rfl Dc Dc (nF 0) Dc (tY (cF (gv 4) (gv 5))) (λ_ _ _ _ _ _=>(nH 0 Dc rfl Dc)) (λ_ _ _ _ _ _=>(Gy (ji (yZ Tp.ow Tp.Xr Fk.t11 hr (cG 1) (aA (cG 2) (aA (cG 0) aK)))))) (λ_ _ _ _ _ _=>(cG 0))) aK)))
 aN) aN)
 aN))
 (aH (bY (yP Tp.z3 gk (aA (gv 4) aK)))
 aN))))
 Xy:=fM Tp.Qi N13 zoC λ_ _ _ _ _ _ hr=>(aH (bY (Gx Tp.z4 gk (aA (pI (au (FJ)) N13 ["end"] ["free"] [1] rfl rfl rfl Dc Dc (nF 0) Dc (tY (cF (GQ Tp.ow (gv 0)) (gv 2))) (λ_ _ _ _ _ _=>(nH 0 Dc rfl Dc)) (λ_ _ _ _ _ _=>(Gy (Uu (cF (cG 1) (cG 0))))) (λ_ _ _ _ _ _=>(cG 0))) aK)))
 aN)
 t14:=fM Tp.Xu N14 zoq λ_ _ _ _ _ _ hr=>(aH (bY (yP Tp.z3 gk (aA (pI (au (FN)) N14 ["place","spots"] ["self","free"] [0,1] rfl rfl rfl Dc Dc (Ou 0 1) Dc (zii Tp.Xp gk (gv 1)) (λ_ _ _ _ _ _=>(UL 0 1 rfl Dc rfl rfl Dc Dc)) (λ_ _ _ _ _ _=>rJ) (λ_ _ _ _ _ _=>(Ux (ju Gw (yZ Tp.ow Tp.Qi Fk.Xy hr (cG 2) (aA (cG 3) (aA (cG 0) aK))) aL) (cG 1) Gu))) aK)))
 aN)
 t15:=fM Tp.Xw ["self","free","ranks","place","spots"] zoc λ_ _ _ _ _ _ hr=>(aH (fU 2 nd rfl jl rfl (wO aK))
 (aH (yQ vH rfl rfl (zii Tp.Xp gk (gv 1)) (zis 3 4 rfl rfl nd rfl rfl jl jl rfl rfl) (aH (gK (Uu (gv 4)) (aH (vI (ziv (gv 2) (gQ (aA (Gx Tp.z4 gk (aA (gv 4) aK)) (aA (zkK (yZ Tp.ow Tp.Qi Fk.Xy hr (gv 0) (aA (gv 1) (aA (gv 3) aK)))) (aA (gv 3) aK))))))
 aN) aN)
 aN))
 (aH (bY (Ux (zmX (gv 2)) (cF (zk1 hr rfl Tp.Mg gk (aA (gv 2) aK)) aL) Gu))
 aN)))
 t16:=fM Tp.Xx N16 zoo λ_ _ _ _ _ _ hr=>(aH (bY (O4 rfl Tp.z6 gk (aA (pI (au (FP)) N16 ["spots"] ["self"] [0] rfl rfl rfl Dc Dc (nF 0) Dc (tY (gv 1)) (λ_ _ _ _ _ _=>(nH 0 Dc rfl Dc)) (λ_ _ _ _ _ _=>rJ) (λ_ _ _ _ _ _=>(zoe (zkD (cG 0)) (vq (tD (sZ hr) (cG 0) (GQ Tp.ow (cG 1))))))) aK)))
 aN)
 t17:=fR Tp.W7 W6 zoh λ_ _ _ _ _ _ hr=>(aH (KD 2 3 rfl rfl nd rfl rfl jc jc rfl rfl (gv 1))
 (aH (fU 4 nd rfl jc rfl (pI (au (top 21)) W6 ["gap"] ["k","d"] [2,3] rfl rfl rfl Dc Dc (nF 0) Dc (vG Tp.z8 gk (gv 2)) (λ_ _ _ _ _ _=>(nH 0 Dc rfl Dc)) (λ_ _ _ _ _ _=>rJ) (λ_ _ _ _ _ _=>(tD Us (UG rfl Tp.Mg yW (aA (cG 0) (aA (cQ yN (cG 1) (cG 0)) aK))) (cG 2)))))
 (aH (bY (zoQ Tp.mq Fk.t10 (Mi.bB.made hr _ _) Tp.Xq.bd Tp.mc gk (aA (gv 0) (aA (pI (au (top 21)) W6 ["spot"] ["k","wide"] [2,4] rfl rfl rfl Dc Dc (nF 0) Dc (vG Tp.z8 gk (gv 2)) (λ_ _ _ _ _ _=>(nH 0 Dc rfl Dc)) (λ_ _ _ _ _ _=>rJ) (λ_ _ _ _ _ _=>(zjU ["spot","k","wide"] ["other"] ["wide","spot"] [2,0] rfl rfl Dc Dc (nF 0) Dc (vG Tp.z8 yW (cG 1)) (λ_ _ _ _ _ _=>(nH 0 Dc rfl Dc)) (λ_ _ _ _ _ _=>rJ) (λ_ _ _ _ _ _=>(cF (cG 1) (cQ yN (cG 2) (cG 0))))))) (aA pH aK)))))
 aN)))
 t18:=fJ Tp.W8 ["thing","k","d"] zov λ_ _ _ _ _ _ hr=>(aH (gK (nG (ji (gc Fk.t2 Tp.d2 hr bK gk (aA (gv 0) (aA aL aK))))) (aH (bY pH)
 aN) aN)
 (aH (KD 1 2 rfl rfl nd rfl rfl jl jl rfl rfl (gv 0))
 (aH (bY (wN (gc Fk.t1 Tp.d1 hr bK gk (aA (gv 1) (aA aL (aA (OD Tp.eZ gk dk) aK)))) (vq (gc Fk.t1 Tp.d1 hr bK gk (aA (gv 2) (aA aL (aA (gv 1) aK)))))))
 aN)))
 t19:=fJ Tp.W9 ["ring","thing"] zoy λ_ _ _ _ _ _ hr=>(aH (bY (gc Fk.t1 Tp.d1 hr bK gk (aA (gv 1) (aA aL (aA (cQ yN (cF (gv 0) aL) aL) aK)))))
 aN)
 Mj:=fJ Tp.G4 ["thing"] zoB λ_ _ _ _ _ _ hr=>(aH (gK (nG (ji (gc Fk.t18 Tp.W8 hr bK gk (aA (gv 0) aK)))) (aH O6
 aN) aN)
 aN)
 t21:=fJ Tp.W_ ["ring","one","other","gap"] zoU λ_ _ _ _ _ _ hr=>(aH (fU 3 nd rfl jl rfl (zn4 Tp.z12 gk (aA (cQ yN (gv 1) (gv 2)) aK)))
 (aH (bY (UG rfl Tp.Mg gk (aA (gv 3) (aA (cQ yN (cF (gv 0) aL) (gv 3)) aK))))
 aN))
 t22:=fJ Tp.Xa ["one","other"] zok λ_ _ _ _ _ _ hr=>(aH (bY (tD (vA hr) (cQ tX (cF (gv 0) aL) (cF (gv 1) aL)) (cQ tX (cF (gv 1) aL) (cF (gv 0) aL))))
 aN)
 t23:=fJ Tp.Xb ["top","bottom","common","rest"] zoP λ_ _ _ _ _ _ hr=>(aH (U8 2 3 rfl rfl nd rfl rfl Tc jl jl (gv 0) (gv 1) rfl)
 (aH (zfK vH (ju Gw (gv 3) aL) (aH (U8 2 3 rfl rfl nd rfl rfl Tc jl jl (gv 3) (cQ Dq (gv 2) (gv 3)) rfl)
 aN))
 (aH (bY (gQ (aA (cQ Gv (gv 0) (gv 2)) (aA (cQ Gv (gv 1) (gv 2)) aK))))
 aN)))
 Xz:=fJ Tp.Qa ["web","ring","thing"] zoA λ_ _ _ _ _ _ hr=>(aH (vI (gc Fk.t7 Tp.d7 hr bK gk (aA (gv 0) aK)))
 (aH (vI (gc Fk.Mj Tp.G4 hr bK gk (aA (gv 1) aK)))
 (aH (bY (gc Fk.XD Tp.Qc hr bK gk (aA (gv 0) (aA (gv 1) (aA (gv 2) aK)))))
 aN)))
 t25:=fJ Tp.Xc N25 zoz λ_ _ _ _ _ _ hr=>(aH (bY (wN (gc Fk.t2 Tp.d2 hr bK gk (aA (gv 2) (aA (cF (gv 0) aL) aK))) (vq (O4 rfl Tp.z6 gk (aA (pI (au (top 32)) N25 ["spot"] ["ring"] [1] rfl rfl rfl Dc Dc (nF 0) Dc (tY (gv 2)) (λ_ _ _ _ _ _=>(nH 0 Dc rfl Dc)) (λ_ _ _ _ _ _=>rJ) (λ_ _ _ _ _ _=>(gc Fk.t19 Tp.W9 hr GC yW (aA (cG 1) (aA (cG 0) aK))))) aK)))))
 aN)
 XD:=fJ Tp.Qc ["web","ring","thing"] W3 λ_ _ _ _ _ _ hr=>(aH (bY (wN (gc Fk.t25 Tp.Xc hr bK gk (aA (gv 0) (aA (gv 1) (aA (gv 2) aK)))) (vq (zkD (gc Fk.t28 Tp.Xe hr bK gk (aA (gv 0) (aA (gv 1) (aA (gv 2) aK))))))))
 aN)
 t27:=fJ Tp.Xd ["web","ring","thing"] zow λ_ _ _ _ _ _ hr=>(aH (vI (gc Fk.t7 Tp.d7 hr bK gk (aA (gv 0) aK)))
 (aH (vI (gc Fk.Mj Tp.G4 hr bK gk (aA (gv 1) aK)))
 (aH (gK (nG (ji (gc Fk.XD Tp.Qc hr bK gk (aA (gv 0) (aA (gv 1) (aA (gv 2) aK)))))) (aH O6
 aN) aN)
 aN)))
 t28:=fJ Tp.Xe ["web","ring","spots","one","other"] W4 λ_ _ _ _ _ _ hr=>(aH (yQ vH rfl rfl (tY (cF (gv 0) aL)) (zis 3 4 rfl rfl nd rfl rfl jl jl rfl rfl) (aH (gK (ju (vA hr) (gc Fk.t21 Tp.W_ hr bK gk (aA (gv 1) (aA (cF (gv 2) (gv 3)) (aA (cF (gv 2) (gv 4)) aK)))) (cF (gv 1) aL)) (aH (bY (gQ (aA (gv 3) (aA (gv 4) aK))))
 aN) aN)
 aN))
 (aH (bY Gu)
 aN))
 Ml:=fJ Tp.G5 N29 zn8 λ_ _ _ _ _ _ hr=>(aH (vI (gc Fk.t7 Tp.d7 hr bK gk (aA (gv 0) aK)))
 (aH (vI (gc Fk.Mj Tp.G4 hr bK gk (aA (gv 1) aK)))
 (aH (fU 2 nd rfl jc rfl (gc Fk.t17 Tp.W7 hr bK gk (aA (gv 0) (aA (gv 1) aK))))
 (aH (bY (gc Fk.t30 Tp.Xf hr bK gk (aA (gv 2) (aA (pI (au (top 37)) N29 ["place"] ["board"] [2] rfl rfl rfl Dc Dc (nF 0) Dc (vG Tp.z8 gk (cF (gv 0) aL)) (λ_ _ _ _ _ _=>(nH 0 Dc rfl Dc)) (λ_ _ _ _ _ _=>rJ) (λ_ _ _ _ _ _=>(GQ Tp.ow (cG 1)))) aK))))
 aN))))
 t30:=fJ Tp.Xf ["board","choices","free","answers","row","place","spot"] zox λ_ _ _ _ _ _ hr=>(aH (fU 2 nd rfl jl rfl (yP Tp.z3 gk (aA (gv 1) aK)))
 (aH (fU 3 nd rfl jl rfl zmb)
 (aH (gK (nG (ji (gc Fk.Qk Tp.L_ hr bK gk (aA (gv 0) (aA (gv 3) (aA (gv 2) aK)))))) (aH (bY Gu)
 aN) aN)
 (aH (fU 4 nd rfl jl rfl (wO aK))
 (aH (yQ vH rfl rfl (vG Tp.z8 gk (Gx Tp.z4 gk (aA (gv 1) aK))) (Dr 5 nd rfl jl rfl) (aH (fU 6 nd rfl jl rfl (gc Fk.XH Tp.Qd hr bK gk (aA (gv 0) (aA (gv 3) (aA (gv 2) (aA (gv 5) aK))))))
 (aH (fU 2 nd rfl jl rfl (yZ Tp.ow Tp.Mh Fk.Qj hr (gv 0) (aA (gv 2) (aA (gv 5) (aA (gv 6) aK)))))
 (aH (vI (ziv (gv 4) (gv 6)))
 aN))))
 (aH (bY (yP Tp.z3 gk (aA (gv 4) aK)))
 aN))))))
 XH:=fJ Tp.Qd ["board","answers","free","place","spot"] W5 λ_ _ _ _ _ _ hr=>(aH (yQ vH rfl rfl (tY (cF (gv 2) (gv 3))) (Dr 4 nd rfl jl rfl) (aH (gK (ji (gc Fk.Qk Tp.L_ hr bK gk (aA (gv 0) (aA (gv 1) (aA (yZ Tp.ow Tp.Mh Fk.Qj hr (gv 0) (aA (gv 2) (aA (gv 3) (aA (gv 4) aK)))) aK))))) (aH (bY (gv 4))
 aN) aN)
 aN))
 (aH (bY Gu)
 aN))
 Qk:=fJ Tp.L_ ["board","answers","free","rest"] zoI λ_ _ _ _ _ _ hr=>(aH (gK (ju (zoE hr) (gQ aK) (gv 2)) (aH (bY pH)
 aN) aN)
 (aH (fU 3 nd rfl jl rfl (yZ Tp.ow Tp.Xu Fk.t14 hr (gv 0) (aA (gv 2) aK)))
 (aH (gK (zlW hr (gv 3) (gv 1)) (aH (zlA hr (gv 1) (gv 3) (gc Fk.t33 Tp.Xg hr bK gk (aA (gv 0) (aA (gv 1) (aA (gv 3) aK)))))
 aN) aN)
 (aH (bY (zlH hr (gv 1) (gv 3)))
 aN))))
 t33:=fJ Tp.Xg ["board","answers","free","place"] P0 λ_ _ _ _ _ _ hr=>(aH (fU 3 nd rfl jl rfl (yZ Tp.ow Tp.Xw Fk.t15 hr (gv 0) (aA (gv 2) aK)))
 (aH (gK (zni (gv 3)) (aH (bY pH)
 aN) aN)
 (aH (gK (vC (vB (ji (GQ Tp.ow (gv 0))) (Af (ji (yZ Tp.ow Tp.Xx Fk.t16 hr (gv 0) (aA (gv 2) aK)))))) (aH (bY (gc Fk.Qk Tp.L_ hr bK gk (aA (gv 0) (aA (gv 1) (aA (yZ Tp.ow Tp.Mh Fk.Qj hr (gv 0) (aA (gv 2) (aA (gv 3) (aA aL aK)))) aK)))))
 aN) aN)
 (aH (bY (Ut (gc Fk.XH Tp.Qd hr bK gk (aA (gv 0) (aA (gv 1) (aA (gv 2) (aA (gv 3) aK)))))))
 aN))))
 Ql:=fJL Tp.Ma Tp.lam N34 zoO λ_ _ _ _ _ _ hr hL=>(aH (fU 1 nd rfl jl rfl (UG rfl Tp.Mg gk (aA (gv 0) (aA (OD Tp.eZ gk dk) aK))))
 (aH (zj6 2 (au (top 44)) N34 ["k","d"] [] [] nd rfl jl rfl rfl rfl rfl Dc Dc (nF 0) (nF 1) Dc (O5 Tp.z8 gk aL (cQ oX (gv 1) aL)) (λ_ _ _ _ _ _=>(nH 0 Dc rfl Dc)) (λ_ _ _ _ _ _=>(O5 Tp.z8 yW aL (cQ oX (cG 0) aL))) (λ_ _ _ _ _ _=>(nH 1 Dc rfl Dc)) (λ_ _ _ _ _ _=>(Gy (ji (gc Fk.t38 Tp.Xi hr GC yW (aA (cG 0) (aA (cG 1) aK)))))) (λ_ _ _ _ _ _=>(gQ (aA (cG 0) (aA (cG 1) aK)))))
 (aH (bY (ziK "ring" hL hr rfl Tp.z7 gk (gv 2) (λ_ _ _ _=>(cQ Gv (cQ tX (cF (gv 0) aL) (OD Tp.k_ gk dk)) (cF (gv 0) aL)))))
 aN)))
 G7:=fJ Tp.Ej ["web","ring"] zoa λ_ _ _ _ _ _ hr=>(aH (bY (Ut (gc Fk.Ml Tp.G5 hr bK gk (aA (gv 0) (aA (gv 1) aK)))))
 aN)
 XJ:=fJ Tp.Qe ["web","rings","at"] zoK λ_ _ _ _ _ _ hr=>(aH (vI (gc Fk.t7 Tp.d7 hr bK gk (aA (gv 0) aK)))
 (aH (fU 1 nd rfl jl rfl (gc Fk.Ql Tp.Ma hr bK gk (aA (cF (gv 0) aL) aK)))
 (aH (fU 2 nd rfl jl rfl aL)
 (aH (zfK vH (nG (ji (gc Fk.G7 Tp.Ej hr bK gk (aA (gv 0) (aA (cF (gv 1) (gv 2)) aK))))) (aH (znq 2 nd rfl jl rfl aL)
 aN))
 (aH (bY (cF (gv 1) (gv 2)))
 aN)))))
 t37:=fJ Tp.Xh ["web"] zop λ_ _ _ _ _ _ hr=>(aH (bY (gc Fk.Ml Tp.G5 hr bK gk (aA (gv 0) (aA (gc Fk.XJ Tp.Qe hr bK gk (aA (gv 0) aK)) aK))))
 aN)
 t38:=fJ Tp.Xi ["k","d"] zoN λ_ _ _ _ _ _ hr=>(aH (bY (wN (tD (sZ hr) (gc Fk.t23 Tp.Xb hr bK gk (aA (gv 0) (aA (gv 1) aK))) (gQ (aA (gv 0) (aA (gv 1) aK)))) (vq (zoe (tD (sZ hr) (gv 0) aL) (vq (tD Us (gv 0) (cQ tX aL (gv 1))))))))
 aN)
 t39:=fJ Tp.Xj N39 zob λ_ _ _ _ _ _ hr=>(aH (vI (gc Fk.t27 Tp.Xd hr bK gk (aA (gv 0) (aA (gv 1) (aA (gv 2) aK)))))
 (aH (vI (gc Fk.Mj Tp.G4 hr bK gk (aA (gv 3) aK)))
 (aH (gK (ji (gc Fk.t22 Tp.Xa hr bK gk (aA (gv 3) (aA (gv 1) aK)))) (aH O6
 aN) aN)
 (aH (bY (yP Tp.z3 gk (aA (pI (au (top 50)) N39 ["spot"] ["other","ring"] [3,1] rfl rfl rfl Dc Dc (nF 0) Dc (tY (gv 2)) (λ_ _ _ _ _ _=>(nH 0 Dc rfl Dc)) (λ_ _ _ _ _ _=>rJ) (λ_ _ _ _ _ _=>(cQ Gv (cQ tX (cG 0) (cF (cG 1) aL)) (cF (cG 2) aL)))) aK)))
 aN))))
 t40:=fJ Tp.Xk ["_law_script","_law_k"] zoH λ_ _ _ _ _ _ hr=>(aH (gK (ju (vA hr) (gv 1) (Gx Tp.z4 gk (aA (gv 0) aK))) (aH (bY (cF (gv 0) (gv 1)))
 aN) aN)
 (aH (bY aL)
 aN))
 t41:=fJ Tp.Xl ["_law_cell_here","_law_left"] zoJ λ_ _ _ _ _ _ hr=>(aH (fU 1 nd rfl jl rfl (Uz rfl Tp.Qh gk (aA (gv 0) (aA (cQ yN aL (gv 0)) aK))))
 (aH (bY (wO (aA (gv 1) (aA (zlD Tp.z1 gk (aA (tD Us (gv 1) (cQ znT aL aL)) aK)) aK))))
 aN))
 vZ:=fJ Tp.uc ["_law_pen_here","_law_many","_law_left","_law_found","_law_stir"] zor λ_ _ _ _ _ _ hr=>(aH (gK (ju (sZ hr) (cF (gv 0) aL) aL) (aH (KD 2 3 rfl rfl nd rfl rfl jl jl rfl rfl (zhT Tp.z14 gk (aA (cF (gv 0) aL) (aA (gv 1) aK))))
 (aH (O7 (gv 0) aL (gv 2))
 (aH (bY (gv 3))
 aN))) aN)
 (aH (fU 4 nd rfl jl rfl (cQ Dq (cQ tX (cQ oX (cQ Dq (cF (gv 0) aL) aL) aL) aL) aL))
 (aH (fU 4 nd rfl jl rfl (cQ Dq (cQ oX (cQ tX (gv 4) (gv 4)) aL) aL))
 (aH (O7 (gv 0) aL (cQ Dq (cQ oX (cQ tX (gv 4) aL) aL) aL))
 (aH (bY (cQ Dq (cQ Gv (cF (gv 0) aL) aL) (gv 1)))
 aN)))))
 t43:=fJ Tp.Xm N43 zot λ_ _ _ _ _ _ hr=>(aH (fU 2 nd rfl jc rfl (cF (wO (aA aL (aA aL (aA aL aK)))) (gc Fk.vZ Tp.uc hr bK gk (aA (gv 0) (aA aL aK)))))
 (aH (fU 3 nd rfl jl rfl (wO aK))
 (aH (yQ vH rfl rfl (vG Tp.z8 gk (gv 1)) (Dr 4 nd rfl jc rfl) (aH (fU 3 nd rfl jl rfl (cQ oX (gv 3) (pI (au (top 55)) N43 ["_law_other"] ["_law_one","_law_pen_here","_law_often"] [4,0,2] rfl rfl rfl Dc Dc (nF 0) Dc (O5 Tp.z8 gk (cQ oX (gv 4) aL) (gv 1)) (λ_ _ _ _ _ _=>(nH 0 Dc rfl Dc)) (λ_ _ _ _ _ _=>(Gy (ju (vA hr) (gc Fk.vZ Tp.uc hr GC yW (aA (cG 2) (aA aL aK))) (cG 3)))) (λ_ _ _ _ _ _=>(gQ (aA (cG 1) (aA (cG 0) aK)))))))
 aN))
 (aH (bY (gQ (aA (gv 1) (aA (yP Tp.z3 gk (aA (gv 3) aK)) aK))))
 aN))))
 Mp:=fJ Tp.G6 ["_law_pen_here","_law_some","_law_k"] zoL λ_ _ _ _ _ _ hr=>(aH (fU 1 nd rfl jl rfl (wO (aA (gQ (aA aL (aA aL aK))) (aA (gQ (aA aL (aA aL aK))) (aA (gQ (aA aL (aA aL aK))) (aA (gQ (aA aL (aA aL aK))) (aA (gQ (aA aL (aA aL aK))) (aA (gQ (aA aL (aA aL aK))) (aA (gQ (aA aL (aA aL aK))) (aA (gQ (aA aL (aA aL aK))) (aA (gQ (aA aL (aA aL aK))) (aA (gQ (aA aL (aA aL aK))) (aA (gQ (aA aL (aA aL aK))) (aA (gQ (aA aL (aA aL aK))) aK))))))))))))))
 (aH (gK (ju (sZ hr) (gc Fk.vZ Tp.uc hr bK gk (aA (gv 0) (aA aL aK))) aL) (aH (fU 2 nd rfl jl rfl (cQ oX aL (cQ Dq (gc Fk.vZ Tp.uc hr bK gk (aA (gv 0) (aA aL aK))) aL)))
 (aH (bY (gQ (aA (gv 2) (aA (Uz rfl Tp.Qh gk (aA aL (aA (cQ Gv (gc Fk.vZ Tp.uc hr bK gk (aA (gv 0) (aA (gv 2) aK))) aL) aK))) aK))))
 aN)) aN)
 (aH (bY (cF (gv 1) (gc Fk.vZ Tp.uc hr bK gk (aA (gv 0) (aA aL aK)))))
 aN)))
 Qm:=fJ Tp.Mf ["_law_one","_law_other"] zod λ_ _ _ _ _ _ hr=>(aH (bY (tD (vA hr) (cQ tX (cF (gv 0) aL) (cF (gv 1) aL)) (cQ tX (cF (gv 1) aL) (cF (gv 0) aL))))
 aN)
 t46:=fJ Tp.Xn ["_law_pen_here"] zoM λ_ _ _ _ _ _ hr=>(aH (bY (cF (wO (aA aL (aA aL (aA aL (aA aL (aA aL (aA aL (aA aL (aA aL (aA aL (aA aL (aA aL (aA aL aK))))))))))))) (gc Fk.vZ Tp.uc hr bK gk (aA (gv 0) (aA aL aK)))))
 aN)
 t47:=fJ Tp.Xo P_ zoG λ_ _ _ _ _ _ hr=>(aH (fU 1 nd rfl jl rfl (gc Fk.vZ Tp.uc hr bK gk (aA (gv 0) (aA aL aK))))
 (aH (fU 2 nd rfl jc rfl (cQ oX aL (gc Fk.vZ Tp.uc hr bK gk (aA (gv 0) (aA aL aK)))))
 (aH (fU 3 nd rfl jl rfl (cQ oX (pI (au (top 59)) P_ ["_law_place"] [] [] rfl rfl rfl Dc Dc (nF 0) Dc (vG Tp.z8 gk (cQ yN (gv 2) aL)) (λ_ _ _ _ _ _=>(nH 0 Dc rfl Dc)) (λ_ _ _ _ _ _=>rJ) (λ_ _ _ _ _ _=>(gQ (aA (cG 0) (aA (cQ oX (cG 0) aL) aK))))) (wO (aA (gQ (aA aL (aA (cQ yN (gv 2) aL) aK))) aK))))
 (aH (gK (ju (sZ hr) (gv 1) aL) (aH (fU 2 nd rfl jc rfl (cQ oX aL (gc Fk.vZ Tp.uc hr bK gk (aA (gv 0) (aA aL aK)))))
 (aH (fU 3 nd rfl jl rfl (wO aK))
 (aH (yQ vH rfl rfl (vG Tp.z8 gk (gv 2)) (Dr 4 nd rfl jc rfl) (aH (fU 3 nd rfl jl rfl (cQ oX (gv 3) (pI (au (top 59)) P_ ["_law_other"] ["_law_one"] [4] rfl rfl rfl Dc Dc (nF 0) Dc (O5 Tp.z8 gk (cQ oX (gv 4) aL) (gv 2)) (λ_ _ _ _ _ _=>(nH 0 Dc rfl Dc)) (λ_ _ _ _ _ _=>rJ) (λ_ _ _ _ _ _=>(gQ (aA (cG 1) (aA (cG 0) aK)))))))
 aN))
 aN))) aN)
 (aH (gK (vC (vB (ju (sZ hr) (gv 1) aL) (Af (ju (vA hr) (gv 2) aL)))) (aH (fU 3 nd rfl jl rfl (cQ oX (gv 3) (pI (au (top 59)) P_ ["_law_place"] ["_law_many"] [2] rfl rfl rfl Dc Dc (nF 0) Dc (vG Tp.z8 gk (gv 2)) (λ_ _ _ _ _ _=>(nH 0 Dc rfl Dc)) (λ_ _ _ _ _ _=>rJ) (λ_ _ _ _ _ _=>(gQ (aA (cG 0) (aA (cG 1) aK)))))))
 (aH (fU 2 nd rfl jc rfl (cQ oX (gv 2) aL))
 aN)) aN)
 (aH (gK (ju (sZ hr) (gv 1) aL) (aH (bY (gc Fk.t43 Tp.Xm hr bK gk (aA (gv 0) (aA (gc Fk.t46 Tp.Xn hr bK gk (aA (gv 0) aK)) aK))))
 aN) aN)
 (aH (bY (gQ (aA (gv 2) (aA (yP Tp.z3 gk (aA (zeA Tp.z7 gk (aA (gv 3) aK)) aK)) aK))))
 aN)))))))
 XM:=fJ Tp.Qf N48 zou λ_ _ _ _ _ _ hr=>(aH (gK (vC (vB (ju Gw (cF (gv 0) aL) aL) (Af (ju Gw (cF (gv 1) aL) aL)))) (aH (fU 1 nd rfl jl rfl (gQ (aA aL (aA aL aK))))
 aN) aN)
 (aH (gK (vC (vB (ju Gw (cF (gv 0) aL) aL) (Af (ju Gw (cF (gv 2) aL) aL)))) (aH (fU 2 nd rfl jl rfl (gQ (aA aL (aA aL aK))))
 aN) aN)
 (aH (U8 3 4 rfl rfl nd rfl rfl Tc jl jl (gc Fk.XJ Tp.Qe hr bK gk (aA (gv 0) aK)) (gc Fk.t37 Tp.Xh hr bK gk (aA (gv 0) aK)) rfl)
 (aH (fU 5 nd rfl jl rfl (gc Fk.G7 Tp.Ej hr bK gk (aA (gv 0) (aA (gv 1) aK))))
 (aH (gK (vC (Uw (ju (OJ hr) (gv 5) (Ut (gc Fk.Ml Tp.G5 hr bK gk (aA (gv 0) (aA (gv 1) aK))))) (Uv (vC (vB (ju (OJ hr) (cF (gv 0) aL) (gQ aK)) (Af (ju (sZ hr) (gv 5) (gc Fk.Qm Tp.Mf hr bK gk (aA (gv 1) (aA (gv 3) aK)))))))))) (aH (bY pH)
 aN) aN)
 (aH (gK (vC (vB (ji (gv 5)) (vB (nG (ji (gc Fk.Qm Tp.Mf hr bK gk (aA (gv 2) (aA (gv 1) aK))))) (Af (nG (ji (gc Fk.G7 Tp.Ej hr bK gk (aA (gv 0) (aA (gv 2) aK))))))))) (aH (bY pH)
 aN) aN)
 (aH (gK (vC (Uw (nG (ji (gc Fk.Xz Tp.Qa hr bK gk (aA (gv 0) (aA (gv 3) (aA (gv 4) aK)))))) (Uv (ju (OJ hr) (gc Fk.Ml Tp.G5 hr bK gk (aA (gv 0) (aA (gv 3) aK))) (gv 4))))) (aH (bY pH)
 aN) aN)
 (aH (gK (vC (vB (ji (gv 5)) (Af (nG (ji (gc Fk.Qm Tp.Mf hr bK gk (aA (gv 1) (aA (gv 3) aK)))))))) (aH (gK (nG (ji (gc Fk.Xz Tp.Qa hr bK gk (aA (gv 0) (aA (gv 1) (aA (gc Fk.t39 Tp.Xj hr bK gk (aA (gv 0) (aA (gv 3) (aA (gv 4) (aA (gv 1) aK))))) aK)))))) (aH (bY pH)
 aN) aN)
 aN) aN)
 (aH (gK (vC (vB (ju (vA hr) (cF (gv 0) aL) aL) (vB (ju (vA hr) (cF (gv 1) aL) aL) (vB (ju (vA hr) (cF (gv 1) aL) aL) (Af (ju (OJ hr) (gc Fk.G7 Tp.Ej hr bK gk (aA (gv 0) (aA (gQ (aA (cQ tX aL (cF (gv 1) aL)) (aA (cQ tX aL (cF (gv 1) aL)) aK))) aK))) (gv 5))))))) (aH (bY pH)
 aN) aN)
 (aH (zij 6 (au (top 60)) N48 ["_law_one"] ["_law_web_here"] [0] nd rfl jl rfl rfl rfl rfl Dc Dc (nF 0) Dc (tY (gc Fk.Ql Tp.Ma hr bK gk (aA (Uz rfl Tp.Qh gk (aA aL (aA (cF (gv 0) aL) aK))) aK))) (λ_ _ _ _ _ _=>(nH 0 Dc rfl Dc)) (λ_ _ _ _ _ _=>(Gy (ji (gc Fk.G7 Tp.Ej hr GC yW (aA (cG 1) (aA (cG 0) aK)))))) (λ_ _ _ _ _ _=>(cG 0)))
 (aH (bY (wN (tD (sZ hr) (cF (gv 6) aL) (gv 3)) (vq (tD (sZ hr) (cF (cF (gc Fk.Ql Tp.Ma hr bK gk (aA (cF (gv 0) aL) aK)) (zkK aL)) aL) aL))))
 aN)))))))))))
 t49:=fJ Tp.Qg ["_law_script","_law_cell_here","_law_pen_here","_law_web_here","_law_turn"] zoi λ_ _ _ _ _ _ hr=>(aH (yQ vH rfl rfl (tY (cQ oX (wO (aA (gc Fk.t40 Tp.Xk hr bK gk (aA (gv 0) (aA aL aK))) aK)) (zoj (gv 0) (Uy aL) (Uy aL)))) (Dr 1 nd rfl jl rfl) (aH (fU 2 nd rfl jl rfl (gc Fk.t41 Tp.Xl hr bK gk (aA (gv 1) aK)))
 (aH (fU 3 nd rfl jl rfl (gc Fk.t47 Tp.Xo hr bK gk (aA (gv 2) aK)))
 (aH (yQ vH rfl rfl (vG Tp.z8 gk aL) (Dr 4 nd rfl jl rfl) (aH (gK (nG (ji (gc Fk.XM Tp.Qf hr bK gk (aA (gv 3) (aA (gc Fk.Mp Tp.G6 hr bK gk (aA (gv 2) aK)) (aA (gc Fk.Mp Tp.G6 hr bK gk (aA (gv 2) aK)) aK)))))) (aH (bY pH)
 aN) aN)
 aN))
 (aH (gK (nG (ji (gc Fk.XM Tp.Qf hr bK gk (aA (gQ (aA (cF (gv 3) aL) (aA (gQ aK) aK))) (aA (gc Fk.Mp Tp.G6 hr bK gk (aA (gv 2) aK)) (aA (gc Fk.Mp Tp.G6 hr bK gk (aA (gv 2) aK)) aK)))))) (aH (bY pH)
 aN) aN)
 aN)))))
 (aH (bY pH)
 aN))
theorem zh9(Tp:Top K mg):∀k,Fs P w K mg base k
 |0=>⟨cY,cY,cY,cY,cY,cY,cY,cY,cY,cY,zhr,cY,cY,cY,cY,cY,cY,cY,cY,cY,cY,cY,cY,cY,cY,cY,cY,cY,cY,cY,cY,cY,cY,cY,cY,cY,cY,cY,cY,cY,cY,cY,cY,cY,cY,cY,cY,cY,cY,cY⟩
 |k+1=>zi8 Tp (zh9 Tp k)
end
theorem all_mk{l:PySem.W.OpenLaw}{w:World}{K:W.Frag}{h:Heap}{mg:Str->Option Value}{fa:Addr}(hm:∀ns:List Int,ns.length<=63->∃s',call aq T 60 true 49 [.d (.fl (ns.map D.int))] []=some (.ok (.d (.bl true)),s'))
  (S:rO fs ms xs lk bd K) (LH:kZ K h) (X:K.In h) (G:h.Ns mainGlobals mg) (DR:mg "law"=some (.ref fa)) :
  ∃fd:FuncData,(∀(s:Shared) (u:Value),BindsTo s fd ⟨[u],[]⟩ [("_law_script",u)])/\∀base:Heap,K.In base->base.Ns mainGlobals mg->cB l.prog w K mg base (fB l.prog w) true 60 fa fd ["_law_script"] (vh K):=by
 have Tp:Top K mg:=zmn S LH X G;have e:=DR.symm.trans Tp.Qg.m;cases e;exact⟨_,Ds Tp.Qg.f (λ_ _ _ _ _ _ _=>rfl),λbase _ _=>(zh9 Tp 60).t49.imp (zjp hm)⟩
end eF
namespace eF
open PySem Mi
theorem zhj{k:Nat}{n i:Int}{ps:List (Int×Int)}(h:Web n ps):W (call aq T (k+1) true 8 [.d (bx n ps),.d (.int i)]) [] λv s=>v=.d (.tup ((bN i ps).map .int)):=by
 refine W.call T_8 rfl ?_;unfold b8 bx;have hl:(ps.map dG).length<=100:=by rw[cR];have:=h.len;have:=h.h8;lia
 have hs:(100:Nat)<=sizeLine:=by decide
 refine Y ?_;refine qG (l:=ps) (f:=dG) (λp=>(endOf i p).map .int) (by rw[cR] at hl;lia) ?_ (λp hp=>?_) ?_
 ·refine Y ?_;exact⟨rfl,rfl⟩
 ·obtain⟨a,b⟩:=p;refine Y ?_;refine⟨rfl,λhb=>?_,λhb=>?_⟩
  ·refine Y ?_;refine W.ite (λh1=>?_) (λh1=>?_)
   ·refine Y ?_;refine⟨rfl,_,rfl,?_⟩;have h1:a=i:=by simpa using h1
    simp[endOf,h1]
   ·refine Y ?_;refine⟨rfl,_,rfl,?_⟩;simp[nM] at h1 hb;rcases hb with hb|hb
    ·exact absurd hb h1
    ·simp[endOf,h1,hb]
  ·simp[nM] at hb;simp[endOf,hb]
 ·have he:ps.filterMap (λp=>(endOf i p).map D.int)=(bN i ps).map D.int:=by unfold bN;rw[List.map_filterMap]
  rw[he];refine Y ?_;refine Aj (zc3 (zhi ?_ (zd4 h i))) ?_
  ·have:=QC (endOf i) ps;have:=h.len;have:=h.h8;unfold bN
   lia
  exact Y trivial
section
variable {al:Bool}{n k:Nat}{es:Nat->List Int}{A:Int->Int->Bool}{F:Fr}{p:Nat}{x y:Int}
theorem zm9{k':Nat}(hx:0<=x/\x<k)(hy:0<=y/\y<k):W (call aq T (k'+1) true 11 [.d (jz al n k es A),.d (.int x),.d (.int y)]) [] λv s=>v=.d (.bl (A x y)):=by
 refine W.call zof rfl ?_;unfold Wd jz;refine Y ?_;refine gB (tL hx.1 (znC hx.1 hx.2)) ?_;refine Y ?_;refine gB (tL hy.1 (V_ hy.1 hy.2)) ?_;exact Y trivial
theorem Mq{k':Nat}(B:Bo n k es A)(v:Fv n k F)(hp:p<n)(hx:0<=x/\x<k):W (call aq T (k'+2) true 12 [.d (jz al n k es A),.d (jy F),.d (.int p),.d (.int x)]) [] λv s=>v=.d (jy (settle es A F p x)):=by
 refine W.call zog rfl ?_;unfold Wf jy;have ud:(100:Nat)<=sizeLine:=by decide
 have hn:=B.hn;have hv:=v.len;have ebo:jz al n k es A=.ob 0 [.fl (Eh n es),.tup ((g8 k).map .int),.fl (wZ k A),.bl al]:=rfl;refine Y ?_;refine KaX rfl ?_;refine Y ?_;refine⟨_,zim gV (by rw[cR];lia),?_⟩;refine Y ?_;refine gB (tL gV (zkT gV)) ?_;refine Y ?_;refine Ak (λi J s=>s=[.lst ((((es p).take i).foldl (gD (A x)) (F.set p none)).map bJ)]/\∃a5:Option Xv,J=[some (.d (jz al n k es A)),some (.d (.tup (F.map bJ))),some (.d (.int p)),some (.d (.int x)),some (.l 0),a5]) ⟨?_,_,rfl⟩ (λi z J s e hI=>?_) (λJ s hI=>?_)
 ·show [SO.lst ((F.map bJ).set p .non)]=_;rw[List.take_zero,List.foldl_nil,List.map_set];rfl
 ·obtain⟨rfl,a5,rfl⟩:=hI;rw[gM] at e;cases ei:(es p)[i]? with
  |none=>
   rw[pL,ei] at e;cases e
  |some q=>
   rw[pL,ei] at e;cases e;have hq:=B.mem p hp q (eG ei);have ht:(es p).take (i+1)=(es p).take i++[q]:=by rw[Ng,ei];rfl
   rw[ht,List.foldl_append,List.foldl_cons,List.foldl_nil];have hG:(((es p).take i).foldl (gD (A x)) (F.set p none)).length=n:=by rw[V5,pP,hv]
   have lo:∀L,(((es p).take i).foldl (gD (A x)) (F.set p none))[q.toNat]?=some (some L)->(∀y∈L,0<=y/\y<k)/\L.length<=24:=λL hL=>by
    rw[V6 q.toNat (λe he=>(B.mem p hp e (List.mem_of_mem_take he)).1) (by rw[pP];lia),qK gV] at hL;have hz:∀L',F[q.toNat]?=some (some L')->(∀y∈L',0<=y/\y<k)/\L'.length<=24:=λL' h=>⟨v.lo _ L' h,v.ll _ L' h⟩;split at hL
    ·obtain⟨c,e1,e2⟩:=lu.mp hL;cases c with
     |none=>cases e2
     |some L'=>
      cases e2;exact⟨λy hy=>(hz L' e1).1 y (pO.mp hy).1,jW (Hj _ _) (hz L' e1).2⟩
    ·exact hz L hL
   generalize ((es p).take i).foldl (gD (A x)) (F.set p none)=G at hG lo ⊢;obtain⟨c,ec⟩ : ∃c,G[q.toNat]?=some c:=⟨_,cZ gV⟩;refine Y ?_;refine gB (tL hq.1 (Lx ec)) ?_;refine Y ?_;cases c with
   |none=>
    refine Y ?_;exact⟨_,rfl,by rw[zhk ec],_,rfl⟩
   |some L=>
    obtain⟨l1,l2⟩:=lo L ec;refine Y ?_;refine qG (l:=L) (f:=D.int) (λy=>if A x y=true then some (.int y) else none) gV ?_ (λy hy=>?_) ?_
    ·refine Y ?_;refine gB (tL hq.1 (Lx ec)) ?_;show W (src (.d (.tup (L.map .int)))) _ _;refine Y ?_;exact⟨rfl,rfl⟩
    ·refine Y ?_;refine W.cm rfl rfl (W.c0 (zm9 hx (l1 y hy)) ?_);refine Y ?_;refine⟨rfl,λhb=>?_,λhb=>?_⟩
     ·refine Y ?_;exact⟨rfl,_,rfl,by rw[if_pos hb]⟩
     ·rw[if_neg (by rw[hb];decide)]
    ·rw[zc0 (α:=Unit)];refine Y ?_;refine⟨_,zim hq.1 (by rw[cR];lia),?_⟩;refine Y ?_;refine⟨_,rfl,?_,_,rfl⟩;rw[zjI,ec];rfl
 ·obtain⟨rfl,a5,rfl⟩:=hI;rw[cR,pL,Fe];refine Y ?_;rfl
theorem zif{k':Nat}(B:Bo n k es A)(v:Fv n k F)(hp:p<n):W (call aq T (k'+1) true 13 [.d (jz al n k es A),.d (jy F),.d (.int p)]) [] λv s=>v=.d (.int (dO es F p)):=by
 refine W.call zoC rfl ?_;unfold Wg jy jz;have ud:(100:Nat)<=sizeLine:=by decide
 have hn:=B.hn;have hv:=v.len;have hl:=B.len p hp;refine Y ?_;refine qG (l:=es p) (f:=D.int) (λe=>if ((λe:Int=>(F[e.toNat]?.join).isSome) e)=true then some (.int e) else none) gV ?_ (λe he=>?_) ?_
 ·refine Y ?_;refine gB (tL gV (zkT gV)) ?_;rw[pL];refine Y ?_;exact⟨rfl,rfl⟩
 ·have hq:=B.mem p hp e he;obtain⟨c,ec⟩ : ∃c,F[e.toNat]?=some c:=⟨_,cZ gV⟩;refine Y ?_;refine gB (tL hq.1 (Lx ec)) ?_;refine Y ?_;have hc:(F[e.toNat]?.join).isSome=c.isSome:=by rw[ec];rfl
  have hd:(!(bJ c).oH)=c.isSome:=by cases c<;>rfl
  rw[hd];refine⟨rfl,λhb=>?_,λhb=>?_⟩
  ·refine Y ?_;exact⟨rfl,_,rfl,if_pos (hc.trans hb)⟩
  ·exact if_neg (λz=>by rw[hc.symm.trans z] at hb;cases hb)
 ·rw[zc0 (α:=Unit)];refine Y ?_;show Xv.d (.int (((((es p).filter _).map D.int).length:Nat):Int))=_;rw[cR];rfl
theorem ziz{k':Nat}(B:Bo n k es A)(v:Fv n k F):W (call aq T (k'+2) true 14 [.d (jz al n k es A),.d (jy F)]) [] λv s=>v=.d (jy (bnd es F)):=by
 refine W.call zoq rfl ?_;unfold Wh;have ud:(100:Nat)<=sizeLine:=by decide
 have hn:=B.hn;have hv:=v.len;refine Y ?_;refine qG (l:=F.zipIdx 0) (f:=λq=>.tup [.int q.2,bJ q.1]) (λq=>some (bJ (if 0<dO es F q.2 then q.1 else none))) (by rw[List.length_zipIdx];lia) ?_ (λq hq=>?_) ?_
 ·refine KaN ?_;refine Y ?_;refine KaM ?_;rw[zbv];exact⟨rfl,rfl⟩
 ·obtain⟨c,i⟩:=q;have hi:i<n:=by
   have:=List.mem_zipIdx hq
   lia
  refine Y ?_;refine⟨rfl,λ_=>?_,λhb=>by cases hb⟩;refine Y ?_;refine W.cm rfl rfl (W.c0 (zif B v hi) ?_);refine Y ?_;refine W.ite (λh1=>?_) (λh1=>?_)
  ·refine Y ?_;have h1:0<dO es F i:=by simpa using h1
   exact⟨rfl,_,rfl,by rw[if_pos h1]⟩
  ·refine Y ?_;have h1:¬0<dO es F i:=by simpa using h1
   exact⟨rfl,_,rfl,by rw[if_neg h1];rfl⟩
 ·rw[vO];refine Y ?_;show Xv.d (.tup _)=_;unfold jy bnd;rw[List.mapIdx_eq_zipIdx_map,xG];rfl
end
section
variable {al:Bool}{n k:Nat}{es:Nat->List Int}{A:Int->Int->Bool}{F:Fr}{p:Nat}{x y:Int}
theorem XQ{k':Nat}(B:Bo n k es A)(v:Fv n k F):W (call aq T (k'+2) true 15 [.d (jz al n k es A),.d (jy F)]) [] λv s=>(v=.d .non/\∀(i:Nat) L,F[i]?≠some (some L))\/∃(p:Nat) (L:List Int),v=.d (.int p)/\F[p]?=some (some L):=by
 refine W.call zoc rfl ?_;unfold Wi;have ud:(100:Nat)<=sizeLine:=by decide
 have hn:=B.hn;have hv:=v.len;refine Y ?_;refine KaM ?_;refine Ak (λi J s=>∃(rs:List (List Int)) (a3 a4:Option Xv),s=[.lst (rs.map λr=>D.tup (r.map .int))]/\J=[some (.d (jz al n k es A)),some (.d (jy F)),some (.l 0),a3,a4]/\rs.length<=i/\(∀r∈rs,∃(a b:Int) (p:Nat) (L:List Int),r=[a,b,(p:Int)]/\F[p]?=some (some L))/\(rs=[]->∀j,j<i->∀L,F[j]?≠some (some L))) ⟨[],_,_,rfl,rfl,bQ _,by simp,λ_ j hj=>absurd hj gV⟩ (λi z J s e hI=>?_) (λJ s hI=>?_)
 ·obtain⟨rs,a3,a4,rfl,rfl,hl,h1,h2⟩:=hI;rw[zgG,gM] at e;cases ei:F[i]? with
  |none=>rw[ei] at e;cases e
  |some c=>
   rw[ei] at e;cases e;have hi:i<n:=by have:=(dW.mp ei).1;lia
   cases c with
   |none=>
    refine Y ?_;refine⟨_,rfl,rs,_,_,rfl,rfl,by lia,h1,λer j hj L=>?_⟩;by_cases z:j=i
    ·rw[z,ei];exact λq=>by cases q
    ·exact h2 er j gV L
   |some L=>
    refine Y ?_;refine W.cm rfl rfl (W.c0 (zif (p:=0+i) B v gV) ?_);refine Y ?_;refine⟨by rw[cR];lia,?_⟩;refine Y ?_;refine⟨_,rfl,rs++[[(((L.map D.int).length:Nat):Int),-(dO es F (0+i):Int),((0+i:Nat):Int)]],_,_,?_,rfl,by simp;lia,λr hr=>?_,λer=>by simp at er⟩
    ·rw[wg];rfl
    ·rcases mC.mp hr with hr|hr
     ·exact h1 r hr
     ·rw[Bb.mp hr];exact⟨_,_,i,L,by rw[Nat.zero_add],ei⟩
 ·obtain⟨rs,a3,a4,rfl,rfl,hl,h1,h2⟩:=hI;rw[zez,cR] at h2;refine Y ?_;refine W.Gf ?_;refine Y ?_;refine⟨_,rfl,?_⟩;by_cases er:rs=[]
  ·subst er;refine Y ?_;refine .inl ⟨rfl,λi L e=>?_⟩;exact h2 rfl i (dW.mp e).1 L e
  ·have et:(!(rs.map λr=>D.tup (r.map .int)).isEmpty)=true:=by
    cases rs with
    |nil=>exact absurd rfl er
    |cons=>rfl
   rw[et];obtain⟨r,hr,em⟩:=zkL er;refine Y ?_;refine gB em ?_;obtain⟨a,b,p,L,rfl,ep⟩:=h1 r hr;refine Y ?_;exact .inr ⟨p,L,rfl,ep⟩
noncomputable def G8(k:Nat):Option (List Int)->Bool
 |none=>true
 |some L=>decide (L=g8 k)
theorem zdt{k':Nat}(B:Bo n k es A)(v:Fv n k F):W (call aq T (k'+1) true 16 [.d (jz al n k es A),.d (jy F)]) [] λv s=>v=.d (.bl (F.all (G8 k))):=by
 refine W.call zoo rfl ?_;unfold Wj;have ud:(100:Nat)<=sizeLine:=by decide
 have hn:=B.hn;have hv:=v.len;refine Y ?_;refine qG (l:=F) (f:=bJ) (λc=>some (.bl (G8 k c))) gV ?_ (λc hc=>?_) ?_
 ·refine Y ?_;show W (src (.d (.tup (F.map bJ)))) _ _;refine Y ?_;exact⟨rfl,rfl⟩
 ·cases c with
  |none=>
   refine Y ?_;refine⟨rfl,λ_=>?_,λhb=>by cases hb⟩;refine Y ?_;exact⟨rfl,_,rfl,rfl⟩
  |some L=>
   refine Y ?_;refine⟨rfl,λ_=>?_,λhb=>by cases hb⟩;refine Y ?_;refine gB (zlJ (f:=id)) ?_;exact⟨rfl,_,rfl,rfl⟩
 ·rw[vO];refine Y ?_;refine gB zlm ?_;rfl
end
section
variable {n k d:Int}{ps:List (Int×Int)}
theorem zgs{k':Nat}(h:Web n ps):W (call aq T (k'+2) true 9 [.d (bx n ps)]) [] λv s=>v=.d (.fl (Eh n.toNat λi=>bN i ps)):=by
 refine W.call T_9 rfl ?_;unfold b9;have ud:(100:Nat)<=sizeLine:=by decide
 have h1:=h.h1;have h8:=h.h8;refine Y ?_;refine qG (l:=List.range (n-0).toNat) (f:=λ(j:Nat)=>.int (0+j)) (λ(i:Nat)=>some (.tup ((bN i ps).map .int))) (by rw[nq];lia) ?_ (λj hj=>?_) ?_
 ·unfold bx;refine Y ?_;refine⟨by rw[jT gV gV,jT gV gV];rfl,?_⟩;exact⟨rfl,rfl⟩
 ·refine Y ?_;refine⟨rfl,λ_=>?_,λhb=>by cases hb⟩;refine Y ?_;refine W.c0 (zhj h) ?_;exact⟨rfl,_,rfl,by rw[show (0:Int)+j=j by lia]⟩
 ·rw[show (List.range (n-0).toNat).filterMap (λ(i:Nat)=>some (D.tup ((bN i ps).map .int)))=Eh n.toNat λi=>bN i ps by rw[vO,show n-0=n by lia];rfl];exact Y trivial
theorem zmh{k':Nat}{al:Bool}{A:Int->Int->Bool}(h:Web n ps){m:Nat}(hm:m<=24):W (call aq T (k'+3) true 10 [.d .any,.d (bx n ps),.d (.fl (wZ m A)),.d (.bl al)]) [] λv s=>v=.d (.tup [.fl (Eh n.toNat λi=>bN i ps),.tup ((g8 m).map .int),.fl (wZ m A),.bl al]):=by
 refine W.call zol rfl ?_;unfold b10;refine Y ?_;refine W.c0 (zgs h) ?_;have em:(wZ m A).length=m:=by unfold wZ;simp
 refine Kaj (Ka1 (ds:=[.int ((wZ m A).length:Nat)]) rfl (gB (d:=.tup ((g8 m).map .int)) (by rw[em];exact znn gV) ?_));exact Y trivial
theorem zjJ{k':Nat}(h:Web n ps)(hd:1<=d)(lZ:d<=k)(hk:k<=24):W (call aq T (k'+4) true 17 [.d (bx n ps),.d (aG k d)]) [] λv s=>v=.d (boD n.toNat k.toNat (λi=>bN i ps) (dB k d)):=by
 refine W.call zoh rfl ?_;unfold Wm aG;have ud:(100:Nat)<=sizeLine:=by decide
 have e0:(k-0).toNat=k.toNat:=by lia
 refine Y ?_;refine qG (l:=List.range (k-0).toNat) (f:=λ(j:Nat)=>.int (0+j)) (λ(j:Nat)=>some (.bl ((λj:Int=>decide (d<=j/\d<=k-j)) j))) (by rw[nq];lia) ?_ (λj hj=>?_) ?_
 ·refine Y ?_;refine⟨by rw[jT gV gV,jT gV gV];rfl,?_⟩;exact⟨rfl,rfl⟩
 ·refine Y ?_;refine⟨rfl,λ_=>?_,λhb=>by cases hb⟩;refine Y ?_;refine⟨rfl,_,rfl,?_⟩
  congr 2
  rw[v9]
  split<;>lia
 ·rw[vO,e0];refine Y ?_;refine W.mk (vs:=[.d (bx n ps),.d (.fl (wZ k.toNat (dB k d))),.d (.bl true)]) ?_ rfl (zmh h gV);refine Y ?_;refine qG (l:=List.range (k-0).toNat) (f:=λ(j:Nat)=>.int (0+j)) (λ(a:Nat)=>some (.fl ((List.range k.toNat).map λ(b:Nat)=>.bl (dB k d a b)))) (by rw[nq];lia) ?_ (λa ha=>?_) ?_
  ·refine Y ?_;refine⟨by rw[jT gV gV,jT gV gV];rfl,?_⟩;exact⟨rfl,rfl⟩
  ·have ha:=uf.mp ha;refine Y ?_;refine⟨rfl,λ_=>?_,λhb=>by cases hb⟩;refine Y ?_;refine qG (l:=List.range (k-0).toNat) (f:=λ(j:Nat)=>.int (0+j)) (λ(b:Nat)=>some (.bl (dB k d a b))) (by rw[nq];lia) ?_ (λb hb=>?_) ?_
   ·refine Y ?_;refine⟨by rw[jT gV gV,jT gV gV];rfl,?_⟩;exact⟨rfl,rfl⟩
   ·have hb:=uf.mp hb;refine Y ?_;refine⟨rfl,λ_=>?_,λhb=>by cases hb⟩;refine Y ?_;by_cases c:(0:Int)<=(0+a:Int)-(0+b)
    ·refine gB (tL c (V_ (f:=λj=>decide (d<=j/\d<=k-j)) c gV)) ?_;refine⟨rfl,_,rfl,?_⟩;unfold dB
     congr 2
     rw[v9,rM hd]
     lia
    ·refine gB (zm7 (x:=.bl (decide (d<=a-b+k/\d<=k-(a-b+k)))) gV (by rw[cR,nq];lia) ?_) ?_
     ·rw[cR,nq];refine(V_ (f:=λj=>decide (d<=j/\d<=k-j)) gV gV).trans ?_
      congr 3
      simp
      lia
     ·refine⟨rfl,_,rfl,?_⟩;unfold dB
      congr 2
      rw[v9,rM hd]
      lia
   ·rw[vO,e0];refine Y ?_;exact⟨rfl,_,rfl,rfl⟩
  ·rw[vO,e0];refine Y ?_;exact⟨rfl,rfl⟩
end
theorem zjR{k:Nat}{i:Int}:W (call aq T (k+1) true 0 [.d (.int i)]) [] λv s=>v=.d (.bl true):=W.eq (a:=.d (.bl true)) (s':=[]) rfl rfl
theorem XR{k:Nat}{a b:D}:W (call aq T (k+1) true 2 [.d (.tup [a,b]),.d (.int 2)]) [] λv s=>v=.d (.bl true):=W.eq (a:=.d (.bl true)) (s':=[]) rfl rfl
theorem gF{k:Nat}{i a b:Int}:W (call aq T (k+2) true 1 [.d (.int i),.d (.int a),.d (.int b)]) [] λv s=>v=.d (.bl (decide (a<=i/\i<=b))):=by
 refine W.call T_1 rfl ?_;unfold b1;refine Y ?_;refine W.c0 zjR ?_;refine Y ?_;refine W.ite (λh1=>?_) (λh1=>?_)
 ·refine Y ?_;have:=jU h1;simp[this]
 ·refine Y ?_;simp at h1;have:¬(a<=i/\i<=b):=by lia
  simp[this]
theorem zmr{k:Nat}{i:Int}(h1:1<=i)(h2:i<=8):W (call aq T (k+3) true 4 [.d (.int i)]) [] λv s=>v=.d (.bl true):=by
 refine W.call T_4 rfl ?_;unfold b4;refine Y ?_;exact jQ rfl (gF.imp λv s e=>⟨_,e,by rw[gH (And.intro h1 h2)]⟩)
theorem zgV{k:Nat}{n i:Int}:W (call aq T (k+3) true 5 [.d (.int n),.d (.int i)]) [] λv s=>v=.d (.bl (decide (0<=i/\i<n))):=by
 refine W.call T_5 rfl ?_;unfold b5;refine Y ?_;exact jQ rfl (gF.imp λv s e=>⟨_,e,by rw[v9.mpr (show 0<=i/\i<=n-1↔0<=i/\i<n by lia)]⟩)
theorem znL{k:Nat}{n:Int}{p:Int×Int}(h:0<=p.1/\p.1<p.2/\p.2<n):W (call aq T (k+4) true 6 [.d (.int n),.d (dG p)]) [] λv s=>v=.d (.bl true):=by
 obtain⟨a,b⟩:=p;obtain⟨h1,h2,h3⟩:=h;unfold dG;dsimp only at h1 h2 h3 ⊢;refine W.call T_6 rfl ?_;unfold b6;refine Y ?_;refine W.c0 XR ?_;refine Y ?_;refine W.c0 zgV ?_;rw[gH (show 0<=a/\a<n by lia)];refine Y ?_;refine W.c0 zgV ?_;rw[gH (show 0<=b/\b<n by lia)];refine Y ?_;rw[gH h2]
theorem zkj{k:Nat}{n:Int}{ps:List (Int×Int)}(h:Web n ps):W (call aq T (k+5) true 3 [.d (bx n ps)]) [] λv s=>v=.d (.bl true):=by
 refine W.call T_3 rfl ?_;unfold b3 bx;have hl:(ps.map dG).length<=100:=by rw[cR];have:=h.len;have:=h.h8;lia
 have hs:(100:Nat)<=sizeLine:=by decide
 refine Y ?_;refine W.c0 XR ?_;refine Y ?_;refine W.c0 (zmr h.h1 h.h8) ?_;refine Y ?_;refine Kau (c:=ps.map dG) (λ_=>.bl true) gV ?_ (λx hx=>?_) ?_
 ·refine Y ?_;exact⟨rfl,rfl⟩
 ·obtain⟨p,hp,rfl⟩:=nJ.mp hx;refine Y ?_;exact jQ rfl ((znL (h.tie p hp)).imp λv s e=>⟨_,e,rfl,rfl⟩)
 ·refine Y ?_;refine gB (Vq ?_) ?_
  ·intro x hx;obtain⟨_,_,e⟩:=nJ.mp hx;exact e.symm
  refine Y ?_;refine Kau (c:=List.zipWith (λ(p q:D)=>D.tup [p,q]) (ps.map dG) ((ps.map dG).drop 1)) (λ_=>.bl true) (by rw[List.length_zipWith];lia) ?_ (λx hx=>?_) ?_
  ·refine Y ?_;rw[Vr];exact⟨rfl,rfl⟩
  ·obtain⟨p,q,rfl,hpq⟩:=zib h.inc x hx;refine Y ?_;rw[zn3 hpq];exact⟨rfl,rfl⟩
  ·refine Y ?_;refine gB (Vq ?_) ?_
   ·intro x hx;obtain⟨_,_,e⟩:=nJ.mp hx;exact e.symm
   rfl
theorem Qn{k:Nat}{n:Int}{ps:List (Int×Int)}(h:Web n ps):W (call aq T (k+6) true 7 [.d (bx n ps)]) [] λv s=>∃d,v=.d d:=by
 refine W.call T_7 rfl ?_;unfold b7;refine Y ?_;refine W.c0 (zkj h) ?_;refine Y ?_;exact⟨_,rfl⟩
theorem zhl{k':Nat}{k d:Int}(hd:1<=d)(lZ:d<=k)(hk:k<=24):W (call aq T (k'+3) true 18 [.d (aG k d)]) [] λv s=>v=.d (.bl true):=by
 refine W.call zov rfl ?_;unfold Wn aG;refine Y ?_;refine W.c0 XR ?_;refine Y ?_;refine W.c0 gF ?_;rw[gH (show 1<=k/\k<=24 by lia)];refine Y ?_;refine W.c0 gF ?_;rw[gH (show 1<=d/\d<=k by lia)]
theorem Qo{k':Nat}{k d:Int}(hd:1<=d)(lZ:d<=k)(hk:k<=24):W (call aq T (k'+4) true 20 [.d (aG k d)]) [] λv s=>∃d,v=.d d:=by
 refine W.call zoB rfl ?_;unfold Wq;refine Y ?_;refine W.c0 (zhl hd lZ hk) ?_;refine Y ?_;exact⟨_,rfl⟩
theorem zh3{k':Nat}{k d x:Int}:W (call aq T (k'+3) true 19 [.d (aG k d),.d (.int x)]) [] λv s=>v=.d (.bl (decide (0<=x/\x<k))):=by
 refine W.call zoy rfl ?_;unfold Wo aG;refine Y ?_;exact jQ rfl (gF.imp λv s e=>⟨_,e,by rw[v9.mpr (show 0<=x/\x<=k-1↔0<=x/\x<k by lia)]⟩)
theorem zfS{k':Nat}{k d a b:Int}:W (call aq T (k'+1) true 21 [.d (aG k d),.d (.int a),.d (.int b)]) [] λv s=>v=.d (.int (kW k a b)):=W.eq (a:=.d (.int (kW k a b))) (s':=[]) rfl rfl
section
variable {al:Bool}{n k:Nat}{es:Nat->List Int}{A:Int->Int->Bool}
def Told(al:Bool)(n k:Nat)(es:Nat->List Int)(A:Int->Int->Bool)(f l m c:Nat):Prop:=∀F kvs,Fv n k F->unset F<=m->lJ es A kvs->kvs.length+c<sizeLine->
 W (call aq T l true f [.d (jz al n k es A),.l 0,.d (jy F)]) [.dct kvs] λv s=>∃b kvs',v=.d (.bl b)/\(b=true↔Sat es A F)/\s=[.dct kvs']/\lJ es A kvs'/\kvs'.length<=kvs.length+c
theorem X3{l m c:Nat}(B:Bo n k es A)(H:Told al n k es A 32 (l+2) m c){F:Fr}{p:Nat}{L:List Int}{kvs:iV}(v:Fv n k F)(hu:unset F<=m+1)(hL:F[p]?=some (some L))(ha:lJ es A kvs)(hl:kvs.length+k*c<sizeLine) :
  W (call aq T (l+3) true 31 [.d (jz al n k es A),.l 0,.d (jy F),.d (.int p)]) [.dct kvs] λv s=>∃kvs',s=[.dct kvs']/\lJ es A kvs'/\kvs'.length<=kvs.length+k*c /\
   ((v=.d .non/\∀x∈L,¬Sat es A (settle es A F p x))\/∃x∈L,v=.d (.int x)/\Sat es A (settle es A F p x)/\∀y∈L,y<x->¬Sat es A (settle es A F p y)):=by
 refine W.call W5 rfl ?_;unfold PX;have ud:(100:Nat)<=sizeLine:=by decide
 have hp:=rQ v.len hL;have hLk:L.length<=k:=ziw (v.so p L hL) (v.lo p L hL);refine Y ?_;refine gB (zkB gV (Lx hL)) ?_;show W (src (.d (.tup (L.map .int)))) _ _;refine Y ?_;refine Vx (λi J s=>∃(kvs':iV) (a4:Option Xv),s=[.dct kvs']/\J=[some (.d (jz al n k es A)),some (.l 0),some (.d (jy F)),some (.d (.int p)),a4]/\lJ es A kvs'/\kvs'.length<=kvs.length+i*c/\∀j y,j<i->L[j]?=some y->¬Sat es A (settle es A F p y)) ⟨kvs,_,rfl,rfl,ha,by lia,λj _ hj=>absurd hj gV⟩ (λi z J s e hI=>?_) (λJ s hI=>?_)
 ·obtain⟨kvs',a4,rfl,rfl,h1,h2,h3⟩:=hI;rw[gM] at e;cases ei:L[i]? with
  |none=>rw[ei] at e;cases e
  |some x=>
   rw[ei] at e;cases e;have hi:i<L.length:=(dW.mp ei).1;have hx:=eG ei;have hc:(i+1)*c<=k*c:=MP _ gV;have nu:(i+1)*c=i*c+c:=Nat.succ_mul ..;refine Y ?_;refine W.cm rfl rfl (W.c0 (Mq B v hp (v.lo p L hL x hx)) ?_);refine Y ?_;have hu2:=Lw (es:=es) (A:=A) (x:=x) hL;refine tK (s:=[]) rfl ((H _ kvs' (Ls B v hp) gV h1 gV).imp λv1 s1=>?_);rintro⟨b,dD,rfl,hb,rfl,g1,g2⟩;refine⟨_,_,rfl,rfl,?_⟩;refine Y ?_;cases b with
   |true=>
    refine Y ?_;refine .inr ⟨_,rfl,?_⟩;refine⟨dD,rfl,g1,by lia,.inr ⟨x,hx,rfl,hb.mp rfl,λy hy cH=>?_⟩⟩;obtain⟨j,hj,ej⟩:=zx hy;refine h3 j y ?_ (by rw[cZ hj,ej]);obtain⟨_,ex⟩:=dW.mp ei;exact Nat.lt_of_not_le λq=>by
     rcases Ht q with q|q
     ·have:=G_.mp (v.so p L hL) i j hi hj q
      lia
     ·subst q;lia
   |false=>
    refine Y ?_;refine .inl ⟨_,rfl,dD,_,rfl,rfl,g1,by lia,λj y hj ej=>?_⟩;by_cases q:j=i
    ·subst q;rw[ei] at ej;cases ej;exact λz=>by cases hb.mpr z
    ·exact h3 j y gV ej
 ·obtain⟨kvs',a4,rfl,rfl,h1,h2,h3⟩:=hI;rw[cR] at h2 h3;have hc:L.length*c<=k*c:=MP _ hLk;refine Y ?_;refine⟨kvs',rfl,h1,by lia,.inl ⟨rfl,λx hx=>?_⟩⟩;obtain⟨j,hj,ej⟩:=zx hx;exact h3 j x hj (by rw[cZ hj,ej])
theorem zhg{l:Nat}(B:Bo n k es A):Told al n k es A 33 (l+3) 0 0:=by
 intro F kvs v hu ha hl;refine W.call P0 rfl ?_;unfold LR;refine Y ?_;refine W.cm rfl rfl (jQ rfl ((XQ B v).imp λx s=>?_));rintro(⟨rfl,hz⟩|⟨p,L,rfl,hL⟩)
 ·refine⟨_,rfl,?_⟩;refine Y ?_;exact⟨true,kvs,rfl,⟨λ_=>V7 hz,λ_=>rfl⟩,rfl,ha,by lia⟩
 ·exact absurd hL (zfc gV p L)
theorem zh5{l m c:Nat}(B:Bo n k es A)(m_:1<=k)(dJ:al=true->∀t a b:Int,0<=a->a<k->0<=b->b<k->A ((a+t)%k) ((b+t)%k)=A a b)(H:∀j,Told al n k es A 32 (l+2+j) m c):Told al n k es A 33 (l+4) (m+1) (k*c):=by
 intro F kvs v hu ha hl;refine W.call P0 rfl ?_;unfold LR;have hkc:1*c<=k*c:=MP _ m_;refine Y ?_;refine W.cm rfl rfl (jQ rfl ((XQ B v).imp λx s=>?_));rintro(⟨rfl,hz⟩|⟨p,L,rfl,hL⟩)
 ·refine⟨_,rfl,?_⟩;refine Y ?_;exact⟨true,kvs,rfl,⟨λ_=>V7 hz,λ_=>rfl⟩,rfl,ha,by lia⟩
 ·refine⟨_,rfl,?_⟩;have hp:=rQ v.len hL;cases al with
  |false=>
   refine Y ?_;refine tK (s:=[]) rfl ((X3 B (H 0) v hu hL ha gV).imp λv1 s1=>?_);rintro⟨dD,rfl,g1,g2,h⟩;rcases h with ⟨rfl,gU⟩|⟨x,hx,rfl,hs,_⟩
   ·refine⟨_,_,rfl,rfl,?_⟩;refine Y ?_;refine⟨false,dD,rfl,⟨λz=>(by cases z),λz=>?_⟩,rfl,g1,g2⟩;obtain⟨x,hx,q⟩:=(G3 B v hp hL).mp z;exact absurd q (gU x hx)
   ·refine⟨_,_,rfl,rfl,?_⟩;refine Y ?_;exact⟨true,dD,rfl,⟨λ_=>(G3 B v hp hL).mpr ⟨x,hx,hs⟩,λ_=>rfl⟩,rfl,g1,g2⟩
  |true=>
  have dJ:=dJ rfl;refine Y ?_;refine W.cm rfl rfl (W.c0 (zdt B v) ?_);refine Y ?_;cases eb:F.all (G8 k) with
  |true=>
   have all:∀(i:Nat) L,F[i]?=some (some L)->L=g8 k:=λi L h=>jU (jo.mp eb _ (eG h));refine Y ?_;refine W.cm rfl rfl (W.c0 (Mq B v hp ⟨by lia,by lia⟩) ?_);refine Y ?_;have hu2:=Lw (es:=es) (A:=A) (x:=0) hL;refine tK (s:=[]) rfl ((H 1 _ kvs (Ls B v hp) gV ha gV).imp λv1 s1=>?_);rintro⟨b,dD,rfl,hb,rfl,g1,g2⟩;refine⟨_,_,rfl,rfl,?_⟩;refine Y ?_;exact⟨b,dD,rfl,hb.trans (V8 B v hp m_ dJ all (all p L hL▸hL)).symm,rfl,g1,by lia⟩
  |false=>
   refine Y ?_;refine tK (s:=[]) rfl ((X3 B (H 0) v hu hL ha gV).imp λv1 s1=>?_);rintro⟨dD,rfl,g1,g2,h⟩;rcases h with ⟨rfl,gU⟩|⟨x,hx,rfl,hs,_⟩
   ·refine⟨_,_,rfl,rfl,?_⟩;refine Y ?_;refine⟨false,dD,rfl,⟨λz=>(by cases z),λz=>?_⟩,rfl,g1,g2⟩;obtain⟨x,hx,q⟩:=(G3 B v hp hL).mp z;exact absurd q (gU x hx)
   ·refine⟨_,_,rfl,rfl,?_⟩;refine Y ?_;exact⟨true,dD,rfl,⟨λ_=>(G3 B v hp hL).mpr ⟨x,hx,hs⟩,λ_=>rfl⟩,rfl,g1,g2⟩
theorem zh4{l m c:Nat}(B:Bo n k es A)(m_:1<=k)(dJ:∀t a b:Int,0<=a->a<k->0<=b->b<k->A ((a+t)%k) ((b+t)%k)=A a b)(H:Told true n k es A 32 (l+3) m c){F:Fr}{kvs:iV}(v:Fv n k F)(hu:unset F<=m+1)(eb:F.all (G8 k)=true)(ha:lJ es A kvs)(hl:kvs.length+c<sizeLine) :
  W (call aq T (l+4) true 33 [.d (jz true n k es A),.l 0,.d (jy F)]) [.dct kvs] λv s=>∃b kvs',v=.d (.bl b)/\(b=true↔Sat es A F)/\s=[.dct kvs']/\lJ es A kvs'/\kvs'.length<=kvs.length+c:=by
 refine W.call P0 rfl ?_;unfold LR;refine Y ?_;refine W.cm rfl rfl (jQ rfl ((XQ B v).imp λx s=>?_));rintro(⟨rfl,hz⟩|⟨p,L,rfl,hL⟩)
 ·refine⟨_,rfl,?_⟩;refine Y ?_;exact⟨true,kvs,rfl,⟨λ_=>V7 hz,λ_=>rfl⟩,rfl,ha,by lia⟩
 ·refine⟨_,rfl,?_⟩;have hp:=rQ v.len hL;refine Y ?_;refine W.cm rfl rfl (W.c0 (zdt B v) ?_);refine Y ?_;have all:∀(i:Nat) L,F[i]?=some (some L)->L=g8 k:=λi L h=>jU (jo.mp eb _ (eG h));rw[eb];refine Y ?_;refine W.cm rfl rfl (W.c0 (Mq B v hp ⟨by lia,by lia⟩) ?_);refine Y ?_;have hu2:=Lw (es:=es) (A:=A) (x:=0) hL;refine tK (s:=[]) rfl ((H _ kvs (Ls B v hp) gV ha gV).imp λv1 s1=>?_);rintro⟨b,dD,rfl,hb,rfl,g1,g2⟩;refine⟨_,_,rfl,rfl,?_⟩;refine Y ?_;exact⟨b,dD,rfl,hb.trans (V8 B v hp m_ dJ all (all p L hL▸hL)).symm,rfl,g1,by lia⟩
theorem zly{l c:Nat}(B:Bo n k es A){F:Fr}{kvs:iV}(v:Fv n k F)(ha:lJ es A kvs)(hl:kvs.length+(1+c)<sizeLine)(H:W (call aq T (l+3) true 33 [.d (jz al n k es A),.l 0,.d (jy (bnd es F))]) [.dct kvs] λv s=>∃b kvs',v=.d (.bl b)/\(b=true↔Sat es A (bnd es F))/\s=[.dct kvs']/\lJ es A kvs'/\kvs'.length<=kvs.length+c) :
  W (call aq T (l+4) true 32 [.d (jz al n k es A),.l 0,.d (jy F)]) [.dct kvs] λv s=>∃b kvs',v=.d (.bl b)/\(b=true↔Sat es A F)/\s=[.dct kvs']/\lJ es A kvs'/\kvs'.length<=kvs.length+(1+c):=by
 refine W.call zoI rfl ?_;unfold Wx;refine Y ?_;refine gB (zm1 (f:=id)) ?_;by_cases e0:some []∈F
 ·rw[gH e0];refine Y ?_;obtain⟨i,hi,ei⟩:=zx e0;refine⟨false,kvs,rfl,⟨λz=>(by cases z),λz=>absurd z (zjz (i:=i) (by rw[cZ hi,ei]))⟩,rfl,ha,by lia⟩
 ·rw[mz e0];have ne:∀(i:Nat) L,F[i]?=some (some L)->L≠[]:=λi L h q=>by subst q;exact e0 (eG h)
  have sb:=zjH B v ne;refine Y ?_;refine W.cm rfl rfl (W.c0 (ziz B v) ?_);refine Y ?_;refine W.CK rfl rfl (Px _) rfl ?_;cases eg:cg ((bnd es F).map cellK) kvs with
  |some d=>
   obtain⟨b,rfl,hb⟩:=ha _ _ eg;refine Y ?_;refine W.ql rfl rfl (Px _) rfl eg ?_;refine Y ?_;exact⟨b,kvs,rfl,hb.trans sb,rfl,ha,by lia⟩
  |none=>
   refine Y ?_;refine WS.dput rfl rfl (Px _) ?_;refine Y ?_;refine tK (s:=[]) rfl (H.imp λv1 s1=>?_);rintro⟨b,dD,rfl,hb,rfl,g1,g2⟩;refine⟨_,_,rfl,rfl,?_⟩;refine⟨_,dD,rfl,rfl,by lia,?_⟩;refine Y ?_;refine W.ql (v:=.bl b) rfl rfl (Px _) rfl (by rw[zeQ,if_pos rfl]) ?_;refine Y ?_;have:=zhn (q:=(bnd es F).map cellK) (d:=.bl b) (kvs:=dD);exact⟨b,_,rfl,hb.trans sb,rfl,zj7 g1 hb,by lia⟩
theorem zlT{l m c:Nat}(B:Bo n k es A)(H:Told al n k es A 33 (l+3) m c):Told al n k es A 32 (l+4) m (1+c):=by
 intro F kvs v hu ha hl;have hu2:=zdc (es:=es) (F:=F);exact zly B v ha hl (H _ kvs (zid v) gV ha gV)
theorem Qp(B:Bo n k es A)(m_:1<=k)(dJ:al=true->∀t a b:Int,0<=a->a<k->0<=b->b<k->A ((a+t)%k) ((b+t)%k)=A a b):∀m j,Told al n k es A 32 (3*m+4+j) m (cnt k m)
 |0,j=>by
  rw[show 3*0+4+j=j+4 by lia];exact zlT (c:=0) B (zhg B)
 |m+1,j=>by
  rw[show 3*(m+1)+4+j=(3*m+3+j)+4 by lia];refine zlT B ?_;rw[show 3*m+3+j+3=(3*m+2+j)+4 by lia];refine zh5 B m_ dJ λi=>?_;rw[show 3*m+2+j+2+i=3*m+4+(j+i) by lia];exact Qp B m_ dJ m (j+i)
theorem zhD{m j:Nat}(B:Bo n k es A)(m_:1<=k)(dJ:∀t a b:Int,0<=a->a<k->0<=b->b<k->A ((a+t)%k) ((b+t)%k)=A a b){F:Fr}{kvs:iV}(v:Fv n k F)(hu:unset F<=m+1)(eb:F.all (G8 k)=true)(ha:lJ es A kvs)(hl:kvs.length+(1+cnt k m)<sizeLine) :
  W (call aq T (3*(m+1)+4+j) true 32 [.d (jz true n k es A),.l 0,.d (jy F)]) [.dct kvs] λv s=>∃b kvs',v=.d (.bl b)/\(b=true↔Sat es A F)/\s=[.dct kvs']/\lJ es A kvs'/\kvs'.length<=kvs.length+(1+cnt k m):=by
 rw[show 3*(m+1)+4+j=(3*m+3+j)+4 by lia];refine zly B v ha hl ?_;rw[show 3*m+3+j+3=(3*m+2+j)+4 by lia];have hu2:=zdc (es:=es) (F:=F);refine zh4 B m_ dJ ?_ (zid v) (jW hu2 hu) ?_ ha gV
 ·rw[show 3*m+2+j+3=3*m+4+(j+1) by lia];exact Qp B m_ (λ_=>dJ) m (j+1)
 ·refine jo.mpr λc hc=>?_;cases c with
  |none=>rfl
  |some L=>
   obtain⟨i,hi,ei⟩:=zx hc;have:=Ef (es:=es) (F:=F) (i:=i) (L:=L) (by rw[cZ hi,ei]);exact jo.mp eb _ (eG this.1)
theorem zl7{l m c:Nat}(B:Bo n k es A)(m_:1<=k)(dJ:∀t a b:Int,0<=a->a<k->0<=b->b<k->A ((a+t)%k) ((b+t)%k)=A a b)(H:Told true n k es A 32 (l+2) m c){F:Fr}{p:Nat}{kvs:iV}(v:Fv n k F)(hu:unset F<=m+1)(all:∀(i:Nat) L,F[i]?=some (some L)->L=g8 k)(hL:F[p]?=some (some (g8 k)))(tQ:Sat es A F)(ha:lJ es A kvs)(hl:kvs.length+c<sizeLine) :
  W (call aq T (l+3) true 31 [.d (jz true n k es A),.l 0,.d (jy F),.d (.int p)]) [.dct kvs] λv s=>∃kvs',s=[.dct kvs']/\lJ es A kvs'/\kvs'.length<=kvs.length+c /\
   ((v=.d .non/\∀x∈g8 k,¬Sat es A (settle es A F p x))\/∃x∈g8 k,v=.d (.int x)/\Sat es A (settle es A F p x)/\∀y∈g8 k,y<x->¬Sat es A (settle es A F p y)):=by
 refine W.call W5 rfl ?_;unfold PX;have hp:=rQ v.len hL;have h0:=(V8 B v hp m_ dJ all hL).mp tQ;refine Y ?_;refine gB (zkB gV (Lx hL)) ?_;show W (src (.d (.tup ((g8 k).map .int)))) _ _;refine Y ?_;refine Vx (λi J s=>i=0/\∃a4:Option Xv,s=[.dct kvs]/\J=[some (.d (jz true n k es A)),some (.l 0),some (.d (jy F)),some (.d (.int p)),a4]) ⟨rfl,_,rfl,rfl⟩ (λi z J s e hI=>?_) (λJ s hI=>?_)
 ·obtain⟨rfl,a4,rfl,rfl⟩:=hI;rw[gM] at e;have ei:(g8 k)[0]?=some 0:=by unfold g8;rw[gM,Eu gV];rfl
  rw[ei] at e;cases e;have hx:(0:Int)∈g8 k:=eY.mpr ⟨by lia,by lia⟩;refine Y ?_;refine W.cm rfl rfl (W.c0 (Mq B v hp ⟨by lia,by lia⟩) ?_);refine Y ?_;have hu2:=Lw (es:=es) (A:=A) (x:=0) hL;refine tK (s:=[]) rfl ((H _ kvs (Ls B v hp) gV ha gV).imp λv1 s1=>?_);rintro⟨b,dD,rfl,hb,rfl,g1,g2⟩;have eb:b=true:=hb.mpr h0;subst eb;refine⟨_,_,rfl,rfl,?_⟩;refine Y ?_;refine .inr ⟨_,rfl,?_⟩;exact⟨dD,rfl,g1,g2,.inr ⟨0,hx,rfl,h0,λy hy cH=>absurd (eY.mp hy).1 gV⟩⟩
 ·obtain⟨hz,_⟩:=hI;rw[cR] at hz;have:(g8 k).length=k:=by unfold g8;simp
  lia
end
section
variable {al:Bool}{n k:Nat}{es:Nat->List Int}{A:Int->Int->Bool}
theorem zi2{k':Nat}(B:Bo n k es A)(m_:1<=k)(dJ:al=true->∀t a b:Int,0<=a->a<k->0<=b->b<k->A ((a+t)%k) ((b+t)%k)=A a b){F0:Fr}(v0:Fv n k F0)(all:∀i,i<n->∃L,F0[i]?=some (some L)){c0 c1:Nat}(hz:c0+c1+tot k (n-1)<sizeLine)
  (Hc:W (call aq T (3*n+4+k') true 32 [.d (jz al n k es A),.l 0,.d (jy F0)]) [.dct []] λv s=>∃b kvs',v=.d (.bl b)/\(b=true↔Sat es A F0)/\s=[.dct kvs']/\lJ es A kvs'/\kvs'.length<=c0)
  (Hf:∀kvs L,F0[0]?=some (some L)->Sat es A F0->lJ es A kvs->kvs.length<=c0->W (call aq T (3*n+1+k'+3) true 31 [.d (jz al n k es A),.l 0,.d (jy F0),.d (.int (0:Nat))]) [.dct kvs] λv s=>∃kvs',s=[.dct kvs']/\lJ es A kvs'/\kvs'.length<=kvs.length+c1 /\
   ((v=.d .non/\∀x∈L,¬Sat es A (settle es A F0 0 x))\/∃x∈L,v=.d (.int x)/\Sat es A (settle es A F0 0 x)/\∀y∈L,y<x->¬Sat es A (settle es A F0 0 y))) :
  W (call aq T (3*n+5+k') true 30 [.d (jz al n k es A),.d (.fl (F0.map bJ))]) [] λv s=>(v=.d .non/\¬Sat es A F0)\/∃hs:List Int,v=.d (.tup (hs.map .int))/\hs.length=n/\qH es A F0 (λj=>at' hs j)/\∀g,qH es A F0 g->∀j,j<n->(∀t,t<j->g t=at' hs t)->at' hs j<=g j:=by
 have hn:=B.hn;have hl:=v0.len;rw[show 3*n+5+k'=(3*n+4+k')+1 by lia];refine W.call zox rfl ?_;unfold Ww;have ud:(100:Nat)<=sizeLine:=by decide
 have Kg:unset F0<=n:=by unfold unset;rw[<-hl];exact List.countP_le_length
 refine Y ?_;refine W.sO ?_;refine Y ?_;refine tK (s:=[]) rfl (Hc.imp λv1 s1=>?_);rintro⟨b,kvs,rfl,hb,rfl,g1,g2⟩;refine⟨_,_,rfl,rfl,?_⟩;refine Y ?_;cases b with
 |false=>
  refine Y ?_;exact .inl ⟨rfl,λz=>by cases hb.mpr z⟩
 |true=>
  have tQ:=hb.mp rfl;refine Y ?_;have Mr:((F0.map bJ).length:Int)=n:=by rw[cR,hl]
  refine⟨by rw[Mr,jT gV gV,jT gV gV];rfl,?_⟩;rw[Mr];refine Ak (c:=(List.range ((n:Int)-0).toNat).map λ(j:Nat)=>.int (0+j)) (λi J s=>∃(kvs':iV) (Fi:Fr) (hs:List Int) (a5 a6:Option Xv),s=[.dct kvs',.lst (hs.map .int)]/\J=[some (.d (jz al n k es A)),some (.d (.fl (F0.map bJ))),some (.d (jy Fi)),some (.l 0),some (.l 1),a5,a6]/\lJ es A kvs'/\(i=0->Fi=F0/\kvs'.length<=c0)/\(1<=i->kvs'.length+tot k (n-i)<=c0+c1+tot k (n-1))/\hs.length=i/\Fv n k Fi/\unset Fi<=n-i/\(∀j,i<=j->j<n->∃L,Fi[j]?=some (some L))/\Sat es A Fi /\
   (∀g,qH es A Fi g->qH es A F0 λj=>if j<i then at' hs j else g j)/\(∀g,qH es A F0 g->(∀t,t<i->g t=at' hs t)->qH es A Fi g)/\(∀g,qH es A F0 g->∀j,j<i->(∀t,t<j->g t=at' hs t)->at' hs j<=g j)) ?_ (λi z J s e hI=>?_) (λJ s hI=>?_)
  ·exact⟨kvs,F0,[],_,_,rfl,rfl,g1,λ_=>⟨rfl,g2⟩,λz=>absurd z gV,rfl,v0,by lia,λj _ hj=>all j hj,tQ,λg s=>by simpa using s,λg s _=>s,λg _ j hj=>absurd hj gV⟩
  ·obtain⟨kvs',Fi,hs,a5,a6,rfl,rfl,i1,i0,i2,i3,i4,i5,i6,i7,i8,i9,Qq⟩:=hI;rw[gM] at e;cases ei:(List.range ((n:Int)-0).toNat)[i]? with
   |none=>rw[ei] at e;cases e
   |some j=>
    rw[ei] at e;cases e;obtain⟨hil,ej⟩:=dW.mp ei;rw[List.getElem_range] at ej;rw[nq] at hil;subst ej;obtain⟨L,hL⟩:=i6 i (bQ _) gV;have ez:((0:Int)+(i:Nat))=(i:Int):=by lia
    dsimp only;rw[ez];have hp:=rQ i4.len hL;obtain⟨m,hm⟩ : ∃m,n-i=m+1:=⟨n-i-1,by lia⟩;rw[hm] at i2 i5;have et:tot k (m+1)=k*cnt k m+tot k m:=rfl;refine Y ?_;have lv:3*n+4+k'=(3*n+1+k')+3:=by lia
    refine Kar (s:=[]) rfl ?_;rw[lv];have H:Told al n k es A 32 (3*n+1+k'+2) m (cnt k m):=by
     rw[show 3*n+1+k'+2=3*m+4+(3*n-3*m+k'-1) by lia];exact Qp B m_ dJ m _
    obtain⟨c2,nu,hW⟩ : ∃c2,(kvs'.length+c2+tot k m<=c0+c1+tot k (n-1))/\W (call aq T (3*n+1+k'+3) true 31 [.d (jz al n k es A),.l 0,.d (jy Fi),.d (.int i)]) [.dct kvs'] λv s=>∃dD,s=[.dct dD]/\lJ es A dD/\dD.length<=kvs'.length+c2 /\
      ((v=.d .non/\∀x∈L,¬Sat es A (settle es A Fi i x))\/∃x∈L,v=.d (.int x)/\Sat es A (settle es A Fi i x)/\∀y∈L,y<x->¬Sat es A (settle es A Fi i y)):=by
     by_cases c:i=0
     ·subst c;obtain⟨rfl,q⟩:=i0 rfl;have em:n-1=m:=by lia
      rw[em];exact⟨c1,by lia,Hf kvs' L hL tQ i1 q⟩
     ·have i2:=i2 gV;refine⟨k*cnt k m,by lia,X3 B H i4 i5 hL i1 gV⟩
    clear i2;refine hW.imp λv1 s1=>?_;rintro⟨dD,rfl,q1,q2,h⟩;rcases h with ⟨rfl,gU⟩|⟨x,hx,rfl,BW,cH⟩
    ·obtain⟨x,hx,q⟩:=(G3 B i4 hp hL).mp i7;exact absurd q (gU x hx)
    ·refine⟨_,_,rfl,rfl,?_⟩;refine Y ?_;refine W.cm rfl rfl (W.c0 (Mq (k':=3*n+2+k') B i4 hp (i4.lo i L hL x hx)) ?_);refine Y ?_;refine⟨by rw[cR];lia,?_⟩;refine Y ?_;have ag:∀j:Nat,j<i->at' (hs++[x]) j=at' hs j:=λj hj=>zmA gV gV;have ai:at' (hs++[x]) (i:Int)=x:=by rw[<-i3];exact zj0
     refine⟨_,rfl,dD,settle es A Fi i x,hs++[x],_,_,?_,rfl,q1,λz=>absurd z gV,λ_=>by rw[show n-(i+1)=m by lia];lia,by simp[i3],Ls B i4 hp,?_,λj hj hjn=>?_,BW,λg s=>?_,λg s hg=>?_,λg s j hj hg=>?_⟩
     ·rw[wg];rfl
     ·have:=Lw (es:=es) (A:=A) (x:=x) hL
      lia
     ·obtain⟨M,hM⟩:=i6 j gV hjn;exact⟨_,Lr B i4.len hp gV hM⟩
     ·have s2:=i8 _ (zev B i4 hp hL hx s);refine⟨λj M hM=>?_,λj e M N h1 h2 he=>?_⟩
      ·have:=s2.mem j M hM
       try dsimp only at this ⊢
       by_cases c1:j<i
       ·rw[if_pos c1] at this;rw[if_pos gV,ag j c1];exact this
       ·rw[if_neg c1] at this;by_cases c2:j=i
        ·rw[if_pos c2] at this;rw[if_pos gV,c2,ai];exact this
        ·rw[if_neg c2] at this;rw[if_neg gV];exact this
      ·have ff:∀j:Nat,(if j<i then at' hs j else if j=i then x else g j)=if j<i+1 then at' (hs++[x]) j else g j:=λj=>by
        by_cases c1:j<i
        ·rw[if_pos c1,if_pos gV,ag j c1]
        ·rw[if_neg c1];by_cases c2:j=i
         ·rw[if_pos c2,if_pos gV,c2,ai]
         ·rw[if_neg c2,if_neg gV]
       have:=s2.fit j e M N h1 h2 he
       try dsimp only at this ⊢
       rw[<-ff,<-ff];exact this
     ·have s2:=i9 g s λt ht=>by rw[hg t gV,ag t ht]
      have s3:=Pz B i4 hp hL s2;rw[hg i gV,ai] at s3;exact s3
     ·by_cases c1:j<i
      ·rw[ag j c1];exact Qq g s j c1 λt ht=>by rw[hg t ht,ag t gV]
      ·have:j=i:=by lia
       subst this;rw[ai];have s2:=i9 g s λt ht=>by rw[hg t ht,ag t ht]
       have s3:=Pz B i4 hp hL s2;exact xJ.mp λq=>cH (g j) (s2.mem j L hL) q ⟨g,s3⟩
  ·obtain⟨kvs',Fi,hs,a5,a6,rfl,rfl,i1,i0,i2,i3,i4,i5,i6,i7,i8,i9,Qq⟩:=hI;rw[cR,nq,show ((n:Int)-0).toNat=n by lia] at i3 i8 Qq;refine Y ?_;refine .inr ⟨hs,rfl,i3,?_,Qq⟩;obtain⟨g,sg⟩:=i7;have s2:=i8 g sg;refine⟨λj M hM=>?_,λj e M N h1 h2 he=>?_⟩
   ·have:=s2.mem j M hM;rw[if_pos (rQ hl hM)] at this;exact this
   ·have:=s2.fit j e M N h1 h2 he;rw[if_pos (rQ hl h1),if_pos (rQ hl h2)] at this;exact this
end
section
variable {n k d:Int}{ps:List (Int×Int)}
theorem Qs{k':Nat}(h:Web n ps)(hd:1<=d)(lZ:d<=k)(hk:k<=24)(hz:1+cnt k.toNat (n.toNat-1)+cnt k.toNat (n.toNat-1)+tot k.toNat (n.toNat-1)<sizeLine):W (call aq T (k'+40) true 29 [.d (bx n ps),.d (aG k d)]) [] λv s=>(v=.d .non/\∀hs,¬bM n k d ps hs)\/∃hs,v=.d (.tup (hs.map .int))/\bM n k d ps hs/\∀g,bM n k d ps g->Ge g hs:=by
 refine W.call zn8 rfl ?_;unfold Wv;have ud:(100:Nat)<=sizeLine:=by decide
 have h1:=h.h1;have h8:=h.h8;refine Y ?_;refine W.c1 (Qn h) λ_=>?_;refine Y ?_;refine W.c1 (Qo hd lZ hk) λ_=>?_;refine Y ?_;refine W.c0 (zjJ h hd lZ hk) ?_;refine Y ?_;refine qG (l:=List.range (n-0).toNat) (f:=λ(j:Nat)=>.int (0+j)) (λ(_:Nat)=>some (bJ (some (g8 k.toNat)))) (by rw[nq];lia) ?_ (λj hj=>?_) ?_
 ·unfold bx;refine Y ?_;refine⟨by rw[jT gV gV,jT gV gV];rfl,?_⟩;exact⟨rfl,rfl⟩
 ·refine Y ?_;refine⟨rfl,λ_=>?_,λhb=>by cases hb⟩;refine Y ?_;exact⟨rfl,_,rfl,rfl⟩
 ·have ef:(List.range (n-0).toNat).filterMap (λ(_:Nat)=>some (bJ (some (g8 k.toNat))))=(jm n k).map bJ:=by
   rw[vO,show n-0=n by lia];unfold jm;rw[List.map_replicate];rw[List.map_const',nq]
  rw[ef];refine Y ?_;have lv:k'+39=3*n.toNat+5+(k'+34-3*n.toNat):=by lia
  refine jQ rfl ?_;show W (Mi.call aq T (k'+39) true _ _) _ _;rw[lv];have B:=zlr h hd hk;have m_:1<=k.toNat:=by lia
  have dJ:∀t a b:Int,0<=a->a<(k.toNat:Nat)->0<=b->b<(k.toNat:Nat)->dB k d ((a+t)%(k.toNat:Nat)) ((b+t)%(k.toNat:Nat))=dB k d a b:=λt a b a0 ak b0 bk=>by rw[show ((k.toNat:Nat):Int)=k by lia] at *;exact zfr hd t a b a0 ak b0 bk
  obtain⟨m,hm⟩ : ∃m,n.toNat=m+1:=⟨n.toNat-1,by lia⟩;have em:n.toNat-1=m:=by lia
  have Kg:unset (jm n k)<=m+1:=by
   have:=(PJ (n:=n) hk).len;rw[<-hm,<-this];exact List.countP_le_length
  have al:∀(i:Nat) L,(jm n k)[i]?=some (some L)->L=g8 k.toNat:=λi L e=>(Lz e).2;have eb:(jm n k).all (G8 k.toNat)=true:=jo.mpr λc hc=>by rw[List.eq_of_mem_replicate hc];exact gH rfl
  rw[em] at hz;refine(zi2 (c0:=1+cnt k.toNat m) (c1:=cnt k.toNat m) B m_ (λ_=>dJ) (PJ hk) (λi hi=>⟨_,PB hi⟩) (by rw[em];exact hz) ?_ (λkvs L hL tQ ha hl=>?_)).imp λv s=>?_
  ·rw[hm];have:=zhD (m:=m) (j:=k'+34-3*(m+1)) (kvs:=[]) B m_ dJ (PJ hk) Kg eb (λF d e=>by cases e) (by simp;lia);rw[hm] at this;simpa using this
  ·have e:=al 0 L hL;subst e;refine zl7 B m_ dJ ?_ (PJ hk) Kg al hL tQ ha gV;rw[show 3*n.toNat+1+(k'+34-3*n.toNat)+2=3*m+4+(k'+33-3*m) by lia];exact Qp B m_ (λ_=>dJ) m _
  rintro(⟨rfl,gU⟩|⟨hs,rfl,hl,X4,wL⟩)
  ·refine⟨_,rfl,?_⟩;refine Y ?_;exact .inl ⟨rfl,λhs hh=>gU ⟨_,zeF h hd hh⟩⟩
  ·refine⟨_,rfl,?_⟩;refine Y ?_;refine .inr ⟨hs,rfl,zgZ h hl X4,λg hg j hj ha=>?_⟩;exact wL _ (zeF h hd hg) j gV ha
end
theorem small{n k:Int}(hn:n<=8)(hk:k<=8):1+cnt k.toNat (n.toNat-1)+cnt k.toNat (n.toNat-1)+tot k.toNat (n.toNat-1)<sizeLine:=by
 have:=Wa (k:=k.toNat) (k2:=8) (m:=n.toNat-1) (m2:=7) gV gV;have:=zeC (k:=k.toNat) (k2:=8) (m:=n.toNat-1) (m2:=7) gV gV;have e:1+cnt 8 7+cnt 8 7+tot 8 7<sizeLine:=by decide
 lia
section
variable {n k d:Int}{ps:List (Int×Int)}
theorem Ms{k':Nat}(h:Web n ps)(hr:1<=d/\d<=k/\k<=24)(hz:1+cnt k.toNat (n.toNat-1)+cnt k.toNat (n.toNat-1)+tot k.toNat (n.toNat-1)<sizeLine):W (call aq T (k'+41) true 35 [.d (bx n ps),.d (aG k d)]) [] λv s=>∃b,v=.d (.bl b)/\(b=true↔∃g,bM n k d ps g):=by
 refine W.call zoa rfl ?_;unfold Wy;refine Y ?_;refine jQ rfl ((Qs (k':=k') h hr.1 hr.2.1 hr.2.2 hz).imp λv s hv=>?_);rcases hv with ⟨rfl,gU⟩|⟨hs,rfl,hh,hg⟩
 ·refine⟨_,rfl,?_⟩;refine Y ?_;exact⟨false,rfl,⟨λe=>(by cases e),λ⟨g,hg⟩=>absurd hg (gU g)⟩⟩
 ·refine⟨_,rfl,?_⟩;refine Y ?_;exact⟨true,rfl,⟨λ_=>⟨hs,hh⟩,λ_=>rfl⟩⟩
noncomputable def rD(r:Int×Int):D:=aG r.1 r.2
theorem X5{k':Nat}(h1:1<=n)(h8:n<=8):W (call aq T (k'+4) true 34 [.d (.int n)]) [] λv s=>v=.d (.fl ((fG n).map rD)):=by
 have:n=1\/n=2\/n=3\/n=4\/n=5\/n=6\/n=7\/n=8:=by lia
 rcases this with rfl|rfl|rfl|rfl|rfl|rfl|rfl|rfl
 ·exact W.eq (a:=.d (.fl ((fG 1).map rD))) (s':=[]) (by kernel_rfl) rfl
 ·exact W.eq (a:=.d (.fl ((fG 2).map rD))) (s':=[]) (by kernel_rfl) rfl
 ·exact W.eq (a:=.d (.fl ((fG 3).map rD))) (s':=[]) (by kernel_rfl) rfl
 ·exact W.eq (a:=.d (.fl ((fG 4).map rD))) (s':=[]) (by kernel_rfl) rfl
 ·exact W.eq (a:=.d (.fl ((fG 5).map rD))) (s':=[]) (by kernel_rfl) rfl
 ·exact W.eq (a:=.d (.fl ((fG 6).map rD))) (s':=[]) (by kernel_rfl) rfl
 ·exact W.eq (a:=.d (.fl ((fG 7).map rD))) (s':=[]) (by kernel_rfl) rfl
 ·exact W.eq (a:=.d (.fl ((fG 8).map rD))) (s':=[]) (by kernel_rfl) rfl
theorem zih{j:Nat}{r:Int×Int}(e:(fG n)[j]?=some r):((fG n).map rD)[((j:Int)).toNat]?=some (rD r):=by
 rw[show ((j:Int)).toNat=j by lia,gM,e];rfl
theorem zcr{k':Nat}(h:Web n ps):W (call aq T (k'+42) true 36 [.d (bx n ps)]) [] λv s=>∃r,v=.d (rD r)/\vY n ps r:=by
 have h8:=h.h8;have h1:=h.h1;have hwk:oR=1000000000000:=rfl;have ew:bx n ps=.tup [.int n,.tup (ps.map dG)]:=rfl;have hlen:(fG n).length<=12:=Hj _ LQ;obtain⟨jl,ejl⟩:=List.getElem?_of_mem (zhZ h1 h8);have hjl:=(dW.mp ejl).1;refine W.call zoK rfl ?_;unfold Wz;refine Y ?_;refine W.c1 (Qn h) λ_=>?_;unfold bx;refine Y ?_;refine W.c0 (X5 h1 h8) ?_;refine Y ?_;refine WS.wh (λq J s'=>∃j:Nat,J=[some (.d (bx n ps)),some (.d (.fl ((fG n).map rD))),some (.d (.int j))]/\j<(fG n).length/\(∀(i:Nat) q,i<j->(fG n)[i]?=some q->∀hs,¬bM n q.1 q.2 ps hs)/\q=(fG n).length-j) (m:=(fG n).length) gV ⟨0,rfl,by lia,λi q hi=>absurd hi (Hx _),rfl⟩ λq J s' hI=>?_;obtain⟨j,rfl,hj,gU,rfl⟩:=hI;obtain⟨r,er⟩ : ∃r,(fG n)[j]?=some r:=⟨_,cZ hj⟩;have hr:=Ar (eG er);refine Y ?_;refine gB (tL gV (zih er)) ?_;refine Y ?_;refine jQ rfl ((Ms (k':=k') (k:=r.1) (d:=r.2) h gV (small h8 gV)).imp λv s hv=>?_);obtain⟨b,rfl,hb⟩:=hv;refine⟨_,rfl,?_⟩;refine Y ?_;refine⟨λe=>?_,λe=>?_⟩
 ·have t_:b=false:=by cases b<;>simp_all
  have NQ:∀hs,¬bM n r.1 r.2 ps hs:=λhs hh=>by rw[hb.mpr ⟨hs,hh⟩] at t_;cases t_
  have Mu:∀(i:Nat) q,i<j+1->(fG n)[i]?=some q->∀hs,¬bM n q.1 q.2 ps hs:=λi q hi e'=>by
   rcases Ht (Q0 hi) with z|z
   ·exact gU i q z e'
   ·subst z;rw[er] at e';cases e';exact NQ
  have hj2:j+1<(fG n).length:=by
   refine Nat.not_le.mp λz=>?_;exact Mu jl _ gV ejl _ (ziF h (Int.le_refl _))
  refine Y ?_;refine WS.aug rfl rfl ?_;refine Y ?_;exact .inl ⟨_,(fG n).length-(j+1),rfl,by lia,j+1,by rfl,hj2,Mu,rfl⟩
 ·have t_:b=true:=by cases b<;>simp_all
  refine Y ?_;refine gB (tL gV (zih er)) ?_;refine Y ?_;exact⟨r,rfl,j,er,hb.mp t_,gU⟩
theorem zjj{k':Nat}(h:Web n ps):W (call aq T (k'+43) true 37 [.d (bx n ps)]) [] λv s=>∃r hs,v=.d (.tup (hs.map .int))/\vY n ps r/\bM n r.1 r.2 ps hs/\∀g,bM n r.1 r.2 ps g->Ge g hs:=by
 have h8:=h.h8;refine W.call zop rfl ?_;unfold WD;refine Y ?_;refine jQ rfl ((zcr (k':=k') h).imp λv s hv=>?_);obtain⟨r,rfl,hs⟩:=hv;have hr:=Ar hs.mem;refine⟨_,rfl,?_⟩;unfold rD;refine Y ?_;refine jQ rfl ((Qs (k':=k'+2) h hr.1 hr.2.1 gV (small h8 gV)).imp λv s hv=>?_);rcases hv with ⟨rfl,gU⟩|⟨KH,rfl,hh,hg⟩
 ·obtain⟨_,_,⟨g,hg⟩,_⟩:=hs;exact absurd hg (gU g)
 ·refine⟨_,rfl,?_⟩;refine Y ?_;exact⟨r,KH,rfl,hs,hh,hg⟩
end
theorem zmO{k':Nat}{xs:List D}{n:Int}(h:(xs.length:Int)=n):W (call aq T (k'+1) true 2 [.d (.tup xs),.d (.int n)]) [] λv s=>v=.d (.bl true):=by
 refine W.call T_2 rfl ?_;unfold b2;refine Y ?_;simp[h]
section
variable {n k d:Int}{ps:List (Int×Int)}{hs:List Int}
theorem zcx{k':Nat}(hn:n<=8)(hl:(hs.length:Int)=n)(hlo:∀x∈hs,0<=x/\x<k):W (call aq T (k'+4) true 25 [.d (bx n ps),.d (aG k d),.d (.tup (hs.map .int))]) [] λv s=>v=.d (.bl true):=by
 refine W.call zoz rfl ?_;unfold Wt bx;have ud:(100:Nat)<=sizeLine:=by decide
 refine Y ?_;refine W.c0 (zmO (by rw[cR];exact hl)) ?_;refine Y ?_;refine qG (l:=hs) (f:=D.int) (λ_=>some (.bl true)) gV ?_ (λx hx=>?_) ?_
 ·refine Y ?_;exact⟨rfl,rfl⟩
 ·refine Y ?_;refine⟨rfl,λ_=>?_,λhb=>by cases hb⟩;refine Y ?_;refine W.c0 zh3 ?_;rw[gH (hlo x hx)];exact⟨rfl,_,rfl,rfl⟩
 ·refine Y ?_;refine gB (Vq ?_) ?_
  ·intro x hx;obtain⟨_,_,e⟩:=Ew.mp hx;exact(cI e).symm
  exact Y trivial
theorem zjm{k':Nat}(h:Web n ps)(hh:bM n k d ps hs):W (call aq T (k'+2) true 28 [.d (bx n ps),.d (aG k d),.d (.tup (hs.map .int))]) [] λv s=>v=.d .non:=by
 refine W.call W4 rfl ?_;unfold PN;have hl:=hh.len;have er:aG k d=.tup [.int k,.int d]:=rfl;refine Y ?_;refine Ak (λi J s=>s=[]/\∃(a b:Option Xv),J=[some (.d (bx n ps)),some (.d (aG k d)),some (.d (.tup (hs.map .int))),a,b]) ⟨rfl,_,_,rfl⟩ (λi x J s e hI=>?_) (λJ s hI=>?_)
 ·obtain⟨rfl,a,b,rfl⟩:=hI;have hm:=eG e;obtain⟨p,hp,rfl⟩:=nJ.mp hm;have ht:=h.tie p hp;have hf:=hh.fit p hp;obtain⟨a,b⟩:=p;dsimp only at ht hf;refine Y ?_;refine gB (O_ gV gV) ?_;refine Y ?_;refine gB (O_ gV gV) ?_;refine Y ?_;refine W.c0 zfS ?_;unfold aG;refine Y ?_;rw[mz gV];refine Y ?_;exact⟨_,rfl,rfl,_,_,rfl⟩
 ·obtain⟨rfl,a,b,rfl⟩:=hI;exact Y trivial
theorem zgb{k':Nat}(h:Web n ps)(hh:bM n k d ps hs):W (call aq T (k'+5) true 26 [.d (bx n ps),.d (aG k d),.d (.tup (hs.map .int))]) [] λv s=>v=.d (.bl true):=by
 refine W.call W3 rfl ?_;unfold PL;refine Y ?_;refine W.c0 (zcx h.h8 hh.len hh.lo) ?_;refine Y ?_;refine W.c0 (zjm h hh) ?_;refine Y ?_;rfl
theorem zgJ{k':Nat}(h:Web n ps)(hd:1<=d)(lZ:d<=k)(hk:k<=24)(hh:bM n k d ps hs):W (call aq T (k'+7) true 27 [.d (bx n ps),.d (aG k d),.d (.tup (hs.map .int))]) [] λv s=>∃d,v=.d d:=by
 refine W.call zow rfl ?_;unfold Wu;refine Y ?_;refine W.c1 (Qn h) λ_=>?_;refine Y ?_;refine W.c1 (Qo hd lZ hk) λ_=>?_;refine Y ?_;refine W.c0 (zgb h hh) ?_;refine Y ?_;exact⟨_,rfl⟩
end
section
variable {n k d m:Int}{ps:List (Int×Int)}{hs:List Int}
theorem zhY{k':Nat}(h:Web n ps)(hl:(hs.length:Int)=n):W (call aq T (k'+2) true 28 [.d (bx n ps),.d (aG k d),.d (.tup (hs.map .int))]) [] λv s=>v=.d (GX k d ps hs):=by
 refine W.call W4 rfl ?_;unfold PN;refine Y ?_;refine Vx (λi J s=>s=[]/\(∃(a b:Option Xv),J=[some (.d (bx n ps)),some (.d (aG k d)),some (.d (.tup (hs.map .int))),a,b])/\rP k d (ps.take i) hs=[]) ⟨rfl,⟨_,_,rfl⟩,rfl⟩ (λi x J s e hI=>?_) (λJ s hI=>?_)
 ·obtain⟨rfl,⟨a,b,rfl⟩,hI⟩:=hI;rw[gM,lu] at e;obtain⟨p,ep,rfl⟩:=e;have ht:=h.tie p (eG ep);obtain⟨p1,p2⟩:=p;dsimp only at ht;refine Y ?_;refine gB (O_ gV gV) ?_;refine Y ?_;refine gB (O_ gV gV) ?_;refine Y ?_;refine W.c0 zfS ?_;unfold aG;refine Y ?_;have et:ps.take (i+1)=ps.take i++[(p1,p2)]:=by rw[Ng,ep];rfl
  have ec:rP k d (ps.take (i+1)) hs=if kW k (at' hs p1) (at' hs p2)<d then [(p1,p2)] else []:=by
   unfold rP at hI ⊢;rw[et,List.filter_append,hI,List.nil_append,List.filter_cons];simp only[List.filter_nil,Fb]
  refine WS.ite (λhb=>?_) (λhb=>?_)
  ·have hb:=jU hb;rw[if_pos hb] at ec;refine Y ?_;refine .inr ⟨_,rfl,?_⟩;have:rP k d ps hs=(p1,p2)::rP k d (ps.drop (i+1)) hs:=by
    have e1:ps=ps.take (i+1)++ps.drop (i+1):=(List.take_append_drop ..).symm;unfold rP at ec ⊢
    conv=>lhs;rw[e1,List.filter_append,ec]
    rfl
   unfold GX;rw[this];rfl
  ·have hb:¬kW k (at' hs p1) (at' hs p2)<d:=λz=>hb (gH z);rw[if_neg hb] at ec;refine Y ?_;exact .inl ⟨_,rfl,rfl,⟨_,_,rfl⟩,ec⟩
 ·obtain⟨rfl,⟨a,b,rfl⟩,hI⟩:=hI;rw[cR,Fe] at hI;refine Y ?_;unfold GX;rw[hI]
theorem zkU{k':Nat}(h:Web n ps)(hr:1<=d/\d<=k/\k<=24)(hl:(hs.length:Int)=n)(hlo:∀x∈hs,0<=x/\x<k):W (call aq T (k'+8) true 24 [.d (bx n ps),.d (aG k d),.d (.tup (hs.map .int))]) [] λv s=>v=.d (.bl (decide (rP k d ps hs=[]))):=by
 have key:∀kk,W (call aq T (kk+5) true 26 [.d (bx n ps),.d (aG k d),.d (.tup (hs.map .int))]) [] λv s=>v=.d (.bl (decide (rP k d ps hs=[]))):=λkk=>by
  refine W.call W3 rfl ?_;unfold PL;refine Y ?_;refine W.c0 (zcx h.h8 hl hlo) ?_;refine Y ?_;refine W.c0 (zhY h hl) ?_;refine Y ?_;show Xv.d (.bl (GX k d ps hs).oH)=_;rw[zkx]
 refine W.call zoA rfl ?_;unfold Ws;refine Y ?_;refine W.c1 (Qn h) λ_=>?_;refine Y ?_;refine W.c1 (Qo hr.1 hr.2.1 hr.2.2) λ_=>?_;refine Y ?_;exact jQ rfl ((key _).imp λv s e=>⟨_,e,rfl⟩)
theorem zfZ{k':Nat}(h:Web n ps)(hr:1<=d/\d<=k/\k<=24)(hh:bM n k d ps hs):W (call aq T (k'+8) true 24 [.d (bx n ps),.d (aG k d),.d (.tup (hs.map .int))]) [] λv s=>v=.d (.bl true):=by
 have:=zkU (k':=k') h hr hh.len hh.lo;rw[gH (ziT hh)] at this;exact this
end
def pq(o:SO):Prop:=∃a b:Int,o=.lst [.int a,.int b]/\0<=a/\(b=0\/b=1)
theorem zmJ{k:Nat}{o:SO}{m:Int}(ho:pq o)(hm:0<m)(hm2:m<1073741824):W (call aq T (k+1) true 42 [.l 0,.d (.int m)]) [o] λv s=>∃d o',v=.d d/\s=[o']/\(∃r:Int,d=.int r/\0<=r/\r<m)/\pq o':=by
 obtain⟨a,b,rfl,ha,hb⟩:=ho;refine W.call zor rfl ?_;unfold WQ;rcases hb with rfl|rfl
 ·refine Y ?_;exact⟨_,_,rfl,rfl,⟨_,rfl,zE _ gV,Bc _ hm⟩,⟨_,_,rfl,zE _ Tc,.inl rfl⟩⟩
 ·refine Y ?_;exact⟨_,_,rfl,rfl,⟨_,rfl,zE _ gV,Bc _ hm⟩,⟨_,_,rfl,Int.ediv_nonneg ha gV,.inr rfl⟩⟩
theorem zng{k:Nat}{n:Int}:W (call aq T (k+1) true 41 [.d (.int n)]) [] λv s=>∃i o,v=.l i/\s[i]?=some o/\pq o:=by
 refine W.call zoJ rfl ?_;unfold WM;refine Y ?_;refine⟨0,_,rfl,rfl,⟨_,_,rfl,?_,?_⟩⟩
 ·split<;>lia
 ·have:∀c:Bool,(if c=true then (1:Int) else 0)=0\/(if c=true then (1:Int) else 0)=1:=by intro c;cases c<;>simp
  exact this _
theorem xq{k:Nat}{o:SO}{m:Int}{P:Xv->S->Prop}(ho:pq o)(hm:0<m)(hm2:m<1073741824)(h:∀(r:Nat) o',(r:Int)<m->pq o'->P (.d (.int r)) [o']):W (cO (call aq T (k+1) true 42) [.l 0,.d (.int m)]) [o] P:=by
 refine KR (n:=0) (o:=o) rfl rfl ((zmJ ho hm hm2).imp λv s=>?_);rintro⟨d,o',rfl,rfl,⟨r,rfl,h0,h1⟩,hp⟩;obtain⟨n,rfl⟩:=tR h0;exact⟨_,_,rfl,rfl,h n o' h1 hp⟩
theorem zlo{k:Nat}{ns:List Int}:W (call aq T (k+1) true 40 [.d (.fl (ns.map D.int)),.d (.int 0)]) [] λv _=>∃n,v=.d (.int n):=by
 refine W.call zoH rfl ?_;unfold WL;cases ns with
 |nil=>
  refine Y ?_;exact⟨_,rfl⟩
 |cons n r=>
  refine Y ?_;refine WS.ite (λ_=>?_) (λ_=>?_)
  ·refine Y ?_;refine gB (KY (i:=0) (x:=.int n) rfl) ?_;refine Y ?_;exact⟨_,rfl⟩
  ·refine Y ?_;exact⟨_,rfl⟩
theorem zhK{k:Nat}{o:SO}{n:Int}(ho:pq o)(h1:1<=n)(h8:n<=8):W (call aq T (k+2) true 43 [.l 0,.d (.int n)]) [o] λv s=>∃ps o',v=.d (bx n ps)/\s=[o']/\Web n ps/\pq o':=by
 refine W.call zot rfl ?_;unfold WR;have hs:(100:Nat)<=sizeLine:=by decide
 refine Y ?_;refine xq ho Tc Tc λr o' hr hp=>?_;refine Y ?_;have Aa:r<3:=by lia
 refine gB (KY (x:=.int (([2,4,6]:List Int)[r]'Aa)) ?_) ?_
 ·revert Aa;revert r;intro r _ Aa;exact match r,Aa with
  |0,_=>rfl|1,_=>rfl|2,_=>rfl
  |n+3,h=>absurd h gV
 generalize ([2,4,6]:List Int)[r]=often;refine Y ?_;refine⟨by rw[jT gV gV,jT gV gV];rfl,?_⟩;refine Ak (λ(i:Nat) J s=>∃(ps:List (Int×Int)) (a:Option Xv) (o':SO),J=[some (.l 0),some (.d (.int n)),some (.d (.int often)),some (.d (.fl (ps.map dG))),a]/\s=[o']/\pq o'/\(∀p∈ps,0<=p.1/\p.1<(i:Int)/\p.1<p.2/\p.2<n)/\ps.Pairwise lx/\ps.length<=7*i)
  ⟨[],_,_,rfl,rfl,hp,by simp,by simp,by simp⟩ (λi x J s e hI=>?_) (λJ s hI=>?_)
 ·obtain⟨ps,a,o',rfl,rfl,hp,ht,Ek,hlen⟩:=hI;obtain⟨rfl,hi⟩:=Vu e;have hi8:i<8:=by lia
  refine Y ?_;refine Kat (c:=jF (0+(i:Int)+1) n) (λ(j:Nat) acc s=>∃(es:List Int) (o':SO),acc=es.map (λe=>dG (0+(i:Int),e))/\es.Pairwise (·<·)/\(∀e∈es,(i:Int)<e/\e<(i:Int)+1+j)/\s=[o']/\pq o') ?_ (λj x acc s e hJ=>?_) (λacc s hJ=>?_)
  ·refine Y ?_;refine⟨by rw[jT gV gV,jT gV gV];rfl,?_⟩;exact⟨rfl,[],_,rfl,by simp,by simp,rfl,hp⟩
  ·obtain⟨es,o',rfl,G9,Av,rfl,hp⟩:=hJ;obtain⟨rfl,hj⟩:=Vu e;have hel:(es.length:Int)<=(i:Int)+1+j-((i:Int)+1):=Vt G9 (λe he=>by have:=Av e he;lia) gV;refine Y ?_;refine xq hp Tc Tc λr o' hr hp=>?_;refine Y ?_;refine⟨λhb=>?_,λhb=>?_⟩
   ·refine Y ?_;refine⟨_,rfl,by rw[cR];lia,es++[0+(i:Int)+1+j],o',?_,?_,?_,rfl,hp⟩
    ·rw[wg];rfl
    ·rw[List.pairwise_append];refine⟨G9,by simp,λa ha b hb=>?_⟩;simp at hb;have:=Av a ha
     lia
    ·intro e he;rcases mC.mp he with he|he
     ·have:=Av e he;lia
     ·simp at he;lia
   ·exact⟨es,o',rfl,G9,λe he=>by have:=Av e he;lia,rfl,hp⟩
  ·obtain⟨es,o',rfl,G9,Av,rfl,hp⟩:=hJ;rw[Vv] at Av;have hel:(es.length:Int)<=n-((i:Int)+1):=Vt G9 (λe he=>by have:=Av e he;lia) gV;refine Y ?_;refine Aj (KZ ?_) ?_
   ·rw[cR,cR];lia
   refine Y ?_;refine⟨_,rfl,ps++es.map (λe=>(0+(i:Int),e)),some (.d (.int (0+(i:Int)))),o',?_,rfl,hp,?_,?_,?_⟩
   ·rw[wg,xG];rfl
   ·intro p hp;rcases mC.mp hp with hp|hp
    ·have:=ht p hp;lia
    ·obtain⟨e,he,rfl⟩:=nJ.mp hp;have:=Av e he;dsimp only
     lia
   ·rw[List.pairwise_append,QZ];refine⟨Ek,G9.imp λh=>.inr ⟨rfl,h⟩,λp hp q hq=>?_⟩;obtain⟨e,he,rfl⟩:=nJ.mp hq;have:=ht p hp;exact .inl (by dsimp only;lia)
   ·rw[mj,cR];lia
 ·obtain⟨ps,a,o',rfl,rfl,hp,ht,Ek,hlen⟩:=hI;rw[Vv] at ht hlen;refine Y ?_;refine⟨ps,o',rfl,rfl,⟨h1,h8,λp hp=>?_,Ek,by lia⟩,hp⟩;have:=ht p hp
  lia
theorem Mv{xs:List Int}{r:Nat}{B:Int}(hb:∀z∈xs,1<=z/\z<=B)(hr:r<xs.length):∃z:Int,prim .ix [.fl (xs.map .int),.int r]=some (.dat (.int z))/\1<=z/\z<=B:=
 ⟨xs[r],KY (by rw[gM,cZ hr];rfl),hb _ (List.getElem_mem _)⟩
theorem znY{k:Nat}{o:SO}(ho:pq o):W (call aq T (k+2) true 46 [.l 0]) [o] λv s=>∃(n:Int) (o':SO),v=.d (.int n)/\s=[o']/\(1<=n/\n<=7)/\pq o':=by
 refine W.call zoM rfl ?_;unfold WX;refine Y ?_;refine xq ho Tc Tc λr o' hr hp=>?_;refine Y ?_;obtain⟨z,ez,X6,hz2⟩:=Mv (xs:=[1,2,3,4,5,5,6,4,5,6,3,7]) (r:=r) (B:=7) Tc (by show r<12;lia);refine gB ez ?_;refine Y ?_;exact⟨_,_,rfl,rfl,⟨X6,hz2⟩,hp⟩
theorem zj1{k:Nat}{o:SO}(ho:pq o):W (call aq T (k+4) true 47 [.l 0]) [o] λv s=>∃(n:Int) (ps:List (Int×Int)) (o':SO),v=.d (bx n ps)/\s=[o']/\(Web n ps/\n<=7)/\pq o':=by
 refine W.call zoG rfl ?_;unfold WY;have hs:(1000:Nat)<=sizeLine:=by decide
 refine Y ?_;refine xq ho Tc Tc λr o1 hr hp=>?_;refine Y ?_;refine xq hp Tc Tc λr2 o2 hr2 hp=>?_;refine Y ?_;obtain⟨m,em,hm⟩ : ∃m:Nat,(3:Int)+(r2:Int)=(m:Int)/\3<=m/\m<=7:=⟨3+r2,by lia,by lia,by lia⟩;rw[em];clear em;refine qG (l:=List.range ((m:Int)-1-0).toNat) (f:=λ(j:Nat)=>.int (0+j)) (λ(j:Nat)=>some (dG (0+(j:Int),0+(j:Int)+1))) (by rw[nq];lia) ?_ (λj hj=>?_) ?_
 ·refine Y ?_;refine⟨by rw[jT gV gV,jT gV gV];rfl,?_⟩;exact⟨rfl,rfl⟩
 ·refine Y ?_;refine⟨rfl,λ_=>?_,λhb=>by cases hb⟩;refine Y ?_;exact⟨rfl,_,rfl,rfl⟩
 rw[vO,show ((m:Int)-1-0).toNat=m-1 by lia];refine Y ?_;refine Aj (KZ ?_) ?_
 ·rw[cR,nq];show _+1<=_;lia
 rw[show (List.range (m-1)).map (λ(j:Nat)=>dG (0+(j:Int),0+(j:Int)+1))++[.tup [.int 0,.int ((m:Int)-1)]]=(GZ m).map dG by unfold GZ;rw[wg,xG];rfl];have ht:=Kai hm.1 hm.2;generalize GZ m=l at ht;refine vN (λJ s=>∃(m:Nat) (l:List (Int×Int)) (o:SO) (a:Option Xv),s=[o]/\pq o/\J=[some (.l 0),some (.d (.int r)),some (.d (.int m)),some (.d (.fl (l.map dG))),a]/\TW m l) ?_ (λJ s hR=>?_)
 ·refine Y ?_;refine WS.ite (λ_=>?_) (λ_=>?_)
  ·refine Y ?_;refine xq hp Tc Tc λr3 o3 hr3 hp=>?_;refine Y ?_;obtain⟨m,em,hm⟩ : ∃m:Nat,(2:Int)+(r3:Int)=(m:Int)/\2<=m/\m<=5:=⟨2+r3,by lia,by lia,by lia⟩;rw[em];clear em;refine⟨by rw[jT gV gV,jT gV gV];rfl,?_⟩;refine Ak (λ(i:Nat) J s=>s=[o3]/\∃a:Option Xv,J=[some (.l 0),some (.d (.int r)),some (.d (.int m)),some (.d (.fl ((vX m i).map dG))),a]) ⟨rfl,_,rfl⟩ (λi x J s e hI=>?_) (λJ s hI=>?_)
   ·obtain⟨rfl,a,rfl⟩:=hI;obtain⟨rfl,hi⟩:=Vu e;have hal:=zki (m:=m) (i:=i) gV;refine Y ?_;refine qG (l:=List.range ((m:Int)-(0+(i:Int)+1)).toNat) (f:=λ(j:Nat)=>.int (0+(i:Int)+1+j)) (λ(j:Nat)=>some (dG (0+(i:Int),0+(i:Int)+1+(j:Int)))) (by rw[nq];lia) ?_ (λj hj=>?_) ?_
    ·refine Y ?_;refine⟨by rw[jT gV gV,jT gV gV];rfl,?_⟩;exact⟨rfl,rfl⟩
    ·refine Y ?_;refine⟨rfl,λ_=>?_,λhb=>by cases hb⟩;refine Y ?_;exact⟨rfl,_,rfl,rfl⟩
    rw[vO,show ((m:Int)-(0+(i:Int)+1)).toNat=m-(i+1) by lia];refine Y ?_;refine Aj (KZ ?_) ?_
    ·rw[cR,cR,nq];lia
    rw[show (vX m i).map dG++(List.range (m-(i+1))).map (λ(j:Nat)=>dG (0+(i:Int),0+(i:Int)+1+(j:Int)))=(vX m (i+1)).map dG by rw[zeP,wg,xG];rfl];refine Y ?_;exact⟨_,rfl,rfl,_,rfl⟩
   ·obtain⟨rfl,a,rfl⟩:=hI;rw[Vv,show ((m:Int)-0).toNat=m by lia];refine Y ?_;exact⟨_,rfl,m,_,_,_,rfl,hp,rfl,Kah hm.1 hm.2⟩
  ·refine Y ?_;exact⟨_,rfl,m,_,_,_,rfl,hp,rfl,ht⟩
 clear ht hm hp;obtain⟨m,l,o,a,rfl,hp,rfl,ht⟩:=hR;have hlo:=ht.lo;have hhi:=ht.hi;have hll:=ht.len;refine vN (λJ s=>s=[o]/\∃(m:Nat) (l:List (Int×Int)),J=[some (.l 0),some (.d (.int r)),some (.d (.int m)),some (.d (.fl (l.map dG))),a]/\TW m l) ?_ (λJ s hR=>?_)
 ·refine Y ?_;refine W.ite (λ_=>?_) (λ_=>?_)
  ·refine Y ?_;refine WS.ite (λh7=>?_) (λ_=>?_)
   ·have h7:m<7:=by have:=jU h7;lia
    refine Y ?_;refine qG (l:=List.range ((m:Int)-0).toNat) (f:=λ(j:Nat)=>.int (0+(j:Int))) (λ(j:Nat)=>some (dG (0+(j:Int),(m:Int)))) (by rw[nq];lia) ?_ (λj hj=>?_) ?_
    ·refine Y ?_;refine⟨by rw[jT gV gV,jT gV gV];rfl,?_⟩;exact⟨rfl,rfl⟩
    ·refine Y ?_;refine⟨rfl,λ_=>?_,λhb=>by cases hb⟩;refine Y ?_;exact⟨rfl,_,rfl,rfl⟩
    rw[vO,show ((m:Int)-0).toNat=m by lia];refine Y ?_;refine Aj (KZ ?_) ?_
    ·rw[cR,cR,nq];lia
    refine Y ?_;exact⟨_,rfl,rfl,m+1,l++(List.range m).map (λ(j:Nat)=>(0+(j:Int),(m:Int))),by rw[wg,xG];rfl,ht.top h7⟩
   ·refine Y ?_;exact⟨_,rfl,rfl,m,l,rfl,ht⟩
  ·refine Y ?_;exact⟨_,rfl,rfl,m,l,rfl,ht⟩
 clear hlo hhi hll ht;obtain⟨rfl,m,l,rfl,ht⟩:=hR;have hhi:=ht.hi;refine Y ?_;refine WS.ite (λ_=>?_) (λ_=>?_)
 ·refine Y ?_;refine KR (n:=0) (o:=o) rfl rfl ((znY hp).imp λv s=>?_);rintro⟨z,o1,rfl,rfl,⟨X6,Qt⟩,hp⟩;refine⟨_,_,rfl,rfl,?_⟩;refine Y ?_;refine KR (n:=0) (o:=o1) rfl rfl ((zhK hp X6 gV).imp λv s=>?_);rintro⟨ps,o2,rfl,rfl,hw,hp⟩;refine⟨_,_,rfl,rfl,?_⟩;refine Y ?_;exact⟨z,ps,o2,rfl,rfl,⟨hw,Qt⟩,hp⟩
 ·obtain⟨qs,es,hw⟩:=ht.web;refine Y ?_;refine Aj (zc3 es) ?_;refine Y ?_;exact⟨m,qs,o,rfl,rfl,⟨hw,hhi⟩,hp⟩
noncomputable def fj:List (Int×Int):=[(2,1),(3,1),(5,2),(4,1),(7,3),(7,2),(4,2),(6,2),(10,4),(5,1),(8,3),(3,2)]
theorem Qu{k':Nat}{o:SO}(ho:pq o):W (call aq T (k'+2) true 44 [.l 0]) [o] λv s=>∃(k d:Int) (o':SO),v=.d (aG k d)/\s=[o']/\(1<=d/\d<=k/\k<=10)/\pq o':=by
 refine W.call zoL rfl ?_;unfold WT;refine Y ?_;refine xq ho Tc Tc λr o' hr hp=>?_;refine Y ?_;refine WS.ite (λ_=>?_) (λ_=>?_)
 ·refine Y ?_;refine xq hp Tc Tc λr2 o2 hr2 Dv=>?_;refine Y ?_;have hk:1<=1+(r2:Int)%10/\1+(r2:Int)%10<=10:=by lia
  generalize 1+(r2:Int)%10=k at hk;refine xq Dv gV gV λr3 o3 hr3 hp3=>?_;refine Y ?_;refine⟨_,_,_,rfl,rfl,?_,hp3⟩
  split<;>lia
 ·refine Y ?_;refine xq hp Tc Tc λr2 o2 hr2 Dv=>?_;refine Y ?_;have Aa:r2<fj.length:=by show r2<12;lia
  refine gB (KY (x:=aG fj[r2].1 fj[r2].2) ?_) ?_
  ·have:(fj.map λp=>aG p.1 p.2)[r2]?=some (aG fj[r2].1 fj[r2].2):=by rw[gM,cZ Aa];rfl
   exact this
  refine Y ?_;have key:∀p∈fj,1<=p.2/\p.2<=p.1/\p.1<=10:=by decide
  exact⟨_,_,_,rfl,rfl,key _ (List.getElem_mem _),Dv⟩
section
variable {n k d k2 d2:Int}{ps:List (Int×Int)}{hs is:List Int}
theorem zkn{k':Nat}(h1:1<=d/\d<=k/\k<=24)(h2:1<=d2/\d2<=k2/\k2<=24):W (call aq T (k'+1) true 22 [.d (aG k2 d2),.d (aG k d)]) [] λv s=>v=.d (.bl (decide (k2*d<k*d2))):=by
 refine W.call zok rfl ?_;unfold Wr aG;exact Y trivial
theorem Qv{k':Nat}(h1:1<=d/\d<=k/\k<=24)(h2:1<=d2/\d2<=k2/\k2<=24):W (call aq T (k'+1) true 45 [.d (aG k2 d2),.d (aG k d)]) [] λv s=>v=.d (.bl (decide (k2*d<k*d2))):=by
 refine W.call zod rfl ?_;unfold WW aG;exact Y trivial
theorem znz{k':Nat}(h:Web n ps)(hr:1<=d/\d<=k/\k<=24)(hr2:1<=d2/\d2<=k2/\k2<=24)(hh:bM n k d ps hs)(zT:¬k2*d<k*d2):W (call aq T (k'+8) true 39 [.d (bx n ps),.d (aG k d),.d (.tup (hs.map .int)),.d (aG k2 d2)]) [] λv s=>v=.d (.tup ((hs.map λx=>x*k2/k).map .int)):=by
 refine W.call zob rfl ?_;unfold WK;have ud:(1000:Nat)<=sizeLine:=by decide
 have h8:=h.h8;have hl:=hh.len;refine Y ?_;refine W.c1 (zgJ h hr.1 hr.2.1 hr.2.2 hh) λ_=>?_;refine Y ?_;refine W.c1 (Qo hr2.1 hr2.2.1 hr2.2.2) λ_=>?_;refine Y ?_;refine W.c0 (zkn hr hr2) ?_;rw[mz zT];refine Y ?_;refine qG (l:=hs) (f:=D.int) (λx=>some (.int (x*k2/k))) gV ?_ (λx hx=>?_) ?_
 ·refine Y ?_;exact⟨rfl,rfl⟩
 ·unfold aG;refine Y ?_;refine⟨rfl,λ_=>?_,λhb=>by cases hb⟩;refine Y ?_;exact⟨rfl,_,rfl,rfl⟩
 rw[vO];refine Y ?_;rw[xG];rfl
end
theorem nj{n k:Int}(hn:n<=7)(h:k<=7\/n<=5/\k<=20):1+cnt k.toNat (n.toNat-1)+cnt k.toNat (n.toNat-1)+tot k.toNat (n.toNat-1)<sizeLine:=by
 rcases h with h|⟨h,hk⟩
 ·exact small gV gV
 ·have:=Wa (k:=k.toNat) (k2:=20) (m:=n.toNat-1) (m2:=4) gV gV;have:=zeC (k:=k.toNat) (k2:=20) (m:=n.toNat-1) (m2:=4) gV gV;have e:1+cnt 20 4+cnt 20 4+tot 20 4<sizeLine:=by decide
  lia
theorem zlX{ps:List (Int×Int)}:prim .ne [.tup (ps.map dG),.tup []]=some (.dat (.bl (!ps.isEmpty))):=by
 cases ps with
 |nil=>rfl
 |cons p r=>rfl
section
variable {n k d k2 d2:Int}{ps:List (Int×Int)}{hs:List Int}
theorem zjY{r:Int×Int}(w:Web n ps)(f:vY n ps r):∃i:Nat,(fG (if n>2 then n else 2))[i]?=some r/\∀(j:Nat) q,j<i->(fG (if n>2 then n else 2))[j]?=some q->∀hs,¬bM n q.1 q.2 ps hs:=by
 have h1:=w.h1;by_cases c:n>2
 ·rw[if_pos c];obtain⟨i,e,_,gU⟩:=f;exact⟨i,e,gU⟩
 ·rw[if_neg c];by_cases c2:n=2
  ·subst c2;obtain⟨i,e,_,gU⟩:=f;exact⟨i,e,gU⟩
  have e:n=1:=by lia
  subst e;have hm:r=(1,1):=by
   have:∀r∈fG 1,r=(1,1):=by decide
   exact this r f.mem
  subst hm;exact⟨0,rfl,λj q hj=>absurd hj (Hx _)⟩
theorem zjN(h1:1<=n)(h8:n<=8):fG n=(fG n).dropLast++[(n,1)]:=by
 have:n=1\/n=2\/n=3\/n=4\/n=5\/n=6\/n=7\/n=8:=by lia
 rcases this with rfl|rfl|rfl|rfl|rfl|rfl|rfl|rfl<;>decide
theorem zgf{k':Nat}(h:Web n ps)(hn:n<=7)(hr:1<=d/\d<=k/\k<=10)(hr2:1<=d2/\d2<=k2/\k2<=10):W (call aq T (k'+44) true 48 [.d (bx n ps),.d (aG k d),.d (aG k2 d2)]) [] λv s=>v=.d (.bl true):=by
 have h1:=h.h1;have h8:=h.h8;have ud:(1000:Nat)<=sizeLine:=by decide
 have ew:bx n ps=.tup [.int n,.tup (ps.map dG)]:=rfl;refine W.call zou rfl ?_;unfold W0;refine vN (λJ s=>∃k d:Int,s=[]/\(1<=d/\d<=k/\k<=10)/\(n>5->k<=7)/\J=[some (.d (bx n ps)),some (.d (aG k d)),some (.d (aG k2 d2)),none,none,none,none]) ?_ (λJ s hR=>?_)
 ·have er:aG k d=.tup [.int k,.int d]:=rfl;refine Y ?_;refine W.ite (λc=>?_) (λc=>?_)
  ·refine Y ?_;refine WS.ite (λc2=>?_) (λc2=>?_)
   ·refine Y ?_;exact⟨_,rfl,7,2,rfl,by decide,λ_=>by decide,rfl⟩
   ·refine Y ?_;exact⟨_,rfl,k,d,rfl,hr,λ_=>xJ.mp λz=>c2 (gH z),rfl⟩
  ·refine Y ?_;exact⟨_,rfl,k,d,rfl,hr,λz=>absurd (gH z) c,rfl⟩
 clear hr;obtain⟨k,d,rfl,hr,h5,rfl⟩:=hR;refine vN (λJ s=>∃k2 d2:Int,s=[]/\(1<=d2/\d2<=k2/\k2<=10)/\(n>5->k2<=7)/\J=[some (.d (bx n ps)),some (.d (aG k d)),some (.d (aG k2 d2)),none,none,none,none]) ?_ (λJ s hR=>?_)
 ·have er:aG k2 d2=.tup [.int k2,.int d2]:=rfl;refine Y ?_;refine W.ite (λc=>?_) (λc=>?_)
  ·refine Y ?_;refine WS.ite (λc2=>?_) (λc2=>?_)
   ·refine Y ?_;exact⟨_,rfl,7,2,rfl,by decide,λ_=>by decide,rfl⟩
   ·refine Y ?_;exact⟨_,rfl,k2,d2,rfl,hr2,λ_=>xJ.mp λz=>c2 (gH z),rfl⟩
  ·refine Y ?_;exact⟨_,rfl,k2,d2,rfl,hr2,λz=>absurd (gH z) c,rfl⟩
 clear hr2;obtain⟨k2,d2,rfl,hr2,h52,rfl⟩:=hR;have z1:=nj (n:=n) (k:=k) hn gV;have z2:=nj (n:=n) (k:=k2) hn gV;have qI:1<=d/\d<=k/\k<=24:=by lia
 have Mw:1<=d2/\d2<=k2/\k2<=24:=by lia
 have er:aG k d=.tup [.int k,.int d]:=rfl;refine vN (λJ s=>∃(r:Int×Int) (hs:List Int),s=[]/\vY n ps r/\bM n r.1 r.2 ps hs/\(∀g,bM n r.1 r.2 ps g->Ge g hs)/\J=[some (.d (bx n ps)),some (.d (aG k d)),some (.d (aG k2 d2)),some (.d (rD r)),some (.d (.tup (hs.map .int))),none,none]) ?_ (λJ s hR=>?_)
 ·refine Y ?_;refine jQ rfl ((zcr (k':=k'+1) h).imp λv s1 hv=>?_);obtain⟨r,rfl,hS⟩:=hv;refine⟨_,rfl,?_⟩;refine Y ?_;refine jQ rfl ((zjj (k':=k') h).imp λv s1 hv=>?_);obtain⟨r',KH,rfl,hS',hh,hg⟩:=hv;have e:=hS.uniq hS';subst e;refine⟨_,rfl,?_⟩;refine Y ?_;exact⟨_,rfl,r,KH,rfl,hS,hh,hg,rfl⟩
 obtain⟨r,hs,rfl,hF,hh,hg,rfl⟩:=hR;have hS:=hF.short h;have hrr:=Ar hF.mem;have pA:1<=r.2/\r.2<=r.1/\r.1<=24:=by lia
 have Qw:=hS.room h hr.1 hr.2.1;refine vN (λJ s=>s=[]/\J=[some (.d (bx n ps)),some (.d (aG k d)),some (.d (aG k2 d2)),some (.d (rD r)),some (.d (.tup (hs.map .int))),some (.d (.bl (!decide (k*r.2<r.1*d)))),none]) ?_ (λJ s hR=>?_)
 ·refine Y ?_;refine jQ rfl ((Ms (k':=k'+2) h qI z1).imp λv s1 hv=>?_);obtain⟨b,rfl,hb⟩:=hv;refine⟨_,rfl,?_⟩;refine Y ?_;refine⟨_,rfl,rfl,?_⟩;have:b = !decide (k*r.2<r.1*d):=by
   rw[Bool.eq_iff_iff,hb,Qw];simp
  rw[this];rfl
 obtain⟨rfl,rfl⟩:=hR;refine vN (λJ s=>s=[]/\J=[some (.d (bx n ps)),some (.d (aG k d)),some (.d (aG k2 d2)),some (.d (rD r)),some (.d (.tup (hs.map .int))),some (.d (.bl (!decide (k*r.2<r.1*d)))),none]) ?_ (λJ s hR=>?_)
 ·refine Y ?_;refine jQ rfl ((Qs (k':=k'+3) h hr.1 hr.2.1 gV z1).imp λv s1 hv=>?_);rcases hv with ⟨rfl,gU⟩|⟨hf,rfl,Qx,_⟩
  ·have c:k*r.2<r.1*d:=Decidable.byContradiction λz=>by obtain⟨g,hg⟩:=Qw.mpr z;exact gU g hg
   rw[gH c];refine⟨_,rfl,?_⟩;refine Y ?_;refine gB zlX ?_;cases ps.isEmpty
   ·refine Y ?_;refine W.c0 (Qv pA qI) ?_;rw[gH c];refine Y ?_;exact⟨_,rfl,rfl,rfl⟩
   ·refine Y ?_;exact⟨_,rfl,rfl,rfl⟩
  ·have c:¬k*r.2<r.1*d:=Qw.mp ⟨_,Qx⟩;rw[mz c];refine⟨_,rfl,?_⟩;refine Y ?_;refine gB zlX ?_;cases ps.isEmpty
   ·refine Y ?_;refine W.c0 (Qv pA qI) ?_;rw[mz c];refine Y ?_;exact⟨_,rfl,rfl,rfl⟩
   ·refine Y ?_;exact⟨_,rfl,rfl,rfl⟩
 obtain⟨rfl,rfl⟩:=hR;refine vN (λJ s=>s=[]/\J=[some (.d (bx n ps)),some (.d (aG k d)),some (.d (aG k2 d2)),some (.d (rD r)),some (.d (.tup (hs.map .int))),some (.d (.bl (!decide (k*r.2<r.1*d)))),none]) ?_ (λJ s hR=>?_)
 ·by_cases c:k*r.2<r.1*d
  ·rw[gH c];refine Y ?_;exact⟨_,rfl,rfl,rfl⟩
  ·rw[mz c];refine Y ?_;refine W.c0 (Qv qI Mw) ?_;by_cases c2:k2*d<k*d2
   ·rw[gH c2];refine Y ?_;exact⟨_,rfl,rfl,rfl⟩
   ·rw[mz c2];refine Y ?_;refine jQ rfl ((Ms (k':=k'+2) h Mw z2).imp λv s1 hv=>?_);obtain⟨b,rfl,hb⟩:=hv;obtain⟨g,hg⟩:=Qw.mpr c;rw[hb.mpr ⟨_,dz h hg gV hr.1 gV hr2.1 (xJ.mp c2)⟩];refine⟨_,rfl,?_⟩;refine Y ?_;exact⟨_,rfl,rfl,rfl⟩
 obtain⟨rfl,rfl⟩:=hR;refine vN (λJ s=>s=[]/\J=[some (.d (bx n ps)),some (.d (aG k d)),some (.d (aG k2 d2)),some (.d (rD r)),some (.d (.tup (hs.map .int))),some (.d (.bl (!decide (k*r.2<r.1*d)))),none]) ?_ (λJ s hR=>?_)
 ·refine Y ?_;refine W.c0 (zfZ (k':=k'+35) h pA hh) ?_;refine Y ?_;refine jQ rfl ((Qs (k':=k'+3) h hrr.1 hrr.2.1 gV (small h8 gV)).imp λv s1 hv=>?_);rcases hv with ⟨rfl,gU⟩|⟨hf,rfl,Qx,hgf⟩
  ·exact absurd hh (gU _)
  ·refine⟨_,rfl,?_⟩;have e:hf=hs:=zjV (by have:=Qx.len;have:=hh.len;lia) (hg _ Qx) (hgf _ hh);subst e;refine Y ?_;refine gB (zlJ (f:=not)) ?_;rw[gH rfl];refine Y ?_;exact⟨_,rfl,rfl,rfl⟩
 obtain⟨rfl,rfl⟩:=hR;refine vN (λJ s=>s=[]/\J=[some (.d (bx n ps)),some (.d (aG k d)),some (.d (aG k2 d2)),some (.d (rD r)),some (.d (.tup (hs.map .int))),some (.d (.bl (!decide (k*r.2<r.1*d)))),none]) ?_ (λJ s hR=>?_)
 ·by_cases c:k*r.2<r.1*d
  ·rw[gH c];refine Y ?_;exact⟨_,rfl,rfl,rfl⟩
  ·rw[mz c];refine Y ?_;refine W.c0 (Qv pA qI) ?_;rw[mz c];refine Y ?_;refine W.c0 (znz (k':=k'+35) h pA qI hh c) ?_;refine Y ?_;refine W.c0 (zfZ (k':=k'+35) h qI (dz h hh gV hrr.1 gV hr.1 (xJ.mp c))) ?_;refine Y ?_;exact⟨_,rfl,rfl,rfl⟩
 obtain⟨rfl,rfl⟩:=hR;refine vN (λJ s=>s=[]/\J=[some (.d (bx n ps)),some (.d (aG k d)),some (.d (aG k2 d2)),some (.d (rD r)),some (.d (.tup (hs.map .int))),some (.d (.bl (!decide (k*r.2<r.1*d)))),none]) ?_ (λJ s hR=>?_)
 ·refine Y ?_;refine W.ite (λc1=>?_) (λc1=>?_)
  ·have c1:n<6:=jU c1;refine Y ?_;refine W.GJ (gH gV) ?_;refine Y ?_;refine W.GJ (gH gV) ?_;refine Y ?_;refine jQ rfl ((Ms (k':=k'+2) (k:=2*k) (d:=2*d) h gV (nj hn gV)).imp λv s1 hv=>?_);obtain⟨b,rfl,hb⟩:=hv;have eb:b = !decide (k*r.2<r.1*d):=by
    rw[Bool.eq_iff_iff,hb,hS.room h gV gV];have:2*k*r.2<r.1*(2*d)↔k*r.2<r.1*d:=by rw[qL,Bf r.1 2 d];lia
    rw[this];simp
   subst eb;refine⟨_,rfl,?_⟩;cases decide (k*r.2<r.1*d)
   ·refine Y ?_;exact⟨_,rfl,rfl,rfl⟩
   ·refine Y ?_;exact⟨_,rfl,rfl,rfl⟩
  ·refine Y ?_;exact⟨_,rfl,rfl,rfl⟩
 obtain⟨rfl,rfl⟩:=hR;obtain⟨i,ei,gU⟩:=zjY h hF;have hm:1<=(if n>2 then n else 2)/\(if n>2 then n else 2)<=8:=by split<;>lia
 have hi:=(dW.mp ei).1;have aae:(fG (if n>2 then n else 2)).length<=12:=Hj _ LQ;refine Y ?_;refine Kat (c:=(fG (if n>2 then n else 2)).map rD) (λj acc s=>s=[]/\acc.length<=j/\(j<=i->acc=[])/\(i<j->∃tl,acc=rD r::tl)) ?_ (λj x acc s e hJ=>?_) (λacc s hJ=>?_)
 ·refine Y ?_;refine W.c0 (X5 hm.1 hm.2) ?_;refine Y ?_;exact⟨rfl,rfl,bQ _,λ_=>rfl,λz=>absurd z (Hx _)⟩
 ·obtain⟨rfl,hal,ha0,Ku⟩:=hJ;rw[gM,lu] at e;obtain⟨q,eq,rfl⟩:=e;have hj:=(dW.mp eq).1;have hq:=Ar (eG eq);refine Y ?_;refine jQ rfl ((Ms (k':=k'+2) (k:=q.1) (d:=q.2) h gV (small h8 gV)).imp λv s1 hv=>?_);obtain⟨b,rfl,hb⟩:=hv;refine⟨_,rfl,?_⟩;refine Y ?_;refine⟨λz=>?_,λz=>?_⟩
  ·subst z;obtain⟨g,hgq⟩:=hb.mp rfl;refine Y ?_;refine⟨_,rfl,by lia,rfl,by rw[mj];exact Nat.add_le_add_right hal 1,λz=>?_,λz=>?_⟩
   ·exact absurd hgq (gU j q gV eq g)
   ·rcases Ht (Q0 z) with c|c
    ·obtain⟨tl,e⟩:=Ku c;exact⟨tl++[rD q],by rw[e];rfl⟩
    ·subst c;rw[ha0 (bQ _)];rw[ei] at eq;cases eq;exact⟨[],rfl⟩
  ·subst z;refine⟨rfl,by lia,λz=>ha0 gV,λz=>?_⟩;rcases Ht (Q0 z) with c|c
   ·exact Ku c
   ·subst c;rw[ei] at eq;cases eq;exact absurd (hb.mpr ⟨_,hh⟩) Tc
 obtain⟨rfl,_,_,hJ⟩:=hJ;rw[cR] at hJ;obtain⟨tl,rfl⟩:=hJ hi;refine Y ?_;refine gB (tL (j:=0) gV rfl) ?_;refine Y ?_;refine W.GJ Zaa ?_;refine Y ?_;refine W.c0 (X5 h1 h8) ?_;rw[zjN h1 h8,wg];refine Y ?_;refine gB znh ?_;unfold rD aG;refine Y ?_;rfl
end
theorem zhG{n:Int}{ps:List (Int×Int)}(w:Web n ps):Web n []:=⟨w.h1,w.h8,by simp,by simp,by have:=w.h1;simp;lia⟩
theorem v7(ns:List Int)(hn:ns.length<=63):∃s',call aq T 60 true 49 [.d (.fl (ns.map D.int))] []=some (.ok (.d (.bl true)),s'):=by
 suffices h:W (call aq T 60 true 49 [.d (.fl (ns.map D.int))]) [] λv _=>v=.d (.bl true) by
  obtain⟨v,s',e,rfl⟩:=h;exact⟨s',e⟩
 have hs:(1000:Nat)<=sizeLine:=by decide
 refine W.call (k:=59) zoi rfl ?_;unfold W2;refine Y ?_;refine jQ rfl ((zlo (k:=58)).imp λv _=>?_);rintro⟨n0,rfl⟩;refine⟨_,rfl,?_⟩;refine Y ?_;refine Aj (KZ ?_) ?_
 ·have:=zjy (ns:=ns) (lo:=some 1) (hi:=some 3);show 1+_<=_
  lia
 refine Y ?_;refine Ak (λ_ J s=>∃(a b c d:Option Xv),J=[some (.d (.fl (ns.map D.int))),a,b,c,d]) ⟨_,_,_,_,rfl⟩ (λi x J s hx El=>?_) (λJ s El=>?_)
 ·obtain⟨m,rfl⟩ : ∃m,x=.int m:=by
   rcases mC.mp (eG hx) with z|z
   ·rcases jA.mp z with rfl|z
    ·exact⟨_,rfl⟩
    ·cases z
   ·exact zjM z
  obtain⟨a,b,c,d,rfl⟩:=El;refine Y ?_;refine Kao rfl ((zng (k:=58)).imp λv s1=>?_);rintro⟨j,o,rfl,hj,hp⟩;refine⟨j,o,rfl,hj,?_⟩;refine Y ?_;refine tK rfl ((zj1 (k:=55) hp).imp λv s1=>?_);rintro⟨z,ps,o1,rfl,rfl,⟨hw,Qt⟩,hp⟩;refine⟨_,_,rfl,rfl,?_⟩;have ew:bx z ps=.tup [.int z,.tup (ps.map dG)]:=rfl;refine Y ?_;refine⟨rfl,?_⟩;refine Ak (λ_ J s'=>∃(o:SO) (e:Option Xv),pq o/\s'=s++[o]/\J=[some (.d (.fl (ns.map D.int))),some (.d (.int m)),some (.l s.length),some (.d (bx z ps)),e]) ⟨_,_,hp,rfl,rfl⟩ (λi x J s' hx hI=>?_) (λJ s' hI=>?_)
  ·obtain⟨o,e,hp,rfl,rfl⟩:=hI;refine Y ?_;refine tK rfl ((Qu (k':=57) hp).imp λv s1=>?_);rintro⟨kk,dd,o3,rfl,rfl,hr,hp⟩;refine⟨_,_,rfl,rfl,?_⟩;refine Y ?_;refine tK rfl ((Qu (k':=57) hp).imp λv s1=>?_);rintro⟨k2,d2,o4,rfl,rfl,hr2,hp⟩;refine⟨_,_,rfl,rfl,?_⟩;refine Y ?_;refine W.c0 (zgf (k':=15) hw Qt hr hr2) ?_;refine Y ?_;exact⟨_,rfl,_,_,hp,rfl,rfl⟩
  ·obtain⟨o,e,hp,rfl,rfl⟩:=hI;refine Y ?_;refine tK rfl ((Qu (k':=57) hp).imp λv s1=>?_);rintro⟨kk,dd,o3,rfl,rfl,hr,hp⟩;refine⟨_,_,rfl,rfl,?_⟩;refine Y ?_;refine tK rfl ((Qu (k':=57) hp).imp λv s1=>?_);rintro⟨k2,d2,o4,rfl,rfl,hr2,hp⟩;refine⟨_,_,rfl,rfl,?_⟩;refine Y ?_;refine W.c0 (zgf (k':=15) (zhG hw) Qt hr hr2) ?_;refine Y ?_;exact⟨_,rfl,_,_,_,_,rfl⟩
 ·obtain⟨a,b,c,d,rfl⟩:=El;exact Y trivial
end eF
open PySem PySem.W PyProof.Rows
set_option maxRecDepth 100000 in
set_option maxHeartbeats 0 in
theorem PySem.Challenge.cw_ringhues_k20_whole_room_by_length_holds : PySem.Challenge.rw_ringhues_k20_whole_room_by_length.Holds := by
 refine PySem.W.holds_law eF.ws λsaid=>?_;refine holds_open (q:=eF.qv) (loose:=eF.loose) (Xt:=λs=>xlAt eF.qv [] s&&recOk [] s) (XP:=XL eF.qv []) (Yf:=(Mi.jk eF.fs eF.ms eF.xs eF.lk eF.bd).obs) (Ya:=(Mi.jk eF.fs eF.ms eF.xs eF.lk eF.bd).val) (YP:=(Mi.jk eF.fs eF.ms eF.xs eF.lk eF.bd).says) (N:=20000) eF.left (Mi.jk eF.fs eF.ms eF.xs eF.lk eF.bd).of (Mi.jk eF.fs eF.ms eF.xs eF.lk eF.bd).keeps (λs e=>xl_of s (Bool.and_eq_true_iff.mp e).1) XL.keeps (by rfl) (by rfl) (by rfl) (λs e=>recFacts_of (Bool.and_eq_true_iff.mp e).2) (by rfl) (by first|assumption|decide +kernel) Dc ⟨rfl,rfl,rfl,rfl,rfl,by decide +kernel⟩ ?hw ?hc
 case hw=>w_witness2
 case hc=>exact Mi.DX (l:=PySem.Challenge.rw_ringhues_k20_whole_room_by_length) (x:="_law_script") (k:=60) rfl rfl ⟨by decide,by decide,rfl⟩ (λw K mg fa h S LH X G DR=>eF.all_mk eF.v7 S LH X G DR)
