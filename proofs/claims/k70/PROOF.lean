import PyProof.Rows.All
import Wide.All
import KE.KIsAll
import KE.KNestM
import KE.KSortTup
import KE.KLam
import KE.KTryDeep
import KE.KFromBytes
import KE.KDictOf
import Wide.FinOn
import PySem.Challenge.RW_ringhues_k70_webs_by_their_shortest_ring
set_option compiler.extract_closed false
theorem gV{p:Prop}(h:p:=by lia):p:=h
theorem Dc{p:Prop}(h:p:=by decide +kernel):p:=h
theorem Ro{p:Prop}(h:p:=by decide):p:=h
theorem Zaa{p:Prop}(h:p:=by simp):p:=h
abbrev aA:=@PySem.wpAny_bind
abbrev cD:=@PySem.Heap.get?_push_of_some
abbrev aP:=@PySem.wpAny_pure
abbrev fj:=@List.getElem?_eq_getElem
abbrev fX:=@List.getElem?_eq_some_iff
abbrev cO:=@Option.some.inj
abbrev bQ:=@PySem.Heap.lt_size
abbrev eF:=@PySem.Heap.get?_push_size
abbrev gJ:=@List.mem_of_getElem?
abbrev gU:=@List.mem_cons_of_mem
abbrev fZ:=@Nat.lt_of_lt_of_le
abbrev fH:=@List.size_toArray
abbrev eG:=@Bool.and_eq_true
abbrev cj:=@Nat.le_refl
abbrev cY:=@Nat.ne_of_lt
abbrev mD:=@List.getD_eq_getElem?_getD
abbrev fW:=@List.length_map
abbrev kZ:=@Option.map_eq_some_iff
abbrev gW:=@List.length_cons
abbrev gY:=@List.all_eq_true
abbrev k_:=@List.mem_append_right
abbrev pq:=@List.getElem?_append_left
abbrev pF:=@List.getElem?_append_right
abbrev lg:=@List.mem_cons_self
abbrev jP:=@List.getElem?_map
abbrev qG:=@List.getElem?_eq_none_iff
abbrev lC:=@of_decide_eq_true
abbrev jk:=@List.map_cons
abbrev jA:=@List.mem_cons
abbrev f9:=@PySem.wpAny_mono
abbrev pG:=@Array.length_toList
abbrev pA:=@List.length_append
abbrev qH:=@List.getElem?_set_ne
abbrev mF:=@List.mem_filter
abbrev nG:=@List.mem_append
abbrev jQ:=@Nat.le_trans
abbrev nH:=@decide_eq_true
abbrev pH:=@List.lookup_cons
abbrev rG:=@Bool.false_eq_true
abbrev rH:=@List.mem_singleton
abbrev rJ:=@Int.toNat_natCast
abbrev pI:=@List.length_set
abbrev wu:=@PySem.Heap.get?_update_other
abbrev tK:=@PySem.wpAny_newObj_type
abbrev Ac:=@PyProof.Rows.callWith_type1
abbrev Ds:=@PyProof.Rows.slot_tuple_getitem
abbrev tL:=@Nat.lt_succ_of_lt
abbrev yK:=@Option.bind_eq_some_iff
abbrev yL:=@List.getElem?_set_self
abbrev mH:=@PySem.wpAny_field
abbrev pJ:=@Nat.lt_irrefl
abbrev pK:=@PySem.wpAny_holding
abbrev rK:=@PySem.wpAny_seqItems
abbrev vI:=@PySem.wpAny_truthy_bool
abbrev Ad:=@List.getElem?_replicate
abbrev Ae:=@PySem.wpAny_callSpecial?_slot
abbrev vJ:=@List.length_range
abbrev pL:=@Nat.ne_of_gt
abbrev tY:=@decide_eq_false
abbrev yM:=@PySem.Heap.get?_update_ne
abbrev yN:=@List.getElem_of_mem
abbrev Af:=@PySem.Heap.get?_update_self
abbrev qI:=@List.mem_map
abbrev yO:=@PySem.Obj.data_mapFields
abbrev Dt:=@List.getElem?_cons_succ
abbrev nR:=@beq_iff_eq
abbrev rM:=@Nat.le_of_lt
abbrev wz:=@decide_eq_decide
abbrev yP:=@decide_eq_true_eq
abbrev lq:=@congrArg
abbrev tZ:=@PySem.wpAny_standAt
abbrev vK:=@PySem.Heap.size_push
abbrev wA:=@List.append_nil
abbrev wB:=@List.nodup_cons
abbrev Ag:=@PySem.wpAny_Call_Name_kw
abbrev rN:=@Nat.zero_le
abbrev yQ:=@PySem.wpAny_call_entry
abbrev Du:=@PySem.Heap.get?_none_of_le
abbrev Dv:=@beq_eq_false_iff_ne
abbrev Dw:=@PySem.mem_of_lookup
abbrev K4:=@PySem.F.slot_tuple_iterator_next
abbrev Ah:=@List.length_take
abbrev Ai:=@List.countP_cons
abbrev Aj:=@PySem.F.plain_min_loop
abbrev Gg:=@List.length_replicate
abbrev Dy:=@PySem.wpAny_setField_rec
abbrev Dz:=@Nat.lt_of_le_of_lt
abbrev DG:=@Int.emod_lt_of_pos
abbrev Gh:=@List.mem_append_left
abbrev nU:=@if_false
abbrev Gi:=@PySem.Around.under_plainId
abbrev Ak:=@PySem.wpAny_passesOwn
abbrev K5:=@PySem.wpAny_comprehension_free
abbrev DK:=@PySem.Heap.get?_push_ne
abbrev K6:=@PySem.AutoSeq1.wpAny_loadPart'
abbrev Al:=@Int.emod_nonneg
abbrev Gj:=@List.filterMap_cons
abbrev vL:=@PySem.sizeLine_eq
abbrev yR:=@List.all_cons
abbrev Gk:=@List.getElem?_range
abbrev K7:=@Int.eq_ofNat_of_zero_le
abbrev DN:=@beq_self_eq_true
abbrev Am:=@List.mem_range
abbrev Ao:=@List.nodup_nil
abbrev K8:=@PySem.W.cellsFrom_some
abbrev Gm:=@Bool.false_ne_true
abbrev Gn:=@List.mem_filterMap
abbrev Gp:=@List.zip_cons_cons
abbrev Gq:=@List.pairwise_cons
abbrev DP:=@List.map_append
abbrev DQ:=@List.length_nil
abbrev yS:=@PySem.codeAny_mono
abbrev wC:=@Nat.le_succ
abbrev K9:=@PySem.Obj.isFreed_of_fields
abbrev DR:=@List.forIn_cons
abbrev Aq:=@PyProof.Rows.listUpdate_at
abbrev K_:=@Nat.mul_le_mul_right
abbrev Gs:=@Nat.lt_succ_self
abbrev Gu:=@PySem.Heap.size_update
abbrev Gv:=@List.take_length
abbrev yU:=@PySem.wpAny_letGo
abbrev Oz:=@Option.isSome_iff_exists
abbrev OD:=@PySem.F.args_tuple_add_2
abbrev OJ:=@List.length_filterMap_le
abbrev La:=@PySem.Calls.spliced_cons
abbrev O1:=@PySem.F.entry_tuple_add
abbrev DW:=@PySem.wpAny_attempt
abbrev Lb:=@Array.forIn_toList
abbrev O2:=@PySem.F.plainAttrs_list
abbrev Gw:=@PySem.codeAny_builtin
abbrev O4:=@PySem.F.slot_tuple_add
abbrev O5:=@PySem.Calls.callWith_builtin
abbrev O6:=@List.range_succ_eq_map
abbrev O7:=@List.length_pos_of_mem
abbrev yV:=@PySem.wpAny_rule
abbrev Ld:=@PySem.wpAny_pyIter_list
abbrev Lf:=@List.append_assoc
abbrev Lg:=@List.nodup_append
abbrev Gx:=@PySem.wpAny_setField
abbrev O8:=@List.contains_iff_mem
abbrev O9:=@Int.emod_add_mul_ediv
abbrev Lh:=@Nat.le_of_not_lt
abbrev Li:=@PySem.wpAny_isInstance
abbrev O_:=@Array.toArray_toList
abbrev Pa:=@PySem.wpAny_updateSeq_pair
abbrev Gy:=@PySem.wpAny_newList
abbrev Gz:=@PySem.plainId_quiet
abbrev Pb:=@PySem.W.plainGet_of
abbrev DX:=@PySem.wpAny_of_eq
abbrev Lj:=@PySem.F.slot_zip_next
abbrev Ln:=@Bool.or_eq_true
abbrev Pg:=@PySem.W.callWith_K
abbrev GC:=@List.map_map
abbrev Pj:=@decide_eq_true_iff
abbrev Lp:=@List.forIn_nil
abbrev DY:=@PySem.wpAny_call
abbrev D_:=@Nat.not_lt
abbrev Pk:=@bne_self_eq_false
abbrev Pn:=@List.getElem?_inj
abbrev Pq:=@List.map_inj_left
abbrev Pu:=@List.pairwise_map
abbrev Px:=@List.flatMap_cons
set_option Elab.async false
set_option linter.all false
set_option maxRecDepth 100000
set_option maxHeartbeats 4000000
namespace L2
open PySem PySem.Spec PyProof.Rows PySem.W
noncomputable def subIn(K:W.Frag)(C D:Addr):Bool:=PySem.W.ktsIn K C "BaseException"&&PySem.W.ktsIn K D "BaseException"&&match K.lookup C with
 |some ⟨_,_,.cls cd,_⟩=>cd.mro.contains (.ref D)
 |_=>false
noncomputable def GD:List Value:=[.type "ValueError",.type "Exception",.type "BaseException",.type "object"]
noncomputable def t_:List Value->Bool
 |.ref _::r=>t_ r
 |l=>l==GD
noncomputable def uc(K:Frag)(C fI:Addr):Bool:=match K.lookup C with
 |some ⟨.type "type",_,.cls cd,sl⟩=>(match cd.mro,sl.toList with
  |.ref C'::bm,[_,_,_,_,some (.builtin n),_]=>C'==C&&n=="ValueError.__new__" && !cd.hasDel&&tailIn K GD bm&&nsOkIn K cd.ns&&nsIn K cd.ns "__init__"==some (some (.ref fI))
  |_,_=>false)
 |_=>false
noncomputable def aY(s:Stmt):Arguments:=match s with
 |.FunctionDef _ a _ _ _ _ _ _ _ _=>a
 |_=>{posonlyargs:=[],args:=[],vararg:=none,kwonlyargs:=[],kw_defaults:=[],kwarg:=none,defaults:=[]}
noncomputable def aJ(s:Stmt):List Stmt:=match s with
 |.FunctionDef _ _ b _ _ _ _ _ _ _=>b
 |_=>[]
noncomputable def au(s:Stmt):Scope:=match s with
 |.FunctionDef _ _ _ _ _ _ sc _ _ _=>sc
 |_=>{kind:=.function,names:=[],isGenerator:=false,isCoroutine:=false}
end L2
namespace Mi
open PySem PySem.Spec PyProof.Rows L2 PySem.W
noncomputable def Lq(n c:Nat):Nat:=if c<n then c else 0
noncomputable def GF(n c e:Nat):Bool:=Lq n e==0||Lq n c==Lq n e
noncomputable def iU(L:List Addr)(c:Nat):Addr:=L.getD (Lq L.length c) 0
noncomputable def xcB(K:W.Frag)(C:Addr):Bool:=
 PySem.W.findIn K (.ref C) "__getattribute__"==some (some (.builtin "BaseException.__getattribute__"))&&PySem.W.findIn K (.ref C) "__getattr__"==some none&&PySem.W.findIn K (.ref C) "__class__"==some (some (.builtin "object.__class__")) &&
 PySem.W.mroIn K C (.type "BaseException")==some true&&PySem.W.mroIn K C (.type "object")==some true&&(PySem.W.clsIn K C).isSome &&
 PySem.W.specialIn K (.builtin "object.__class__") "__get__"==some (some (.builtin "getset_descriptor.__get__"))&&PySem.W.takesIn K (.builtin "object.__class__")==some true
noncomputable def yW(K:W.Frag)(L:List Addr):Bool:=(List.range L.length).all λc=>xcB K (L.getD c 0)&&PySem.W.kitOne K (.ref (L.getD c 0)) (.type "ValueError")==some true &&
 (List.range L.length).all λe=>PySem.W.kitOne K (.ref (L.getD c 0)) (.ref (L.getD e 0))==some (GF L.length c e)
noncomputable def subB(K:W.Frag)(L:List Addr)(d:Nat):Bool:=(List.range L.length).all λc=>!(GF L.length c d)||L2.subIn K (L.getD c 0) (iU L d)
noncomputable def nW(fd:FuncData):FuncData:={fd with kwdefaults:=.none,doc:=.none,pyModule:=.none,annotations:=none,code:=.none,closureTuple:=.none}
noncomputable def vM(x:Str)(st:Stmt):FuncData:=fnOf x x (aY st) (aJ st) (au st) .none .none .none .none none .none .none
noncomputable def wD(K:Frag)(x:Str):Option (Addr×FuncData):=match nsIn K mainGlobals x with
 |some (some (.ref f))=>(match K.lookup f with
  |some ⟨_,_,.func fd,_⟩=>(match codeIn K fd.code x&&keepIn K (.ref f) with
   |true=>some (f,fd)
   |false=>none)
  |_=>none)
 |_=>none
noncomputable def dX(K:Frag)(x:Str):Addr:=match nsIn K mainGlobals x with
 |some (some (.ref C))=>C
 |_=>0
noncomputable def ud(K:Frag)(x:Str):Bool:=match nsIn K mainGlobals x with
 |some (some (.ref _))=>true
 |_=>false
noncomputable def mJ(K:Frag)(p:Str×Int):Bool:=match nsIn K mainGlobals p.1 with
 |some (some (.int i _))=>decide (i=p.2)
 |_=>false
noncomputable def qJ(K:Frag)(x:Str):Bool:=match nsIn K mainGlobals x with
 |some none=>true
 |_=>false
noncomputable def GJ(K:Frag)(C:Addr):Bool:=excIn K C [.type "ValueError",.type "Exception",.type "BaseException",.type "object"] "ValueError.__new__"
structure Lk where
 GK:List Str
 wF:List (Str×Int)
 V_:List Str
 Wa:List Nat
 Wb:List Nat
noncomputable def Lk.L(l:Lk)(K:Frag):List Addr:=l.GK.map (dX K)
noncomputable def Lk.good(l:Lk)(K:Frag):Bool:=
 l.GK.all (ud K)&&(l.GK.isEmpty||yW K (l.L K))&&l.Wa.all (λk=>GJ K (iU (l.L K) k))&&l.Wb.all (λk=>subB K (l.L K) k)&&l.wF.all (mJ K)&&l.V_.all (qJ K)
noncomputable def qK(h:Heap):List Addr->Frag
 |[]=>[]
 |a::r=>match h.get? a with
  |some o=>(a,o)::qK h r
  |none=>qK h r
noncomputable def eN(s:Stmt):List Stmt:=match s with
 |.ClassDef _ _ _ b _ _ _ _ _ _ _=>b
 |_=>[]
noncomputable def Ar(q:Str)(st:Stmt):FuncData:=fnOf "__init__" q (aY st) (aJ st) (au st) .none .none .none .none none .none .none
noncomputable def GP(K:Frag)(C:Addr):Option FuncData:=match clsIn K C with
 |some cd=>(match nsIn K cd.ns "__init__" with
  |some (some (.ref f))=>(match K.lookup f with
   |some ⟨.type "function",_,.func fd,_⟩=>(match codeIn K fd.code fd.qualname&&uc K C f&&t_ cd.mro&&cd.hasDict with
    |true=>some fd
    |false=>none)
   |_=>none)
  |_=>none)
 |none=>none
noncomputable def setB(K:Frag)(C:Addr)(fs:List Str):Bool:=findIn K (.ref C) "__setattr__"==some (some (.builtin "object.__setattr__"))&&fs.all (λf=>findIn K (.ref C) f==some none)
noncomputable def Lr(K:Frag)(C:Addr)(f:Str):Bool:=findIn K (.ref C) "__getattribute__"==some (some (.builtin "BaseException.__getattribute__"))&&findIn K (.ref C) "__getattr__"==some none&&mroIn K C (.type "BaseException")==some true&&findIn K (.ref C) f==some none&&hasDictIn K C
structure uf where
 c:Nat
 q:Str
 st:Stmt
 fs:List Str
noncomputable def qL(o:Obj):Bool:=match o with
 |⟨.none,none,.fields vs,sl⟩=>vs.isEmpty&&sl.isEmpty
 |_=>false
noncomputable def GQ:Nat->List Obj->Frag
 |_,[]=>[]
 |i,o::r=>match o.isFreed||qL o with
  |true=>GQ (i+1) r
  |false=>(i,o)::GQ (i+1) r
noncomputable def bR(h:Heap):Frag:=qK h [mainGlobals]++(GQ 0 h.objs.toList).reverse
noncomputable def jR(fs:List (Str×Stmt))(ms:List uf)(xs:List (Nat×Str))(l:Lk)(s:Shared):List (Option FuncData)×List (Option FuncData)×Bool:=
 (fs.map (λp=>(wD (bR s.heap) p.1).map (λq=>nW q.2)),ms.map (λm=>(GP (bR s.heap) (iU (l.L (bR s.heap)) m.c)).map nW),
  l.good (bR s.heap)&&ms.all (λm=>setB (bR s.heap) (iU (l.L (bR s.heap)) m.c) m.fs)&&xs.all (λx=>Lr (bR s.heap) (iU (l.L (bR s.heap)) x.1) x.2))
noncomputable def lD(fs:List (Str×Stmt))(ms:List uf)(w:World):List (Option FuncData)×List (Option FuncData)×Bool:=(fs.map (λp=>some (vM p.1 p.2)),ms.map (λm=>some (Ar m.q m.st)),true)
noncomputable def Ls(fs:List (Str×Stmt))(s:Shared):List (Option FuncData):=fs.map (λp=>(wD (bR s.heap) p.1).map (λq=>nW q.2))
noncomputable def Wc(ms:List uf)(xs:List (Nat×Str))(l:Lk)(s:Shared):List (Option FuncData)×Bool:=(ms.map (λm=>(GP (bR s.heap) (iU (l.L (bR s.heap)) m.c)).map nW),
  l.good (bR s.heap)&&ms.all (λm=>setB (bR s.heap) (iU (l.L (bR s.heap)) m.c) m.fs)&&xs.all (λx=>Lr (bR s.heap) (iU (l.L (bR s.heap)) x.1) x.2))
theorem zfn{p q:Program}{loose:List Str}{Xt:Shared->Bool}{N:Nat}{fs1 rO:List (Str×Stmt)}{ms:List uf}{xs:List (Nat×Str)}{l:Lk}
  (a:∀w,(openEnds treeTable p w N).map (λs=>openSeen q loose (importedModules p.main.body) Xt true s)=some (openGood q loose))
  (b1:∀w,(openEnds treeTable p w N).map (Ls fs1)=some (fs1.map λp=>some (vM p.1 p.2)))
  (b2:∀w,(openEnds treeTable p w N).map (Ls rO)=some (rO.map λp=>some (vM p.1 p.2)))
  (c:∀w,(openEnds treeTable p w N).map (Wc ms xs l)=some (ms.map (λm=>some (Ar m.q m.st)),true)):LeftO p q loose Xt (jR (fs1++rO) ms xs l) (lD (fs1++rO) ms) N:=by
 intro w;have a:=a w;have b1:=b1 w;have b2:=b2 w;have c:=c w;cases e:openEnds treeTable p w N with
 |none=>rw[e] at a;cases a
 |some s=>
  rw[e] at a b1 b2 c;have a:openSeen q loose (importedModules p.main.body) Xt true s=openGood q loose:=cO a;have b1:=cO b1;have b2:=cO b2;have c:=cO c;have c1:=lq Prod.fst c;have c2:=lq Prod.snd c;show some (_,jR (fs1++rO) ms xs l s)=_;rw[a];have:jR (fs1++rO) ms xs l s=lD (fs1++rO) ms w:=by
   unfold jR lD;rw[DP,DP];have b1:List.map _ fs1=List.map _ fs1:=b1;have b2:List.map _ rO=List.map _ rO:=b2;rw[b1,b2];exact Prod.ext rfl (Prod.ext c1 c2)
  rw[this]
structure Bd where
 n:Str
 fs:List Str
 ms:List (Str×Str×Stmt)
noncomputable def lK(K:Frag)(C:Addr)(m:Str):Option (Addr×FuncData):=match findIn K (.ref C) m with
 |some (some (.ref f))=>(match K.lookup f with
  |some ⟨_,_,.func fd,_⟩=>(match codeIn K fd.code fd.qualname&&keepIn K (.ref f)&&isFn K (.ref f) with
   |true=>some (f,fd)
   |false=>none)
  |_=>none)
 |_=>none
noncomputable def Ed(m q:Str)(st:Stmt):FuncData:=fnOf m q (aY st) (aJ st) (au st) .none .none .none .none none .none .none
noncomputable def yX(K:Frag)(b:Bd):Bool:=ud K b.n&&plainGet K (dX K b.n) Str.empty&&hasDictIn K (dX K b.n)&&plainOver K (dX K b.n)&&findIn K (.ref (dX K b.n)) "__setattr__"==some (some (.builtin "object.__setattr__"))&&makesIn K (dX K b.n)&&keepIn K (.ref (dX K b.n))&&b.fs.all (λf=>findIn K (.ref (dX K b.n)) f==some none)
noncomputable def wG(b:Bd)(s:Shared):List (Option FuncData)×Bool:=(b.ms.map λp=>(lK (bR s.heap) (dX (bR s.heap) b.n) p.1).map λq=>nW q.2,yX (bR s.heap) b)
noncomputable def wH(b:Bd):List (Option FuncData)×Bool:=(b.ms.map λp=>some (Ed p.1 p.2.1 p.2.2),true)
theorem zjM{p q:Program}{loose:List Str}{Xt:Shared->Bool}{N:Nat}{fs:List (Str×Stmt)}{ms:List uf}{xs:List (Nat×Str)}{l:Lk}{b:Bd}(h:LeftO p q loose Xt (jR fs ms xs l) (lD fs ms) N)(e:∀w,(openEnds treeTable p w N).map (wG b)=some (wH b)) :
  LeftO p q loose Xt (λs=>(jR fs ms xs l s,wG b s)) (λw=>(lD fs ms w,wH b)) N:=by
 intro w;have h:=h w;have e:=e w;cases z:openEnds treeTable p w N with
 |none=>rw[z] at e;cases e
 |some s=>
  rw[z] at h e;have e:wG b s=wH b:=cO e;have h:=cO h;have h1:=lq Prod.fst h;have h2:=lq Prod.snd h;show some (_,_,_)=some (_,_,_);rw[e];exact lq some (Prod.ext h1 (Prod.ext h2 rfl))
noncomputable def lM(o:Obj):Option Value:=match o.data with
 |.fields vs=>(match (vs[1]? : Option Value) with
  |some (.str q _)=>(match q=="plain_rings" with
   |true=>vs[11]?
   |false=>none)
  |_=>none)
 |_=>none
noncomputable def bmB(K:Frag):Bool:=match nsIn K mainGlobals "__builtins__" with
 |some (some (.ref bm))=>(match K.lookup bm with
  |some ⟨.type "module",some d,.plain,_⟩=>d==builtinsNs&&bm != builtinsNs&&bm != mainGlobals
  |_=>false)
 |_=>false
noncomputable def GR(h:Heap)(P:Addr):Bool:=match h.get? P with
 |some o=>qL o
 |none=>false
noncomputable def Av(K:Frag)(h:Heap):Bool:=match wD K "plain_rings" with
 |some q=>(match q.2.code with
  |.ref c=>(match (K.lookup c).bind lM with
   |some (.ref P)=>codeHdIn K c P&&(K.lookup P).isNone&&GR h P&&bmB K&&K.all (λr=>match lM r.2 with
    |some (.ref p)=>p==P
    |_=>true)
   |_=>false)
  |_=>false)
 |none=>false
noncomputable def nY(s:Shared):Bool:=Av (bR s.heap) s.heap
theorem zgY{p q:Program}{loose:List Str}{Xt:Shared->Bool}{N:Nat}{α:Type}{Yf:Shared->α}{Ya:World->α}(h:LeftO p q loose Xt Yf Ya N)(e:∀w,(openEnds treeTable p w N).map nY=some true) :
  LeftO p q loose Xt (λs=>(Yf s,nY s)) (λw=>(Ya w,true)) N:=by
 intro w;have h:=h w;have e:=e w;cases z:openEnds treeTable p w N with
 |none=>rw[z] at h;cases h
 |some s=>
  rw[z] at h e;have h:=cO h;have e:nY s=true:=cO e;show some (_,(Yf s,nY s))=_;have h1:openSeen q loose (importedModules p.main.body) Xt true s=openGood q loose:=lq Prod.fst h;have h2:Yf s=Ya w:=lq Prod.snd h;rw[e,h1,h2]
end Mi
namespace dZ
open PySem PySem.Spec PyProof.Rows PySem.W L2 Mi
noncomputable def top(i:Nat):Stmt:=PySem.Challenge.pw_ringhues_k70_webs_by_their_shortest_ring.main.body.getD i (.Pass ⟨0,0,0,0⟩)
noncomputable def Ef:Stmt:=(eN (top 19)).getD 0 (.Pass ⟨0,0,0,0⟩)
noncomputable def GX:Stmt:=(eN (top 19)).getD 1 (.Pass ⟨0,0,0,0⟩)
noncomputable def Eh:Stmt:=(eN (top 19)).getD 2 (.Pass ⟨0,0,0,0⟩)
noncomputable def Ej:Stmt:=(eN (top 19)).getD 3 (.Pass ⟨0,0,0,0⟩)
noncomputable def Ek:Stmt:=(eN (top 19)).getD 4 (.Pass ⟨0,0,0,0⟩)
noncomputable def GZ:Stmt:=(eN (top 19)).getD 5 (.Pass ⟨0,0,0,0⟩)
noncomputable def El:Stmt:=(eN (top 19)).getD 6 (.Pass ⟨0,0,0,0⟩)
noncomputable def bd:Bd:=⟨"Board",["ends","spots","apart","alike"],[("__init__","Board.__init__",Ef),("far_apart","Board.far_apart",GX),("settled","Board.settled",Eh),("ties_left","Board.ties_left",Ej),("bound","Board.bound",Ek),("narrowest","Board.narrowest",GZ),("all_free","Board.all_free",El)]⟩
noncomputable def fs1:List (Str×Stmt):=("is_whole",top 5)::("is_within",top 6)::("is_row",top 7)::("is_web",top 10)::("is_many",top 11)::("is_place",top 12)::("is_tie",top 13)::("check_web",top 14)::("all_pairs",top 15)::("tied_to",top 16)::("all_ends",top 17)::("ring_board",top 20)::("is_ring",top 23)::("check_ring",top 24)::("lowest_terms",top 25)::("first_hues",top 27)::("first_among",top 28)::("first_spot",top 29)::[]
noncomputable def rO:List (Str×Stmt):=("can_settle",top 30)::("search",top 31)::("plain_rings",top 34)::("has_room",top 35)::("shortest",top 36)::("is_plain",top 37)::("by_shortest",top 39)::("webs_with",top 40)::("_law_cell",top 42)::("_law_pen",top 43)::("_law_draw",top 44)::("_law_whole",top 45)::("_law_apart",top 46)::("_law_first",top 47)::("_law_plain",top 48)::("_law_shortest",top 49)::("_law_all_webs",top 50)::("_law_right",top 51)::("law",top 52)::[]
noncomputable abbrev fs:List (Str×Stmt):=fs1++rO
noncomputable def lk:Lk:=⟨[],[("MOST_PLACES",8),("MOST_SPOTS",24),("SO_OFTEN",27720)],["abs","all","bool","divmod","enumerate","int","isinstance","len","list","max","min","range","sorted","tuple","zip"],[],[]⟩
noncomputable def ms:List uf:=[]
noncomputable def xs:List (Nat×Str):=[]
noncomputable abbrev pv:Program:=PySem.Challenge.pw_ringhues_k70_webs_by_their_shortest_ring
noncomputable def qv:Program:={pv with main:={pv.main with body:=[pv.main.body.getD 52 (.Pass ⟨0,0,0,0⟩)]}}
noncomputable def loose:List Str:=(["HueError","NoRing","NoWeb","is_whole","is_within","is_row","MOST_PLACES","is_web","is_many","is_place","is_tie","check_web","all_pairs","tied_to","all_ends","Board","ring_board","MOST_SPOTS","is_ring","check_ring","lowest_terms","first_hues","first_among","first_spot","can_settle","search","SO_OFTEN","plain_rings","has_room","shortest","is_plain","by_shortest","webs_with","_law_cell","_law_pen","_law_draw","_law_whole","_law_apart","_law_first","_law_plain","_law_shortest","_law_all_webs","_law_right"]:List String).map Str.ofString
theorem zku(w:World):(openEnds treeTable pv w 20000).map (λs=>openSeen qv loose (importedModules pv.main.body) (λs=>xlAt qv [] s&&recOk [] s) true s)=some (openGood qv loose):=by
 kernel_rfl
theorem zkv(w:World):(openEnds treeTable pv w 20000).map (Ls fs1)=some (fs1.map λp=>some (vM p.1 p.2)):=by
 kernel_rfl
theorem zlh(w:World):(openEnds treeTable pv w 20000).map (Ls rO)=some (rO.map λp=>some (vM p.1 p.2)):=by
 kernel_rfl
theorem zmc(w:World):(openEnds treeTable pv w 20000).map (Wc ms xs lk)=some (ms.map (λm=>some (Ar m.q m.st)),true):=by
 kernel_rfl
theorem ws:PySem.Challenge.rw_ringhues_k70_webs_by_their_shortest_ring.wellSaid=true:=by
 kernel_rfl
theorem zl6(w:World):(openEnds treeTable pv w 20000).map (wG bd)=some (wH bd):=by
 kernel_rfl
theorem zmo:LeftO pv qv loose (λs=>xlAt qv [] s&&recOk [] s) (λs=>(jR fs ms xs lk s,wG bd s)) (λw=>(lD fs ms w,wH bd)) 20000:=zjM (zfn zku zkv zlh zmc) zl6
theorem zkZ(w:World):(openEnds treeTable pv w 20000).map nY=some true:=by
 kernel_rfl
theorem left:LeftO pv qv loose (λs=>xlAt qv [] s&&recOk [] s) (λs=>((jR fs ms xs lk s,wG bd s),nY s)) (λw=>((lD fs ms w,wH bd),true)) 20000:=zgY zmo zkZ
end dZ
namespace L2
open PySem PySem.Spec PyProof.Rows
theorem eE{α:Sort u}{β:Sort v}{A B C:α->β->Prop}{P:Prop}(h:∃x y,A x y/\B x y/\C x y)(k:∀x y,A x y->B x y->C x y->P):P:=by
 obtain⟨x,y,a,b,c⟩:=h;exact k x y a b c
theorem Py{α:Sort u}{β:Sort v}{γ:Sort w}{A B:α->β->Prop}{C D:α->β->γ->Prop}{P:Prop}(h:∃x y,A x y/\B x y/\∃z,C x y z/\D x y z)(k:∀x y,A x y->B x y->∀z,C x y z->D x y z->P):P:=by
 obtain⟨x,y,a,b,z,c,d⟩:=h;exact k x y a b z c d
theorem vN{α:Sort u}{A B:α->Prop}{P:Prop}(h:∃x,A x/\B x)(k:∀x,A x->B x->P):P:=by
 obtain⟨x,a,b⟩:=h;exact k x a b
noncomputable abbrev Key:=Sum Int Str
noncomputable def yZ:Key->Value->Bool
 |.inl k,v=>Value.isInt k v
 |.inr x,v=>Value.isStrOf x v
noncomputable def Pz(w:World):Key->Int
 |.inl k=>hashInt k
 |.inr x=>hashStr w x
theorem wI:∀{k:Key} {v:Value},yZ k v=true->(∃i t,k=Sum.inl i/\v=Value.int i t)\/(∃x t,k=Sum.inr x/\v=Value.str x t)
 |.inl i,v,h=>by
  obtain⟨t,e⟩:=Value.isInt_shape (k:=i) (v:=v) h;exact .inl ⟨i,t,rfl,e⟩
 |.inr x,v,h=>by
  obtain⟨t,e⟩:=Value.isStrOf_shape (x:=x) (v:=v) h;exact .inr ⟨x,t,rfl,e⟩
theorem zme(a b:Int):decide ((Sum.inl a:Key)=Sum.inl b)=(a==b):=by
 by_cases e:a=b
 ·subst e;simp
 ·have h:¬(Sum.inl a:Key)=Sum.inl b:=λq=>e (Sum.inl.inj q);rw[tY h];exact(Dv.mpr e).symm
theorem zlj(a b:Str):decide ((Sum.inr a:Key)=Sum.inr b)=decide (a=b):=by
 by_cases e:a=b
 ·subst e;simp
 ·have h:¬(Sum.inr a:Key)=Sum.inr b:=λq=>e (Sum.inr.inj q);rw[tY h,tY e]
theorem zkI(a:Int)(b:Str):decide ((Sum.inl a:Key)=Sum.inr b)=false:=tY (λq=>nomatch q)
theorem zml(a:Str)(b:Int):decide ((Sum.inr a:Key)=Sum.inl b)=false:=tY (λq=>nomatch q)
noncomputable def mK(prog:Program)(w:World):PySem.KeyKind prog w Key where
 is:=yZ
 hash:=Pz w
 inj:=λv a b ha hb=>by
  rcases wI ha with ⟨i,t,rfl,rfl⟩|⟨x,t,rfl,rfl⟩
  ·rcases wI hb with ⟨j,u,rfl,e⟩|⟨y,u,rfl,e⟩
   ·injection e with e1 _;rw[e1]
   ·exact nomatch e
  ·rcases wI hb with ⟨j,u,rfl,e⟩|⟨y,u,rfl,e⟩
   ·exact nomatch e
   ·injection e with e1 _;rw[e1]
 byValue:=λk v h=>by
  rcases wI h with ⟨i,t,rfl,rfl⟩|⟨x,t,rfl,rfl⟩<;>rfl
 pyHash:=λhv h=>by
  rcases wI hv with ⟨i,t,rfl,rfl⟩|⟨x,t,rfl,rfl⟩
  ·exact wpAny_pyHash_int h
  ·exact wpAny_pyHash_str h
 eqBool:=λhu hv h=>by
  rcases wI hu with ⟨i,t,rfl,rfl⟩|⟨x,t,rfl,rfl⟩
  ·rcases wI hv with ⟨j,u,rfl,rfl⟩|⟨y,u,rfl,rfl⟩
   ·rw[zme] at h;exact wpAny_eqBool_int h
   ·rw[zkI] at h;exact SeqAt.EqAt.int_str i t y u _ _ _ _ h
  ·rcases wI hv with ⟨j,u,rfl,rfl⟩|⟨y,u,rfl,rfl⟩
   ·rw[zml] at h;exact SeqAt.EqAt.str_int x t j u _ _ _ _ h
   ·rw[zlj] at h;exact wpAny_eqBool_str h
 «strs»:=λk x t v h=>by
  rcases wI h with ⟨i,u,rfl,e⟩|⟨y,u,rfl,e⟩
  ·exact nomatch e
  ·injection e with e1 _;subst e1;cases v<;>rfl
inductive V where
 |non|bl (b:Bool)|int (i:Int)|str (x:Str)|Aw (b:Array UInt8)|flt (b:UInt64)|ref (a:Addr)|ty (n:String)
 deriving DecidableEq
noncomputable def RelV:V->Value->Prop
 |.non,u=>u=Value.none
 |.bl b,u=>u=Value.bool b
 |.int i,u=>∃t,u=Value.int i t
 |.str x,u=>∃t,u=Value.str x t
 |.Aw b,u=>∃t,u=Value.bytes b t
 |.flt b,u=>∃t,u=Value.float b t
 |.ref a,u=>u=Value.ref a
 |.ty n,u=>u=Value.type n
noncomputable abbrev Vals:List V->List Value->Prop:=Paired RelV
theorem Vals.length{xs:List V}{us:List Value}(r:Vals xs us):xs.length=us.length:=Paired.length r
theorem Vals.get:∀{xs:List V} {us:List Value} {i:Nat} {x:V},Vals xs us->xs[i]?=some x->∃u,us[i]?=some u/\RelV x u
 |_,_,_,_,.nil,e=>by simp at e
 |_,_,0,_,.cons r _,e=>by simp at e;subst e;exact⟨_,rfl,r⟩
 |_,_,i+1,x,.cons _ t,e=>by
  obtain⟨u,h1,h2⟩:=Vals.get (i:=i) (x:=x) t (by simpa using e);exact⟨u,by simpa using h1,h2⟩
theorem Vals.set{x:V}{u:Value}(r:RelV x u):∀{xs:List V} {us:List Value} (i:Nat),Vals xs us->Vals (xs.set i x) (us.set i u)
 |_,_,_,.nil=>.nil
 |_,_,0,.cons _ t=>.cons r t
 |_,_,i+1,.cons q t=>.cons q (Vals.set r i t)
theorem Vals.append{xs ys:List V}{us ws:List Value}(h:Vals xs us)(s:Vals ys ws):Vals (xs++ys) (us++ws):=by
 induction h with
 |nil=>exact s
 |cons r _ ih=>exact .cons r ih
theorem Vals.take:∀{xs:List V} {us:List Value} (n:Nat),Vals xs us->Vals (xs.take n) (us.take n)
 |_,_,0,_=>.nil
 |_,_,_+1,.nil=>.nil
 |_,_,n+1,.cons r t=>.cons r (Vals.take n t)
theorem Vals.drop:∀{xs:List V} {us:List Value} (n:Nat),Vals xs us->Vals (xs.drop n) (us.drop n)
 |_,_,0,r=>r
 |_,_,_+1,.nil=>.nil
 |_,_,n+1,.cons _ t=>Vals.drop n t
noncomputable def rP:Option V->Option Value->Prop
 |some v,some u=>RelV v u
 |none,none=>True
 |_,_=>False
noncomputable def KV{κ:Type}:List (κ×V)->List (κ×Value)->Prop:=Paired λ(p:κ×V) (q:κ×Value)=>p.1=q.1/\RelV p.2 q.2
noncomputable def kV:Key->V
 |.inl i=>.int i
 |.inr x=>.str x
inductive HO where
 |lst (xs:List V)
 |tup (xs:List V)
 |dK (kvs:List (Key×V))|dT (kvs:List (List Key×V))
 |set (S:Int->Bool) (n:Nat)
 |ins (C dx:Addr) (fs:List (Str×V))
 |own (x:Addr)
 |xd (fs:List (Str×V))
 |met (f x:Addr)
 |rng (lo hi:Int)
 |nZ (o:Obj) (u:HO)
 |lN (ps:Array Value)
 |ext (U:Heap->Prop)
noncomputable abbrev Hp:=Addr->Option HO
noncomputable def upd(H:Hp)(a:Addr)(o:HO):Hp:=λb=>if b=a then some o else H b
theorem iB{H:Hp}{a:Addr}{o:HO}:upd H a o a=some o:=by unfold upd;rw[if_pos rfl]
theorem bT{H:Hp}{a b:Addr}{o:HO}(h:b≠a):upd H a o b=H b:=by unfold upd;rw[if_neg h]
theorem Wd{H:Hp}{a:Addr}{o u:HO}:upd (upd H a o) a u=upd H a u:=by
 funext b;unfold upd;split<;>rfl
theorem wJ{H:Hp}{a b:Addr}{o:HO}(h:H a=some o)(h':H b=none):a≠b:=by
 intro e;subst e;rw[h] at h';cases h'
section
variable (P:Program)(w:World)
noncomputable def bI(H:Hp)(h:Heap)(a:Addr):HO->Prop
 |.lst xs=>xs.length<=sizeLine/\∃(its:List Value) (n:Nat),Vals xs its/\h.get? a=some {cls:=.type "list",data:=.seq its.toArray n}
 |.tup xs=>xs.length<=sizeLine/\∃its:List Value,Vals xs its/\IsTup h a its.toArray
 |.dK kvs=>kvs.length<=sizeLine/\(a==sysModules)=false/\∃vs,KV kvs vs/\h.DictOf (mK P w) a vs
 |.dT kvs=>kvs.length<=sizeLine/\(a==sysModules)=false/\∃xs:List (List Key×Addr×Value),
   Paired (λ(p:List Key×V) (q:List Key×Addr×Value)=>p.1=q.1/\H q.2.1=some (.tup (p.1.map kV))/\RelV p.2 q.2.2) kvs xs /\
   ∃o es ep,h.get? a=some o/\o.ExactDict/\o.data=.dict es ep/\es.toList=xs.map (entryOfKey (tupleKind (mK P w)))/\(xs.map (·.1)).Nodup
 |.set S n=>h.SetOf (intKind P w) a S n
 |.ins C dx fs=>H dx=some (.own a)/\fs.length<=1000/\dx≠a/\h.get? a=some (PySem.W.instObj C dx) /\
   ∃mA,h.Ns1 dx mA/\(∀f,rP (fs.lookup f) (mA f))/\PySem.Within mA (fs.map (·.1))
 |.own _=>∃o,h.get? a=some o
 |.xd fs=>∃mA,h.Ns1 a mA/\∀f,rP (fs.lookup f) (mA f)
 |.rng lo hi=>∃t u v,h.get? a=some {cls:=.type "range",data:=.fields #[.int lo t,.int hi u,.int 1 v]}
 |.nZ o u=>h.get? a=some o/\bI H h a u
 |.lN ps=>h.get? a=some {cls:=.none,data:=.fields ps}
 |.met f x=>h.get? a=some (PySem.W.methodObj (.ref f) (.ref x))
 |.ext U=>U h/\(∃o,h.get? a=some o)/\∀h1 h2:Heap,U h1->(∀o,h1.get? a=some o->h2.get? a=some o)->U h2
def iM(H:Hp)(h:Heap):Prop:=∀a o,H a=some o->bI P w H h a o
end
section
variable {P:Program}{w:World}{H H':Hp}{h h':Heap}{a:Addr}{o:HO}
theorem bI.lt(x:bI P w H h a o):a<h.objs.size:=by
 cases o with
 |lst xs=>obtain⟨_,_,_,_,e⟩:=x;exact bQ e
 |tup xs=>obtain⟨_,_,_,p⟩:=x;exact p.lt
 |dK kvs=>obtain⟨_,_,_,_,o,_,_,e,_⟩:=x;exact bQ e
 |dT kvs=>obtain⟨_,_,_,_,o,_,_,e,_⟩:=x;exact bQ e
 |set S n=>obtain⟨o,_,_,_,e,_⟩:=x;exact bQ e
 |ins C dx fs=>obtain⟨_,_,_,e,_⟩:=x;exact bQ e
 |own y=>obtain⟨_,e⟩:=x;exact bQ e
 |xd fs=>obtain⟨_,⟨_,_,_,e,_⟩,_⟩:=x;exact bQ e
 |rng lo hi=>obtain⟨_,_,_,e⟩:=x;exact bQ e
 |nZ ob u=>obtain⟨e,_⟩:=x;exact bQ e
 |lN ps=>exact bQ (show h.get? a=some _ from x)
 |met f y=>exact bQ (show h.get? a=some _ from x)
 |ext U=>obtain⟨_,⟨_,e⟩,_⟩:=x;exact bQ e
theorem Wf{α β:Type}{F G:α->β->Prop}:∀{l₁:List α} {l₂:List β},Paired F l₁ l₂->(∀a b,F a b->G a b)->Paired G l₁ l₂
 |_,_,.nil,_=>.nil
 |_,_,.cons r t,f=>.cons (f _ _ r) (Wf t f)
theorem bI.stay(x:bI P w H h a o)(k:∀b u,(b=a\/H b=some (.own a))->h.get? b=some u->h'.get? b=some u)
  (ho:∀b,H b=some (.own a)->H' b=some (.own a)) (ht:∀b xs,H b=some (.tup xs)->H' b=some (.tup xs)):bI P w H' h' a o:=by
 induction o with
 |lst xs=>obtain⟨z,its,n,r,e⟩:=x;exact⟨z,its,n,r,k _ _ (.inl rfl) e⟩
 |tup xs=>obtain⟨z,its,r,ob,e,c⟩:=x;exact⟨z,its,r,ob,k _ _ (.inl rfl) e,c⟩
 |dK kvs=>obtain⟨z,y,vs,r,ob,es,ep,e,c⟩:=x;exact⟨z,y,vs,r,ob,es,ep,k _ _ (.inl rfl) e,c⟩
 |dT kvs=>
  obtain⟨z,y,xs,r,ob,es,ep,e,c⟩:=x;exact⟨z,y,xs,Wf r λp q z=>⟨z.1,ht _ _ z.2.1,z.2.2⟩,ob,es,ep,k _ _ (.inl rfl) e,c⟩
 |set S n=>obtain⟨ob,es,ep,t,e,c⟩:=x;exact⟨ob,es,ep,t,k _ _ (.inl rfl) e,c⟩
 |ins C dx fs=>
  obtain⟨d,z,ne,e,mA,⟨od,es,ep,e2,c⟩,r⟩:=x;exact⟨ho _ d,z,ne,k _ _ (.inl rfl) e,mA,⟨od,es,ep,k _ _ (.inr d) e2,c⟩,r⟩
 |own y=>obtain⟨ob,e⟩:=x;exact⟨ob,k _ _ (.inl rfl) e⟩
 |xd fs=>obtain⟨mA,⟨od,es,ep,e,c⟩,r⟩:=x;exact⟨mA,⟨od,es,ep,k _ _ (.inl rfl) e,c⟩,r⟩
 |rng lo hi=>obtain⟨t,u,v,e⟩:=x;exact⟨t,u,v,k _ _ (.inl rfl) e⟩
 |nZ ob u ih=>obtain⟨e,q⟩:=x;exact⟨k _ _ (.inl rfl) e,ih q⟩
 |lN ps=>
  have e:h.get? a=some {cls:=.none,data:=.fields ps}:=x;show h'.get? a=some {cls:=.none,data:=.fields ps};exact k a _ (.inl rfl) e
 |met f y=>
  have e:h.get? a=some (PySem.W.methodObj (.ref f) (.ref y)):=x;show h'.get? a=some (PySem.W.methodObj (.ref f) (.ref y));exact k a _ (.inl rfl) e
 |ext U=>obtain⟨p,⟨o,e⟩,st⟩:=x;exact⟨st _ _ p λo q=>k _ _ (.inl rfl) q,⟨o,k _ _ (.inl rfl) e⟩,st⟩
theorem iM.lt(x:iM P w H h)(e:H a=some o):a<h.objs.size:=(x a o e).lt
theorem iM.fresh(x:iM P w H h)(e:h.objs.size<=a):H a=none:=by
 cases q:H a with
 |none=>rfl
 |some u=>exact absurd (fZ (x.lt q) e) (pJ _)
theorem iM.kept(x:iM P w H h)(k:∀b u,h.get? b=some u->h'.get? b=some u):iM P w H h':=λa o e=>
 (x a o e).stay (λb u _ q=>k b u q) (λ_ q=>q) λ_ _ q=>q
theorem iM.laid(x:iM P w H h)(k:∀b u,h.get? b=some u->h'.get? b=some u)(hp:h.objs.size<=a)(new:bI P w (upd H a o) h' a o):iM P w (upd H a o) h':=λb u e=>by
 have hn:=x.fresh hp;by_cases hb:b=a
 ·subst hb;rw[iB] at e;cases e;exact new
 ·rw[bT hb] at e;exact(x b u e).stay (λc v _ q=>k c v q) (λc q=>by rw[bT (wJ q hn)];exact q) λc xs q=>by rw[bT (wJ q hn)];exact q
end
def Rd(H:Hp)(a:Addr)(u:HO):Prop:=H a=some u\/∃o,H a=some (.nZ o u)
theorem Rd.ok{P:Program}{w:World}{H:Hp}{h:Heap}{a:Addr}{u:HO}(r:Rd H a u)(x:iM P w H h):bI P w H h a u:=by
 rcases r with r|⟨o,r⟩
 ·exact x a u r
 ·obtain⟨_,q⟩:=x a _ r;exact q
noncomputable def G3:Option HO->Prop
 |some (.lst _)=>True
 |some (.dK _)=>True
 |some (.dT _)=>True
 |some (.set _ _)=>True
 |some (.ins _ _ _)=>True
 |some (.ext _)=>True
 |_=>False
section
variable {P:Program}{w:World}{H:Hp}{h h':Heap}{x e:Addr}{o':HO}
theorem iM.write(ok:iM P w H h)(mu:G3 (H x))(he:e=x\/H e=some (.own x))(k:∀b u,b≠e->h.get? b=some u->h'.get? b=some u)(Em:∃u,h'.get? e=some u)
  (new:bI P w (upd H x o') h' x o'):iM P w (upd H x o') h':=λb u q=>by
 have G4:∀c y,H c=some (.own y)->c≠x:=λc y r z=>by subst z;rw[r] at mu;exact mu
 have PB:∀c xs,H c=some (.tup xs)->c≠x:=λc xs r z=>by subst z;rw[r] at mu;exact mu
 by_cases hb:b=x
 ·subst hb;rw[iB] at q;cases q;exact new
 ·rw[bT hb] at q;by_cases Ax:b=e
  ·have q':H b=some (.own x):=by
    rcases he with z|z
    ·exact absurd (Ax.trans z) hb
    ·rw[Ax];exact z
   rw[q] at q';cases q';obtain⟨v,hv⟩:=Em;exact⟨v,by rw[Ax];exact hv⟩
  ·refine(ok b u q).stay (λc v hc r=>k c v ?_ r) (λc r=>by rw[bT (G4 c b r)];exact r) λc xs r=>by rw[bT (PB c xs r)];exact r
   rcases hc with rfl|hc
   ·exact Ax
   ·rintro rfl;rcases he with z|z
    ·exact G4 c b hc z
    ·rw[hc] at z;cases z;exact hb rfl
end
noncomputable def iV:Str:="plain_rings.<locals>.<lambda>"
noncomputable def qM:Bool:=true
def GoodC(H:Hp)(c:Addr):Prop:=∃oc u vs t,H c=some (.nZ oc u)/\oc.data=.fields vs/\vs[1]?=some (.str iV t)
inductive fK (H:Hp):List Value->Prop
 |nil:fK H []
 |cons (l m:Int) (c:Addr) (r:List Value):GoodC H c->fK H r->fK H (rawInt l::rawInt m::.ref c::r)
theorem fK.app{H:Hp}{a b:List Value}(x:fK H a)(y:fK H b):fK H (a++b):=by
 induction x with
 |nil=>exact y
 |cons l m c r g _ ih=>exact .cons l m c _ g ih
theorem fK.mono{H H':Hp}(k:∀b o u,H b=some (.nZ o u)->H' b=some (.nZ o u)){a:List Value}(x:fK H a):fK H' a:=by
 induction x with
 |nil=>exact .nil
 |cons l m c r g _ ih=>
  obtain⟨oc,u,vs,t,e,q⟩:=g;exact .cons l m c _ ⟨oc,u,vs,t,k _ _ _ e,q⟩ ih
noncomputable def jT(K:W.Frag)(c P:Addr):Bool:=match K.lookup c with
 |some o=>(match o.data with
  |.fields vs=>(match (vs[1]? : Option Value) with|some (.str q _)=>q=="plain_rings"|_=>false)&&(match (vs[11]? : Option Value) with|some (.ref p)=>p==P|_=>false)
  |_=>false)
 |none=>false
def Ay(K:W.Frag)(H:Hp):Prop:=qM=true->∀c P,jT K c P=true->∃ps,H P=some (.lN ps)/\fK H ps.toList
structure Un(fs ex:List Addr)(H H':Hp)(h h':Heap):Prop where
 keep:∀b o,h.get? b=some o->H b=none->b∉fs->b∉ex->h'.get? b=some o
 slot:∀b o,h.get? b=some o->H b=none->b∈fs->b∉ex->∃sl,h'.get? b=some {o with slots:=sl}
 free:∀b o,h.get? b=some o->H b=none->b∉ex->H' b=none
 there:∀b o,h.get? b=some o->b∉ex->∃o',h'.get? b=some o'
 tups:∀b xs,H b=some (.tup xs)->H' b=some (.tup xs)
 iW:∀b o u,H b=some (.nZ o u)->H' b=some (.nZ o u)
 jB:∀b ps,H b=some (.lN ps)->∃more,H' b=some (.lN (ps++more))/\fK H' more.toList
section
variable {fs fs' ex ex':List Addr}{H H1 H2:Hp}{h h1 h2 h':Heap}{a x e:Addr}{o:HO}
theorem Un.any(u:Un fs ex H H1 h h1){b:Addr}{ob:Obj}(q:h.get? b=some ob)(n:H b=none)(hx:b∉ex):∃sl,h1.get? b=some {ob with slots:=sl}:=by
 by_cases hb:b∈fs
 ·exact u.slot b ob q n hb hx
 ·exact⟨ob.slots,u.keep b ob q n hb hx⟩
theorem Un.kept(k:∀b u,h.get? b=some u->h'.get? b=some u):Un fs ex H H h h':=
 ⟨λb ob q _ _ _=>k b ob q,λb ob q _ _ _=>⟨ob.slots,k b ob q⟩,λ_ _ _ n _=>n,λb ob q _=>⟨ob,k b ob q⟩,λ_ _ q=>q,λ_ _ _ q=>q,λ_ ps q=>⟨#[],by rw[q];simp,.nil⟩⟩
theorem Un.refl:Un fs ex H H h h:=Un.kept λ_ _ q=>q
theorem Un.laid(k:∀b u,h.get? b=some u->h'.get? b=some u)(hp:h.objs.size<=a)(hn:H a=none):Un fs ex H (upd H a o) h h' where
 keep:=λb u q _ _ _=>k b u q
 slot:=λb u q _ _ _=>⟨u.slots,k b u q⟩
 free:=λb u q n _=>by rw[bT (cY (fZ (bQ q) hp))];exact n
 there:=λb u q _=>⟨u,k b u q⟩
 tups:=λb xs q=>by rw[bT (wJ q hn)];exact q
 iW:=λb u xs q=>by rw[bT (wJ q hn)];exact q
 jB:=λb ps q=>⟨#[],by rw[bT (wJ q hn),q];simp,.nil⟩
theorem Un.write(mu:G3 (H x))(he:e=x\/H e=some (.own x))(k:∀b u,b≠e->h.get? b=some u->h'.get? b=some u)(Em:∃u,h'.get? e=some u):Un fs ex H (upd H x o) h h':=by
 have hx:∀b,H b=none->b≠x:=λb n z=>by subst z;rw[n] at mu;exact mu
 have hb:∀b,H b=none->b≠e:=λb n z=>by
  subst z;rcases he with r|r
  ·exact hx b n r
  ·rw[n] at r;cases r
 have hm:∀b u,H b=some u->¬G3 (some u)->b≠x:=λb u q nm z=>by subst z;rw[q] at mu;exact nm mu
 refine⟨λb u q n _ _=>k b u (hb b n) q,λb u q n _ _=>⟨u.slots,k b u (hb b n) q⟩,λb u q n _=>by rw[bT (hx b n)];exact n,λb u q _=>?_,
  λb xs q=>by rw[bT (hm b _ q λz=>z)];exact q,λb u xs q=>by rw[bT (hm b _ q λz=>z)];exact q,λb ps q=>⟨#[],by rw[bT (hm b _ q λz=>z),q];simp,.nil⟩⟩
 by_cases Ax:b=e
 ·subst Ax;exact Em
 ·exact⟨u,k b u Ax q⟩
end
noncomputable def Lw(h:Heap)(H:Hp):List Addr:=(List.range h.objs.size).filter λa=>(H a).isSome
noncomputable def mL(h:Heap)(H:Hp):Heap:=PySem.W.hideAll h (Lw h H)
theorem zfB(h:Heap)(H:Hp):(mL h H).objs.size=h.objs.size:=PySem.W.hideAll_size _ _
theorem zhT{h:Heap}{H:Hp}{b:Addr}{o:Obj}(e:h.get? b=some o)(n:H b=none):(mL h H).get? b=some o:=
 PySem.W.hideAll_get _ e λhm=>by
  have q:(H b).isSome=true:=(mF.mp hm).2;rw[n] at q;simp at q
theorem zjT{h:Heap}{H:Hp}{b:Addr}{o:Obj}(e:(mL h H).get? b=some o):h.get? b=some o/\H b=none:=by
 have e':h.get? b=some o:=PySem.W.of_hideAll (Lw h H) e;refine⟨e',?_⟩;cases q:H b with
 |none=>rfl
 |some x=>
  have hm:b∈Lw h H:=mF.mpr ⟨Am.mpr (bQ e'),by simp[q]⟩;have z:(mL h H).get? b=none:=PySem.W.hideAll_none (Lw h H) hm;rw[z] at e;cases e
structure Mod(K:W.Frag)(mg:Str->Option Value)(base:Heap):Prop where
 wF:K.In base
 glob:base.Ns mainGlobals mg
 blt:∃mb,base.Ns builtinsNs mb/\∀x:Str,x≠"__name__"->mb x=bootBuiltins x
 nolimit:base.NoLimit
structure Cx where
 prog:Program
 w:World
 K:W.Frag
 mg:Str->Option Value
 base:Heap
 A:Around
 N:List Str
 s₀:Shared
 H₀:Hp
 env:Env
 outer:List Env
 stack:List Env
 ex:List Addr
 fn:Str->Bool
 aj:Bool
 pn:List (Addr×Obj)
 xe:Value->Shared->Prop
noncomputable def frs(l:List Env):List Addr:=l.filterMap (·.frame)
noncomputable abbrev Cx.fs(X:Cx):List Addr:=frs X.outer
def Lx(sc:Scope)(x:Str):Prop:=sc.names.lookup x=some .local\/sc.names.lookup x=some .cell\/sc.names.lookup x=some .free
def Loc(sc:Scope)(x:Str):Prop:=sc.names.lookup x=some .local\/sc.names.lookup x=some .cell
def Look(env:Env)(h:Heap)(m:Str->Option Value)(x:Str)(u:Value):Prop:=
 (env.kindOf x=some .local/\m x=some u)\/((env.kindOf x=some .cell\/env.kindOf x=some .free)/\∃c,env.cells.lookup x=some c/\h.IsCell c (some u))
structure Cx.Ok(X:Cx):Prop where
 mod:Mod X.K X.mg X.base
 kind:X.env.scope.kind=.function
 glob:X.env.globals=mainGlobals
 blt:X.env.builtins=builtinsNs
 above:X.s₀.heap.objs.size<=X.env.locals
 inj:∀x y c,X.env.cells.lookup x=some c->X.env.cells.lookup y=some c->x=y
 has:∀x,(X.env.kindOf x=some .cell\/X.env.kindOf x=some .free)->∃c,X.env.cells.lookup x=some c
 cab:∀x c,X.fn x=true->X.env.cells.lookup x=some c->X.s₀.heap.objs.size<=c
 hd:X.aj=true->X.A.handled=none
 frames:X.A.frames=some X.stack
 stk:X.stack=X.outer\/(X.stack=X.env::X.outer/\X.env.frame=some X.env.locals)
 Wg:∀b∈X.ex,b≠X.env.locals/\∀x c,X.env.cells.lookup x=some c->c≠b
 bs:∀b o,X.base.get? b=some o->X.s₀.heap.get? b=some o/\X.H₀ b=none
 wK:X.base.objs.size<=X.s₀.heap.objs.size
 ug:∀b o,X.base.get? b=some o->b∉X.ex
 wL:∀b∈X.ex,b∉X.fs
 jC:X.s₀.heap.FunFrames X.base X.outer
 zc:(∀b∈X.fs,X.H₀ b=none)/\Ay X.K X.H₀
structure Inv(X:Cx)(ao:List (Addr×Obj))(Z:List (Option V))(H:Hp)(s:Shared):Prop where
 ok:X.Ok
 os:s.os=X.s₀.os
 bare:AllBare s.gens
 base:Un X.fs X.ex X.H₀ H X.s₀.heap s.heap
 loc:∃m,s.heap.Ns X.env.locals m/\∀(i:Nat) (x:Str) (v:V),X.N[i]?=some x->Z[i]?=some (some v)->Lx X.env.scope x->∃u,RelV v u/\Look X.env s.heap m x u
 cell:∀x c,X.env.cells.lookup x=some c->∃v,s.heap.IsCell c v
 free:H X.env.locals=none
 gb:∀x c,X.env.cells.lookup x=some c->H c=none
 pin:∀p∈X.pn++ao,s.heap.get? p.1=some p.2/\H p.1=none/\p.1≠X.env.locals/\p.1∉X.fs/\∀v,p.2.data≠.cell v
 hok:iM X.prog X.w H s.heap
 len:Z.length=X.N.length
section
variable {X:Cx}{ao:List (Addr×Obj)}{Z:List (Option V)}{H H':Hp}{s:Shared}{h':Heap}
theorem Cx.Ok.PJ(ok:X.Ok){b:Addr}{o:Obj}(e:X.base.get? b=some o):b∉X.fs:=λhb=>by
 have:=(ok.jC.mem hb).1;rw[e] at this;cases this
theorem Inv.bs(I:Inv X ao Z H s):∀b o,X.base.get? b=some o->s.heap.get? b=some o/\H b=none:=λb o e=>
 ⟨I.base.keep b o (I.ok.bs b o e).1 (I.ok.bs b o e).2 (I.ok.PJ e) (I.ok.ug b o e),I.base.free b o (I.ok.bs b o e).1 (I.ok.bs b o e).2 (I.ok.ug b o e)⟩
theorem Inv.bk(I:Inv X ao Z H s):∀b o,X.base.get? b=some o->s.heap.get? b=some o:=λb o e=>(I.bs b o e).1
theorem Inv.mod(I:Inv X ao Z H s):Mod X.K X.mg X.base:=I.ok.mod
theorem Inv.lO(I:Inv X ao Z H s):X.K.In s.heap:=I.ok.mod.wF.keeps I.bk
theorem Inv.nolimit(I:Inv X ao Z H s):s.heap.NoLimit:=I.ok.mod.nolimit.keeps I.bk
theorem Inv.lt(I:Inv X ao Z H s):X.env.locals<s.heap.objs.size:=let ⟨_,hn,_⟩:=I.loc;hn.lt
theorem Inv.sz(I:Inv X ao Z H s):X.s₀.heap.objs.size<=s.heap.objs.size:=jQ I.ok.above (rM I.lt)
theorem Inv.Az(I:Inv X ao Z H s):Ay X.K H:=λon c P hc=>by
 obtain⟨ps,e,g⟩:=I.ok.zc.2 on c P hc;obtain⟨more,e2,g2⟩:=I.base.jB P ps e;exact⟨ps++more,e2,by rw[Array.toList_append];exact(g.mono I.base.iW).app g2⟩
theorem Inv.wM(I:Inv X ao Z H s){a:Addr}(h:s.heap.objs.size<=a):a∉X.fs:=λhb=>by
 obtain⟨_,o,ho,_⟩:=I.ok.jC.mem hb;exact absurd (fZ (bQ ho) (jQ I.sz h)) (pJ _)
theorem Inv.A_(I:Inv X ao Z H s):∀x c,X.env.cells.lookup x=some c->c≠X.env.locals:=λx c e z=>by
 obtain⟨v,o,ho,hd⟩:=I.cell x c e;obtain⟨m,⟨o',es,ep,pN,Ba,_⟩,_⟩:=I.loc;rw[z,pN] at ho;cases ho;rw[Ba] at hd;cases hd
theorem Inv.jC(I:Inv X ao Z H s):s.heap.FunFrames X.base X.outer:=by
 have all:∀(l:List Env),(∀b∈frs l,b∈X.fs)->X.s₀.heap.FunFrames X.base l->s.heap.FunFrames X.base l:=by
  intro l
  induction l with
  |nil=>intro _ _;trivial
  |cons env r ih=>
   intro hs hl;obtain⟨hk,⟨L,o,hf,hn,ho,hd⟩,hr⟩:=hl;have hL:L∈X.fs:=hs L (by unfold frs;rw[Gj,hf];exact lg);obtain⟨sl,e⟩:=I.base.slot L o ho (I.ok.zc.1 L hL) hL λz=>I.ok.wL L z hL;exact⟨hk,⟨L,_,hf,hn,e,hd⟩,ih (λb hb=>hs b (by unfold frs;rw[Gj,hf];exact gU _ hb)) hr⟩
 exact all X.outer (λ_ hb=>hb) I.ok.jC
theorem Inv.stack(I:Inv X ao Z H s):s.heap.FunFrames X.base X.stack:=by
 rcases I.ok.stk with e|⟨e,hf⟩
 ·rw[e];exact I.jC
 ·rw[e];obtain⟨m,hn,_⟩:=I.loc;refine .cons (by rw[I.ok.kind];decide) hf hn ?_ I.jC;exact Du (jQ I.ok.wK I.ok.above)
theorem Inv.jU(I:Inv X ao Z H s):∀b∈frs X.stack,b∈X.env.locals::X.fs:=λb hb=>by
 rcases I.ok.stk with e|⟨e,hf⟩
 ·rw[e] at hb;exact gU _ hb
 ·rw[e] at hb;unfold frs at hb;rw[Gj,hf] at hb;exact hb
theorem Inv.mO(I:Inv X ao Z H s):∀b∈frs X.stack,H b=none:=λb hb=>by
 rcases jA.mp (I.jU b hb) with e|hb
 ·rw[e];exact I.free
 ·obtain⟨_,o,ho,_⟩:=I.ok.jC.mem hb;exact I.base.free b o ho (I.ok.zc.1 b hb) λz=>I.ok.wL b z hb
theorem Inv.step{g':Array GenState}{t':Nat}{d':Drawn}{ch:List Addr}(I:Inv X ao Z H s)
  (vO:∀b∈ch,(b∈X.ex\/X.s₀.heap.get? b=none)/\b≠X.env.locals/\(∀x c,X.env.cells.lookup x=some c->c≠b)/\∀p∈X.pn++ao,p.1≠b)
  (keep:∀b o,b≠X.env.locals->b∉X.fs->b∉ch->s.heap.get? b=some o->H b=none->h'.get? b=some o)
  (slot:∀b o,b≠X.env.locals->b∈X.fs->b∉ch->s.heap.get? b=some o->H b=none->∃sl,h'.get? b=some {o with slots:=sl}) (free:∀b o,b∉ch->s.heap.get? b=some o->H b=none->H' b=none)
  (there:∀b o,b∉ch->s.heap.get? b=some o->∃o',h'.get? b=some o')
  (tups:∀b xs,H b=some (.tup xs)->H' b=some (.tup xs)) (iW:∀b o u,H b=some (.nZ o u)->H' b=some (.nZ o u)) (jB:∀b ps,H b=some (.lN ps)->∃more,H' b=some (.lN (ps++more))/\fK H' more.toList)
  (ns:∀m,s.heap.Ns X.env.locals m->h'.Ns X.env.locals m) (hok:iM X.prog X.w H' h') (hg:AllBare g') :
  Inv X ao Z H' {s with heap:=h',gens:=g',drawn:=d',toks:=t'}:=by
 have Wh:∀b o,X.s₀.heap.get? b=some o->b≠X.env.locals:=λb o e=>cY (fZ (bQ e) I.ok.above);have Ly:∀b o,X.s₀.heap.get? b=some o->b∉X.ex->b∉ch:=λb o e hx hb=>by
  rcases(vO b hb).1 with z|z
  ·exact hx z
  ·rw[e] at z;cases z
 have cellK:∀x c,X.env.cells.lookup x=some c->∀v,s.heap.IsCell c v->h'.IsCell c v:=λx c e v hx=>vN hx λo ho hd=>by
  have G5:c∉ch:=λz=>(vO c z).2.2.1 x c e rfl;by_cases hc:c∈X.fs
  ·obtain⟨sl,q⟩:=slot c o (I.A_ x c e) hc G5 ho (I.gb x c e);exact⟨_,q,hd⟩
  ·exact⟨o,keep c o (I.A_ x c e) hc G5 ho (I.gb x c e),hd⟩
 refine⟨I.ok,I.os,hg,⟨λb o e n hb hx=>?_,λb o e n hb hx=>?_,λb o e n hx=>?_,λb o e hx=>?_,λb xs e=>tups b xs (I.base.tups b xs e),λb o xs e=>iW b o xs (I.base.iW b o xs e),λb ps e=>?_⟩,?_,λx c e=>?_,?_,λx c e=>?_,λp hp=>?_,hok,I.len⟩
 ·exact keep b o (Wh b o e) hb (Ly b o e hx) (I.base.keep b o e n hb hx) (I.base.free b o e n hx)
 ·obtain⟨sl,e1⟩:=I.base.slot b o e n hb hx;obtain⟨sl',e2⟩:=slot b _ (Wh b o e) hb (Ly b o e hx) e1 (I.base.free b o e n hx);exact⟨sl',e2⟩
 ·obtain⟨o',e1⟩:=I.base.there b o e hx;exact free b o' (Ly b o e hx) e1 (I.base.free b o e n hx)
 ·obtain⟨o',e1⟩:=I.base.there b o e hx;exact there b o' (Ly b o e hx) e1
 ·obtain⟨m1,e1,g1⟩:=I.base.jB b ps e;obtain⟨m2,e2,g2⟩:=jB b _ e1;exact⟨m1++m2,by rw[e2,Array.append_assoc],by rw[Array.toList_append];exact(g1.mono iW).app g2⟩
 ·obtain⟨m,hn,hl⟩:=I.loc;refine⟨m,ns m hn,λi x v e1 e2 e3=>?_⟩;obtain⟨u,r,l⟩:=hl i x v e1 e2 e3;refine⟨u,r,?_⟩;rcases l with l|⟨k,c,e,z⟩
  ·exact .inl l
  ·exact .inr ⟨k,c,e,cellK x c e _ z⟩
 ·obtain⟨v,z⟩:=I.cell x c e;exact⟨v,cellK x c e v z⟩
 ·obtain⟨m,⟨o,_,_,ho,_⟩,_⟩:=I.loc;exact free _ o (λz=>(vO _ z).2.1 rfl) ho I.free
 ·obtain⟨v,o,ho,hd⟩:=I.cell x c e;exact free c o (λz=>(vO c z).2.2.1 x c e rfl) ho (I.gb x c e)
 ·obtain⟨e,n,ne,nf,d⟩:=I.pin p hp;have G5:p.1∉ch:=λz=>(vO p.1 z).2.2.2 p hp rfl;exact⟨keep p.1 p.2 ne nf G5 e n,free p.1 p.2 G5 e n,ne,nf,d⟩
theorem Inv.un{t':Nat}(I:Inv X ao Z H s)(u:Un X.fs [] H H' s.heap h')(hok:iM X.prog X.w H' h'):Inv X ao Z H' {s with heap:=h',toks:=t'}:=by
 obtain⟨m,⟨o,es,ep,ho,r⟩,_⟩:=id I.loc;obtain⟨sl,hL⟩:=u.any ho I.free Zaa;exact I.step (g':=s.gens) (d':=s.drawn) (ch:=[]) (λ_ z=>nomatch z) (λb o _ hb _ e n=>u.keep b o e n hb Zaa) (λb o _ hb _ e n=>u.slot b o e n hb Zaa) (λb o _ e n=>u.free b o e n Zaa) (λb o _ e=>u.there b o e Zaa) u.tups u.iW u.jB (λm' hm=>by
  obtain⟨o',es',ep',pN,r'⟩:=hm;rw[ho] at pN;cases pN;exact⟨_,es',ep',hL,r'⟩) hok I.bare
theorem Inv.call{g':Array GenState}{t':Nat}{d':Drawn}{ch:List Addr}(I:Inv X ao Z H s)(u:Un (frs X.stack) ch H H' s.heap h')(hok:iM X.prog X.w H' h')(hg:AllBare g')
  (vO:∀b∈ch,(b∈X.ex\/X.s₀.heap.get? b=none)/\b≠X.env.locals/\(∀x c,X.env.cells.lookup x=some c->c≠b)/\∀p∈X.pn++ao,p.1≠b) :
  Inv X ao Z H' {s with heap:=h',gens:=g',drawn:=d',toks:=t'}:=by
 obtain⟨m,⟨o,es,ep,ho,r⟩,_⟩:=id I.loc;obtain⟨sl,hL⟩:=u.any ho I.free λz=>(vO _ z).2.1 rfl;exact I.step (ch:=ch) vO (λb o hL hb hc e n=>u.keep b o e n (λz=>(jA.mp (I.jU b z)).elim hL hb) hc) (λb o _ _ hc e n=>u.any e n hc) (λb o hc e n=>u.free b o e n hc) (λb o hc e=>u.there b o e hc) u.tups u.iW u.jB (λm' hm=>by
  obtain⟨o',es',ep',pN,r'⟩:=hm;rw[ho] at pN;cases pN;exact⟨_,es',ep',hL,r'⟩) hok hg
theorem Inv.turned{t':Nat}{it:Addr}(I:Inv X ao Z H s)(k:∀b o,b≠it->s.heap.get? b=some o->h'.get? b=some o)(hn:H it=none)(hL:it≠X.env.locals)
  (h1:it∈X.ex\/X.s₀.heap.objs.size<=it) (h2:∀x c,X.env.cells.lookup x=some c->c≠it) (h3:∀p∈X.pn++ao,p.1≠it):Inv X ao Z H {s with heap:=h',toks:=t'}:=by
 have zj:∀b u,H b=some u->b≠it:=λb u e z=>by rw[z,hn] at e;cases e
 refine I.step (g':=s.gens) (d':=s.drawn) (ch:=[it]) (λb hb=>?_) (λb o _ _ hc e _=>k b o (λz=>hc (by simp[z])) e) (λb o _ _ hc e _=>⟨o.slots,k b o (λz=>hc (by simp[z])) e⟩) (λ_ _ _ _ n=>n)
  (λb o hc e=>⟨o,k b o (λz=>hc (by simp[z])) e⟩) (λ_ _ e=>e) (λ_ _ _ e=>e) (λb ps e=>⟨#[],by rw[e];simp,.nil⟩) (λm hm=>?_) (λb u e=>?_) I.bare
 ·have e:b=it:=by simpa using hb
  subst e;exact⟨h1.imp id λz=>Du z,hL,h2,h3⟩
 ·obtain⟨o,es,ep,ho,r⟩:=hm;exact⟨o,es,ep,k _ o (Ne.symm hL) ho,r⟩
 ·refine(I.hok b u e).stay (λc v hc q=>k c v ?_ q) (λ_ q=>q) λ_ _ q=>q;rcases hc with z|z
  ·rw[z];exact zj b u e
  ·exact zj c _ z
theorem Inv.tok(I:Inv X ao Z H s)(t:Nat):Inv X ao Z H {s with toks:=t}:=I.un (h':=s.heap) (t':=t) Un.refl I.hok
theorem Inv.kept{t':Nat}(I:Inv X ao Z H s)(k:∀b u,s.heap.get? b=some u->h'.get? b=some u):Inv X ao Z H {s with heap:=h',toks:=t'}:=I.un (Un.kept k) (I.hok.kept k)
theorem Inv.laid{a:Addr}{o:HO}{t':Nat}(I:Inv X ao Z H s)(k:∀b u,s.heap.get? b=some u->h'.get? b=some u)(hp:s.heap.objs.size<=a)(new:bI X.prog X.w (upd H a o) h' a o) :
  Inv X ao Z (upd H a o) {s with heap:=h',toks:=t'}:=I.un (Un.laid k hp (I.hok.fresh hp)) (I.hok.laid k hp new)
theorem Inv.write{x e:Addr}{o:HO}{t':Nat}(I:Inv X ao Z H s)(mu:G3 (H x))(he:e=x\/H e=some (.own x))(k:∀b u,b≠e->s.heap.get? b=some u->h'.get? b=some u)(Em:∃u,h'.get? e=some u)
  (new:bI X.prog X.w (upd H x o) h' x o):Inv X ao Z (upd H x o) {s with heap:=h',toks:=t'}:=I.un (Un.write mu he k Em) (I.hok.write mu he k Em new)
theorem Inv.jM{jm:List (Addr×Obj)}(I:Inv X ao Z H s)(h:∀p∈jm,s.heap.get? p.1=some p.2/\H p.1=none/\p.1≠X.env.locals/\p.1∉X.fs/\∀v,p.2.data≠.cell v):Inv X jm Z H s:=
 ⟨I.ok,I.os,I.bare,I.base,I.loc,I.cell,I.free,I.gb,λp hp=>(nG.mp hp).elim (λz=>I.pin p (Gh _ z)) (h p),I.hok,I.len⟩
theorem Wi{N:List Str}(hN:N.Nodup){i j:Nat}{x:Str}(a:N[i]?=some x)(b:N[j]?=some x):i=j:=by
 obtain⟨h1,e1⟩:=fX.mp a;obtain⟨h2,e2⟩:=fX.mp b;exact(List.getElem_inj hN).mp (e1.trans e2.symm)
theorem PK{M:Model}{A:Around}{E:Value->Shared->Prop}{i:Nat}{x:Str}{v:V}{u:Value}{Q:Unit->Shared->Prop}(I:Inv X ao Z H s)(hN:X.N.Nodup)(hi:X.N[i]?=some x)(hx:Loc X.env.scope x)(r:RelV v u)
  (h:∀s',Inv X ao (Z.set i (some v)) H s'->(∃a,Heap.SameBut a s.heap s'.heap/\(a=X.env.locals\/X.env.cells.lookup x=some a))->Q () s') (hf:X.fn x=true\/X.env.scope.names.lookup x=some .local:=by first|exact .inl rfl|exact .inr rfl|assumption):wpAny M A (storeName X.env x u) Q E s:=by
 obtain⟨m,hn,hl⟩:=id I.loc;have PL:(X.env.scope.kind==.class||(X.env.scope.kind==.module&&X.env.locals != X.env.globals))=false:=by rw[I.ok.kind];rfl
 have Wj:i<Z.length:=by rw[I.len];exact(fX.mp hi).1
 have A_:=I.A_;have tracked:∀{a:Addr} {h':Heap},(∃o,s.heap.get? a=some o/\H a=none)->Heap.SameBut a s.heap h'->iM X.prog X.w H h':=λ{a h'} ha hs b ob e=>by
  obtain⟨_,_,qN⟩:=ha;refine(I.hok b ob e).stay (λc w' hc q=>(hs.2 c ?_).trans q) (λ_ q=>q) λ_ _ q=>q;rintro rfl;rcases hc with rfl|hc
  ·rw[qN] at e;cases e
  ·rw[qN] at hc;cases hc
 rcases hx with hk|hk
 ·refine wpAny_storeName_local hk hn (λh' Lz hs=>?_) PL;obtain⟨oL,_,_,Bb,_⟩:=id hn;refine h _ ⟨I.ok,I.os,I.bare,⟨λb o e n hb hx=>?_,λb o e n hb hx=>?_,I.base.free,λb o e hx=>?_,I.base.tups,I.base.iW,I.base.jB⟩,⟨_,Lz,λj y v' e1 e2 e3=>?_⟩,λy c e=>?_,I.free,I.gb,λp hp=>?_,tracked ⟨oL,Bb,I.free⟩ hs,by simpa using I.len⟩ ⟨_,hs,.inl rfl⟩
  ·exact(hs.2 b (cY (fZ (bQ e) I.ok.above))).trans (I.base.keep b o e n hb hx)
  ·obtain⟨sl,e1⟩:=I.base.slot b o e n hb hx;exact⟨sl,(hs.2 b (cY (fZ (bQ e) I.ok.above))).trans e1⟩
  ·obtain⟨o',e1⟩:=I.base.there b o e hx;exact⟨o',(hs.2 b (cY (fZ (bQ e) I.ok.above))).trans e1⟩
  ·by_cases hj:j=i
   ·subst hj;rw[hi] at e1;cases e1;rw[yL Wj] at e2;cases e2;exact⟨u,r,.inl ⟨hk,by simp⟩⟩
   ·rw[qH (Ne.symm hj)] at e2;obtain⟨u',r',q⟩:=hl j y v' e1 e2 e3;refine⟨u',r',?_⟩;rcases q with ⟨k,e⟩|⟨k,c,e,z⟩
    ·refine .inl ⟨k,?_⟩;have:y≠x:=λe=>hj (Wi hN e1 (e▸hi));simp[this,e]
    ·exact .inr ⟨k,c,e,z.sameBut hs (A_ y c e)⟩
  ·obtain⟨w',z⟩:=I.cell y c e;exact⟨w',z.sameBut hs (A_ y c e)⟩
  ·obtain⟨e,n,ne,nf,d⟩:=I.pin p hp;exact⟨(hs.2 p.1 ne).trans e,n,ne,nf,d⟩
 ·have PN:X.fn x=true:=by
   rcases hf with z|z
   ·exact z
   ·rw[z] at hk;cases hk
  obtain⟨c,hc⟩:=I.ok.has x (.inl hk);obtain⟨w',z⟩:=I.cell x c hc;refine wpAny_storeName_cell I.ok.kind hk hc z (λh' lE hs=>?_);obtain⟨oc,G6,PX⟩:=id z;refine h {s with heap:=h'} ⟨I.ok,I.os,I.bare,⟨λb o e n hb hx=>?_,λb o e n hb hx=>?_,I.base.free,λb o e hx=>?_,I.base.tups,I.base.iW,I.base.jB⟩,⟨m,hn.sameBut hs (Ne.symm (A_ x c hc)),λj y v' e1 e2 e3=>?_⟩,λy c' e=>?_,I.free,I.gb,λp hp=>?_,tracked ⟨oc,G6,I.gb x c hc⟩ hs,by simpa using I.len⟩ ⟨c,hs,.inr hc⟩
  ·exact(hs.2 b (cY (fZ (bQ e) (I.ok.cab x c PN hc)))).trans (I.base.keep b o e n hb hx)
  ·obtain⟨sl,e1⟩:=I.base.slot b o e n hb hx;exact⟨sl,(hs.2 b (cY (fZ (bQ e) (I.ok.cab x c PN hc)))).trans e1⟩
  ·obtain⟨o',e1⟩:=I.base.there b o e hx;exact⟨o',(hs.2 b (cY (fZ (bQ e) (I.ok.cab x c PN hc)))).trans e1⟩
  ·by_cases hj:j=i
   ·subst hj;rw[hi] at e1;cases e1;rw[yL Wj] at e2;cases e2;exact⟨u,r,.inr ⟨.inl hk,c,hc,lE⟩⟩
   ·rw[qH (Ne.symm hj)] at e2;obtain⟨u',r',q⟩:=hl j y v' e1 e2 e3;refine⟨u',r',?_⟩;rcases q with q|⟨k,c',e,z'⟩
    ·exact .inl q
    ·refine .inr ⟨k,c',e,z'.sameBut hs ?_⟩;rintro rfl;exact hj (Wi hN e1 (I.ok.inj _ _ _ e hc▸hi))
  ·by_cases Wm:c'=c
   ·subst Wm;exact⟨_,lE⟩
   ·obtain⟨w2,z2⟩:=I.cell y c' e;exact⟨w2,z2.sameBut hs Wm⟩
  ·obtain⟨e,n,ne,nf,d⟩:=I.pin p hp;refine⟨(hs.2 p.1 ?_).trans e,n,ne,nf,d⟩;intro q;rw[q,G6] at e;have q':oc=p.2:=cO e;exact d w' (by rw[<-q'];exact PX)
theorem G7{M:Model}{A:Around}{E:Value->Shared->Prop}{i:Nat}{x:Str}{v:V}{u:Value}{Q:Unit->Shared->Prop}(I:Inv X ao Z H s)(hN:X.N.Nodup)(hi:X.N[i]?=some x)(hx:Loc X.env.scope x)(r:RelV v u)
  (h:∀s',Inv X ao (Z.set i (some v)) H s'->Q () s') (hf:X.fn x=true\/X.env.scope.names.lookup x=some .local:=by first|exact .inl rfl|exact .inr rfl|assumption):wpAny M A (storeName X.env x u) Q E s:=
 PK I hN hi hx r (λs' I' _=>h s' I') hf
theorem Inv.call'{s':Shared}{ch:List Addr}(I:Inv X ao Z H s)(ho:s'.os=s.os)(u:Un (frs X.stack) ch H H' s.heap s'.heap)(hok:iM X.prog X.w H' s'.heap)(hg:AllBare s'.gens)
  (vO:∀b∈ch,(b∈X.ex\/X.s₀.heap.get? b=none)/\b≠X.env.locals/\(∀x c,X.env.cells.lookup x=some c->c≠b)/\∀p∈X.pn++ao,p.1≠b):Inv X ao Z H' s':=by
 obtain⟨h',g',d',t',o'⟩:=s';have e:o'=s.os:=ho;subst e;exact I.call (g':=g') (t':=t') (d':=d') u hok hg vO
end
noncomputable abbrev XK:=Value->Option Addr->Hp->Prop
noncomputable abbrev St:=List (Option V)
noncomputable abbrev VK:=V->Hp->Prop
noncomputable abbrev TE:=St->Hp->VK->Prop
noncomputable abbrev TT:=St->Hp->(Bool->Hp->Prop)->Prop
noncomputable abbrev TA:=St->Hp->(List V->Hp->Prop)->Prop
structure Ends where
 nx:St->Hp->Prop
 rt:VK
 bk:St->Hp->Prop:=λ_ _=>False
 ct:St->Hp->Prop:=λ_ _=>False
noncomputable abbrev TS:=Ends->St->Hp->Prop
def EP(X:Cx)(ao:List (Addr×Obj))(Z:St)(Q:VK)(u:Value)(s':Shared):Prop:=∃v H',Inv X ao Z H' s'/\RelV v u/\Q v H'
def TP(X:Cx)(ao:List (Addr×Obj))(Z:St)(Q:Bool->Hp->Prop)(b:Bool)(s':Shared):Prop:=∃H',Inv X ao Z H' s'/\Q b H'
def AP(X:Cx)(ao:List (Addr×Obj))(Z:St)(Q:List V->Hp->Prop)(us:List Value)(s':Shared):Prop:=∃vs H',Inv X ao Z H' s'/\Vals vs us/\Q vs H'
def SP(X:Cx)(ao:List (Addr×Obj))(D:Ends)(f:Flow)(s':Shared):Prop:=
 match f with
 |.next=>∃Z' H',Inv X ao Z' H' s'/\D.nx Z' H'
 |.brk=>∃Z' H',Inv X ao Z' H' s'/\D.bk Z' H'
 |.cont=>∃Z' H',Inv X ao Z' H' s'/\D.ct Z' H'
 |.ret u=>∃v Z' H',Inv X ao Z' H' s'/\RelV v u/\D.rt v H'
def PE(X:Cx)(e:Expr)(t:TE):Prop:=
 ∀(ao:List (Addr×Obj)) (s:Shared) (Z:St) (H:Hp) (Q:VK),Inv X ao Z H s->t Z H Q->wpAny (model X.prog X.w) X.A (eval e X.env) (EP X ao Z Q) X.xe s
def PT(X:Cx)(e:Expr)(t:TT):Prop:=
 ∀(ao:List (Addr×Obj)) (s:Shared) (Z:St) (H:Hp) (Q:Bool->Hp->Prop),Inv X ao Z H s->t Z H Q->wpAny (model X.prog X.w) X.A (isTrue e X.env (eval e X.env)) (TP X ao Z Q) X.xe s
def PW(X:Cx)(e:Expr)(t:TT):Prop:=
 ∀(whole:Sem Value) (ao:List (Addr×Obj)) (s:Shared) (Z:St) (H:Hp) (Q:Bool->Hp->Prop),Inv X ao Z H s->t Z H Q->wpAny (model X.prog X.w) X.A (isTrue e X.env whole) (TP X ao Z Q) X.xe s
theorem Kad{X:Cx}{e:Expr}{t:TT}(h:PW X e t):PT X e t:=h _
def PA(X:Cx)(es:List Expr)(t:TA):Prop:=
 ∀(pos:Pos) (ao:List (Addr×Obj)) (s:Shared) (Z:St) (H:Hp) (Q:List V->Hp->Prop),Inv X ao Z H s->t Z H Q->wpAny (model X.prog X.w) X.A (spliced (backTo pos (starEach es X.env))) (AP X ao Z Q) X.xe s
def PS(X:Cx)(st:Stmt)(t:TS):Prop:=
 ∀(ao:List (Addr×Obj)) (s:Shared) (Z:St) (H:Hp) (D:Ends),Inv X ao Z H s->t D Z H->wpAny (model X.prog X.w) X.A (exec st X.env) (SP X ao D) X.xe s
def pO(X:Cx)(st:List Stmt)(t:TS):Prop:=
 ∀(ao:List (Addr×Obj)) (s:Shared) (Z:St) (H:Hp) (D:Ends),Inv X ao Z H s->t D Z H->wpAny (model X.prog X.w) X.A (execs st X.env) (SP X ao D) X.xe s
theorem aQ{α:Type}{t:Sem α}{Q Q':α->Shared->Prop}{M:Model}{A:Around}{E:Value->Shared->Prop}{s:Shared}(h:wpAny M A t Q E s)(hQ:∀a s,Q a s->Q' a s):wpAny M A t Q' E s:=f9 h hQ λ_ _ x=>x
section
variable {X:Cx}
noncomputable def P0(i:Nat):TE:=λZ H Q=>∃v,Z[i]?=some (some v)/\Q v H
noncomputable def tC(v:V):TE:=λ_ H Q=>Q v H
theorem Wn{i:Nat}{x:Str}{pos:Pos}(hN:X.N[i]?=some x)(hv:Lx X.env.scope x)(hd:(x==("__debug__" : Str))=false:=by decide)(iC:(x==("__classdict__" : Str))=false:=by decide):PE X (.Name x pos) (P0 i):=by
 intro ao s Z H Q I h;obtain⟨v,e,h⟩:=h;obtain⟨m,hn,hl⟩:=I.loc;obtain⟨u,r,l⟩:=hl i x v hN e hv;have fin:EP X ao Z Q u s:=⟨v,H,I,r,h⟩;rcases l with ⟨hk,hm⟩|⟨hk,c,hc,qO⟩
 ·exact wpAny_Name (wpAny_loadName_local I.ok.kind hk hn hm fin) hd
 ·rcases hk with hk|hk
  ·exact wpAny_Name (wpAny_loadName_cell I.ok.kind hk hc qO fin) hd
  ·exact wpAny_Name (wpAny_loadName_free I.ok.kind hk hc qO fin iC) hd
theorem zlc{i j pos}:PE X (.Constant (.int i) j pos) (tC (.int i)):=λ_ _ _ H _ I h=>wpAny_Constant_int ⟨.int i,H,I.tok _,⟨_,rfl⟩,h⟩
theorem zm1{b j pos}:PE X (.Constant (.bool b) j pos) (tC (.bl b)):=λ_ _ _ H _ I h=>Constant_bool ⟨.bl b,H,I,rfl,h⟩
theorem zmf{j pos}:PE X (.Constant .none j pos) (tC .non):=λ_ _ _ H _ I h=>Constant_none ⟨.non,H,I,rfl,h⟩
def Gl(X:Cx)(x:Str):Prop:=X.env.kindOf x=some .globalImplicit
theorem P_{E:Value->Shared->Prop}{ao:List (Addr×Obj)}{s:Shared}{Z:St}{H:Hp}{x:Str}{u:Value}{pos:Pos}{Q:Value->Shared->Prop}(I:Inv X ao Z H s)(hg:Gl X x)(hm:X.mg x=some u)(h:Q u s)
  (hd:(x==("__debug__" : Str))=false:=by decide):wpAny (model X.prog X.w) X.A (eval (.Name x pos) X.env) Q E s:=
 Calls.Name_function_global I.ok.kind hg (Calls.loadGlobal_global (by rw[I.ok.glob];exact I.mod.glob.keeps I.bk) hm h) hd
theorem vP{E:Value->Shared->Prop}{ao:List (Addr×Obj)}{s:Shared}{Z:St}{H:Hp}{x:Str}{u:Value}{pos:Pos}{Q:Value->Shared->Prop}(I:Inv X ao Z H s)(hg:Gl X x)(hm:X.mg x=none)(hv:bootBuiltins x=some u)(h:Q u s)
  (hn:x≠"__name__":=by decide) (hd:(x==("__debug__" : Str))=false:=by decide):wpAny (model X.prog X.w) X.A (eval (.Name x pos) X.env) Q E s:=by
 obtain⟨mb,h1,h2⟩:=I.mod.blt;exact Calls.Name_function_global I.ok.kind hg (Calls.loadGlobal_builtin (by rw[I.ok.glob];exact I.mod.glob.keeps I.bk) hm (by rw[I.ok.blt];exact h1.keeps I.bk) ((h2 x hn).trans hv) h) hd
theorem zj4{x:Str}{v:V}{u:Value}{pos:Pos}(hg:Gl X x)(hm:X.mg x=some u)(r:RelV v u)(hd:(x==("__debug__" : Str))=false:=by decide):PE X (.Name x pos) (tC v):=
 λ_ _ _ H _ I h=>P_ I hg hm ⟨v,H,I,r,h⟩ hd
variable {a b:Expr}{ta tb:TE}{pos:Pos}
def PC(X:Cx)(op:CmpOp)(a b:Expr)(t:TE):Prop:=
 ∀(ao:List (Addr×Obj)) (s:Shared) (Z:St) (H:Hp) (Q:VK),Inv X ao Z H s->t Z H Q->
  wpAny (model X.prog X.w) X.A (eval a X.env) (λv s₁=>wpAny (model X.prog X.w) X.A (eval b X.env) (λu s₂=>wpAny (model X.prog X.w) X.A (compareOp op v u) (EP X ao Z Q) X.xe s₂) X.xe s₁) X.xe s
theorem n6(b:Expr){op:CmpOp}(h:op≠.In)(h2:op≠.NotIn):behindInMarks op b=false:=by
 have e1:(op==CmpOp.In)=false:=by cases op<;>first|rfl|exact absurd rfl h
 have e2:(op==CmpOp.NotIn)=false:=by cases op<;>first|rfl|exact absurd rfl h2
 cases b<;>simp[behindInMarks,e1,e2]
noncomputable def Qa(ta:TE):TE:=λZ H Q=>ta Z H λx H1=>Q (.bl (decide (x=.non))) H1
noncomputable def G8(ta:TE):TE:=λZ H Q=>ta Z H λx H1=>Q (.bl (!decide (x=.non))) H1
theorem RelV.n8{x:V}{v:Value}(r:RelV x v):(v==Value.none)=decide (x=.non):=by
 cases x with
 |non=>cases r;rfl
 |bl _=>cases r;rfl
 |int _=>obtain⟨t,rfl⟩:=r;rfl
 |str _=>obtain⟨t,rfl⟩:=r;rfl
 |Aw _=>obtain⟨t,rfl⟩:=r;rfl
 |flt _=>obtain⟨t,rfl⟩:=r;rfl
 |ref _=>cases r;rfl
 |ty _=>cases r;rfl
theorem Wo{j pos'}(ha:PE X a ta):PC X .Is a (.Constant .none j pos') (Qa ta):=by
 intro ao s Z H Q I h;refine aQ (ha ao s Z H _ I h) λv s1 hx=>eE hx λx H1 I1 r1 q1=>?_;exact Constant_none (is_none_gen ⟨.bl _,H1,I1,by rw[r1.n8];rfl,q1⟩)
theorem Wq{j pos'}(ha:PE X a ta):PC X .IsNot a (.Constant .none j pos') (G8 ta):=by
 intro ao s Z H Q I h;refine aQ (ha ao s Z H _ I h) λv s1 hx=>eE hx λx H1 I1 r1 q1=>?_;exact Constant_none (isnot_none_gen ⟨.bl _,H1,I1,by rw[r1.n8];rfl,q1⟩)
noncomputable def tB(t:TE):TT:=λZ H Q=>t Z H λx H1=>∃c,x=.bl c/\Q c H1
theorem Wr{op:CmpOp}{t:TE}(h:PC X op a b t)(h1:behindInMarks op b=false:=by first|exact n6 _ Ro Ro|rfl):PE X (.Compare a [op] [b] pos) t:=λao s Z H Q I hw=>wpAny_Compare1 (h ao s Z H Q I hw) h1
theorem LC{op:CmpOp}{t:TE}(h:PC X op a b t)(h1:behindInMarks op b=false:=by first|exact n6 _ Ro Ro|rfl):PT X (.Compare a [op] [b] pos) (tB t):=by
 intro ao s Z H Q I hw;refine wpAny_isTrue_Compare1 (aQ (h ao s Z H _ I hw) λv s1 h1=>aQ h1 λu s2 h2=>aQ h2 λc s3 hx=>eE hx λx H1 I1 r1 q1=>?_) h1;obtain⟨d,rfl,q⟩:=q1;cases r1;exact vI ⟨H1,I1,q⟩
theorem zlH{e:Expr}{t:TE}(h:PE X e t)(he:∀whole,isTrue e X.env whole=(do let v <-whole;standAt e.pos;holding [v] (truthy v)):=by intro _;rfl):PT X e (tB t):=by
 intro ao s Z H Q I hw;refine isTrue_plain (aQ (h ao s Z H _ I hw) λv s1 hx=>eE hx λx H1 I1 r1 q1=>?_) (he _);obtain⟨d,rfl,q⟩:=q1;cases r1;exact vI ⟨H1,I1,q⟩
variable {tA LQ:TT}{rest:List Expr}
noncomputable def Qc(t u:TT):TT:=λZ H Q=>t Z H λc H1=>if c=true then u Z H1 Q else Q false H1
noncomputable def tOr(t u:TT):TT:=λZ H Q=>t Z H λc H1=>if c=true then Q true H1 else u Z H1 Q
noncomputable def Qd(t:TT):TT:=λZ H Q=>t Z H λc H1=>Q (!c) H1
theorem zjg(ha:PT X a tA):PW X (.BoolOp .And [a] pos) tA:=by
 intro wh ao s Z H Q I h;refine isTrue_and (aQ (ha ao s Z H Q I h) λc s1 e=>?_);cases c with
 |true=>exact isTrue_and_nil e
 |false=>exact e
theorem zlo(ha:PT X a tA):PW X (.BoolOp .Or [a] pos) tA:=by
 intro wh ao s Z H Q I h;refine isTrue_or (aQ (ha ao s Z H Q I h) λc s1 e=>?_);cases c with
 |false=>exact isTrue_or_nil e
 |true=>exact e
theorem zk2(ha:PT X a tA)(hb:PW X (.BoolOp .And (b::rest) pos) LQ):PW X (.BoolOp .And (a::b::rest) pos) (Qc tA LQ):=by
 intro wh ao s Z H Q I h;refine isTrue_and (aQ (ha ao s Z H _ I h) λc s1 hx=>vN hx λH1 I1 q1=>?_);cases c with
 |true=>exact hb wh ao s1 Z H1 Q I1 q1
 |false=>exact⟨H1,I1,q1⟩
theorem zm4(ha:PT X a tA)(hb:PW X (.BoolOp .Or (b::rest) pos) LQ):PW X (.BoolOp .Or (a::b::rest) pos) (tOr tA LQ):=by
 intro wh ao s Z H Q I h;refine isTrue_or (aQ (ha ao s Z H _ I h) λc s1 hx=>vN hx λH1 I1 q1=>?_);cases c with
 |true=>exact⟨H1,I1,q1⟩
 |false=>exact hb wh ao s1 Z H1 Q I1 q1
theorem zkS(ha:PT X a tA):PT X (.UnaryOp .Not a pos) (Qd tA):=by
 intro ao s Z H Q I h;exact isTrue_not (ha ao s Z H (λc H1=>Q (!c) H1) I h)
noncomputable def G9(ta tb:TE):TE:=λZ H Q=>ta Z H λx H1=>∃c,x=.bl c/\if c=true then tb Z H1 Q else Q (.bl false) H1
noncomputable def Qe(ta tb:TE):TE:=λZ H Q=>ta Z H λx H1=>∃c,x=.bl c/\if c=true then Q (.bl true) H1 else tb Z H1 Q
noncomputable def G_(ta:TE):TE:=λZ H Q=>ta Z H λx H1=>∃c,x=.bl c/\Q (.bl (!c)) H1
theorem zlQ{op}{t:TE}(h:PE X a t):PE X (.BoolOp op [a] pos) t:=λao s Z H Q I hw=>BoolOp_one (h ao s Z H Q I hw)
theorem zkz(ha:PE X a ta)(hb:PE X (.BoolOp .And (b::rest) pos) tb):PE X (.BoolOp .And (a::b::rest) pos) (G9 ta tb):=by
 intro ao s Z H Q I h;refine BoolOp_and (aQ (ha ao s Z H _ I h) λv s1 hx=>eE hx λx H1 I1 r1 q1=>?_);obtain⟨c,rfl,q1⟩:=q1;cases r1;refine vI ?_;cases c with
 |true=>exact hb ao s1 Z H1 Q I1 q1
 |false=>exact⟨.bl false,H1,I1,rfl,q1⟩
theorem znF(ha:PE X a ta)(hb:PE X (.BoolOp .Or (b::rest) pos) tb):PE X (.BoolOp .Or (a::b::rest) pos) (Qe ta tb):=by
 intro ao s Z H Q I h;refine BoolOp_or (aQ (ha ao s Z H _ I h) λv s1 hx=>eE hx λx H1 I1 r1 q1=>?_);obtain⟨c,rfl,q1⟩:=q1;cases r1;refine vI ?_;cases c with
 |false=>exact hb ao s1 Z H1 Q I1 q1
 |true=>exact⟨.bl true,H1,I1,rfl,q1⟩
theorem zlP(ha:PE X a ta):PE X (.UnaryOp .Not a pos) (G_ ta):=by
 intro ao s Z H Q I h;refine UnaryOp_ (aQ (ha ao s Z H _ I h) λv s1 hx=>eE hx λx H1 I1 r1 q1=>?_);obtain⟨c,rfl,q1⟩:=q1;cases r1;exact not_of (vI ⟨.bl (!c),H1,I1,rfl,q1⟩)
noncomputable def tIf(t:TT)(ta tb:TE):TE:=λZ H Q=>t Z H λc H1=>if c=true then ta Z H1 Q else tb Z H1 Q
theorem zhi{c:Expr}(hc:PT X c tA)(ha:PE X a ta)(hb:PE X b tb):PE X (.IfExp c a b pos) (tIf tA ta tb):=by
 intro ao s Z H Q I h;refine wpAny_IfExp (aQ (hc ao s Z H _ I h) λd s1 hx=>vN hx λH1 I1 q1=>?_);cases d with
 |true=>exact ha ao s1 Z H1 Q I1 q1
 |false=>exact hb ao s1 Z H1 Q I1 q1
end
def cR(K:W.Frag)(H:Hp)(a:Addr)(xs:List V):Prop:=
 Rd H a (.lst xs) \/
  ∃(o:Obj) (its:Array Value) (n:Nat),K.lookup a=some o/\o.cls=.type "list"/\o.dict=none/\o.data=.seq its n/\its.size<=sizeLine/\Vals xs its.toList
def gK(K:W.Frag)(H:Hp)(a:Addr)(xs:List V):Prop:=
 Rd H a (.tup xs) \/
  ∃(o:Obj) (its:Array Value) (n:Nat),K.lookup a=some o/\o.cls=.type "tuple"/\o.data=.seq its n/\its.size<=sizeLine/\Vals xs its.toList
noncomputable def Qf:Value->Option V
 |.none=>some .non
 |.bool b=>some (.bl b)
 |.int i _=>some (.int i)
 |.str x _=>some (.str x)
 |.bytes b _=>some (.Aw b)
 |.float b _=>some (.flt b)
 |.ref a=>some (.ref a)
 |.type n=>some (.ty n)
 |_=>none
theorem RelV.abs{x:V}{u:Value}(r:RelV x u):Qf u=some x:=by
 cases x with
 |non=>cases r;rfl
 |bl _=>cases r;rfl
 |int _=>obtain⟨t,rfl⟩:=r;rfl
 |str _=>obtain⟨t,rfl⟩:=r;rfl
 |Aw _=>obtain⟨t,rfl⟩:=r;rfl
 |flt _=>obtain⟨t,rfl⟩:=r;rfl
 |ref _=>cases r;rfl
 |ty _=>cases r;rfl
theorem RelV.inj{x y:V}{u:Value}(r:RelV x u)(q:RelV y u):x=y:=cO (r.abs.symm.trans q.abs)
theorem Vals.inj{xs ys:List V}{us:List Value}(h:Vals xs us)(h':Vals ys us):xs=ys:=by
 induction h generalizing ys with
 |nil=>cases h';rfl
 |cons r _ ih=>
  cases h' with
  |cons r' t'=>rw[r.inj r',ih t']
section
variable {X:Cx}{ao:List (Addr×Obj)}{Z:St}{H:Hp}{s:Shared}{a:Addr}{xs ys:List V}
theorem cR.of{K:W.Frag}(h:H a=some (.lst xs)):cR K H a xs:=.inl (.inl h)
theorem Inv.list(I:Inv X ao Z H s)(h:cR X.K H a xs):∃its:List Value,Vals xs its/\PlainL s.heap a its.toArray/\xs.length<=sizeLine:=by
 rcases h with h|⟨o,its,n,hk,hc,hd,hs,hz,r⟩
 ·obtain⟨z,its,n,r,e⟩:=h.ok I.hok;exact⟨its,r,⟨_,n,e,rfl,rfl,rfl⟩,z⟩
 ·refine⟨its.toList,r,⟨o,n,I.lO a o hk,hc,hd,by simpa using hs⟩,?_⟩;have e:=r.length;simp only[pG] at e
  lia
theorem Inv.tuple(I:Inv X ao Z H s)(h:gK X.K H a xs):∃its:List Value,Vals xs its/\IsTup s.heap a its.toArray/\xs.length<=sizeLine:=by
 rcases h with h|⟨o,its,n,hk,hc,hs,hz,r⟩
 ·obtain⟨z,its,r,p⟩:=h.ok I.hok;exact⟨its,r,p,z⟩
 ·refine⟨its.toList,r,⟨o,I.lO a o hk,hc,n,by simpa using hs⟩,?_⟩;have e:=r.length;simp only[pG] at e
  lia
theorem Inv.n_(I:Inv X ao Z H s)(h:cR X.K H a xs)(h':cR X.K H a ys):xs=ys:=by
 obtain⟨its,r,⟨o,n,e,_,_,d⟩,_⟩:=I.list h;obtain⟨its',r',⟨o',n',e',_,_,d'⟩,_⟩:=I.list h';rw[e] at e';cases e';rw[d] at d';injection d' with d1 _;have:its=its':=by simpa using lq Array.toList d1
 subst this;exact r.inj r'
theorem Inv.lQ(I:Inv X ao Z H s)(h:gK X.K H a xs)(h':gK X.K H a ys):xs=ys:=by
 obtain⟨its,r,⟨o,e,_,n,d⟩,_⟩:=I.tuple h;obtain⟨its',r',⟨o',e',_,n',d'⟩,_⟩:=I.tuple h';rw[e] at e';cases e';rw[d] at d';injection d' with d1 _;have:its=its':=by simpa using lq Array.toList d1
 subst this;exact r.inj r'
end
section
variable {X:Cx}{st:Stmt}{rest:List Stmt}{t u:TS}{e:Expr}{te:TE}{pos:Pos}
noncomputable def Hg:TS:=λD Z H=>D.nx Z H
noncomputable def Qg(t u:TS):TS:=λD Z H=>t {D with nx:=u D} Z H
theorem Ws:pO X [] Hg:=λ_ _ Z H _ I h=>wpAny_execs_nil ⟨Z,H,I,h⟩
theorem Wt(h1:PS X st t)(h2:pO X rest u):pO X (st::rest) (Qg t u):=by
 intro ao s Z H D I h;refine wpAny_execs_cons (aQ (h1 ao s Z H {D with nx:=u D} I h) λf s1 q=>?_);cases f with
 |next=>
  obtain⟨Z',H',I',q⟩:=q;exact h2 ao s1 Z' H' D I' q
 |ret v=>exact q
 |brk=>exact q
 |cont=>exact q
theorem Inv.quiet{ao:List (Addr×Obj)}{Z:St}{H:Hp}{s:Shared}(I:Inv X ao Z H s):interactive X.env=false:=by simp[interactive,I.ok.kind]
noncomputable def Hj(te:TE):TS:=λD Z H=>te Z H λ_ H1=>D.nx Z H1
theorem zjP(he:PE X e te)(hs:swapsWith e none pos.line X.env=pure false:=by rfl):PS X (.Expr e pos) (Hj te):=by
 intro ao s Z H D I h;exact wpAny_Expr_any (aQ (he ao s Z H _ I h) λv s1 hx=>eE hx λx H1 I1 r1 q1=>⟨Z,H1,I1,q1⟩) I.quiet hs
noncomputable def Qh(te:TE):TS:=λD Z H=>te Z H D.rt
theorem zlR(he:PE X e te):PS X (.Return (some e) pos) (Qh te):=by
 intro ao s Z H D I h;exact wpAny_Return_some (aQ (he ao s Z H _ I h) λv s1 hx=>eE hx λx H1 I1 r1 q1=>⟨x,Z,H1,I1,r1,q1⟩)
noncomputable def Qi(c:TT)(t u:TS):TS:=λD Z H=>c Z H λb H1=>if b=true then t D Z H1 else u D Z H1
theorem zm7{c:Expr}{a b:List Stmt}{tc:TT}(hc:PT X c tc)(ha:pO X a t)(hb:pO X b u):PS X (.If c a b pos) (Qi tc t u):=by
 intro ao s Z H D I h;refine wpAny_If (aQ (hc ao s Z H _ I h) λd s1 hx=>vN hx λH1 I1 q1=>?_);cases d with
 |true=>exact ha ao s1 Z H1 D I1 q1
 |false=>exact hb ao s1 Z H1 D I1 q1
end
noncomputable abbrev TG:=V->St->Hp->(St->Hp->Prop)->Prop
noncomputable abbrev Bc:=List V->St->Hp->(St->Hp->Prop)->Prop
def PG(X:Cx)(target:Expr)(t:TG):Prop:=
 ∀(ao:List (Addr×Obj)) (s:Shared) (Z:St) (H:Hp) (v:V) (u:Value) (Q:St->Hp->Prop),Inv X ao Z H s->RelV v u->t v Z H Q->
  wpAny (model X.prog X.w) X.A (assign target X.env u) (λ_ s'=>∃Z' H',Inv X ao Z' H' s'/\Q Z' H') X.xe s
def LR(X:Cx)(ts:List Expr)(t:Bc):Prop:=
 ∀(ao:List (Addr×Obj)) (s:Shared) (Z:St) (H:Hp) (vs:List V) (us:List Value) (Q:St->Hp->Prop),Inv X ao Z H s->Vals vs us->t vs Z H Q->
  wpAny (model X.prog X.w) X.A (assignInOrder ((assignEach ts X.env).map (·.2)) us) (λ_ s'=>∃Z' H',Inv X ao Z' H' s'/\Q Z' H') X.xe s
noncomputable abbrev Bf:=V->V->V->Hp->(Hp->Prop)->Prop
def Hl(X:Cx)(t:Bf):Prop:=
 ∀(ao:List (Addr×Obj)) (s:Shared) (Z:St) (H:Hp) (o i v:V) (ov iv u:Value) (Q:Hp->Prop),Inv X ao Z H s->RelV o ov->RelV i iv->RelV v u->t o i v H Q->
  wpAny (model X.prog X.w) X.A (setItem ov iv u) (λ_ s'=>∃H',Inv X ao Z H' s'/\Q H') X.xe s
noncomputable abbrev L_:=V->V->Hp->VK->Prop
def Wu(X:Cx)(op:Operator)(t:L_):Prop:=
 ∀(ao:List (Addr×Obj)) (s:Shared) (Z:St) (H:Hp) (x y:V) (v u:Value) (Q:VK),Inv X ao Z H s->RelV x v->RelV y u->t x y H Q->
  wpAny (model X.prog X.w) X.A (inplaceOp op v u) (EP X ao Z Q) X.xe s
section
variable {X:Cx}{pos:Pos}
noncomputable def dN(i:Nat):TG:=λv Z H Q=>Q (Z.set i (some v)) H
theorem Ma{i:Nat}{x:Str}(hN:X.N.Nodup)(hi:X.N[i]?=some x)(hx:Loc X.env.scope x)(hf:X.fn x=true\/X.env.scope.names.lookup x=some .local:=by first|exact .inl rfl|exact .inr rfl|assumption):PG X (.Name x pos) (dN i):=by
 intro ao s Z H v u Q I r h;exact wpAny_assign_Name (G7 I hN hi hx r (λs' I'=>⟨_,H,I',h⟩) hf)
noncomputable def uh:Bc:=λvs Z H Q=>vs=[]/\Q Z H
noncomputable def iD(t:TG)(u:Bc):Bc:=λvs Z H Q=>∃v r,vs=v::r/\t v Z H λZ' H'=>u r Z' H' Q
theorem zjj:LR X [] uh:=by
 intro ao s Z H vs us Q I r h;obtain⟨e,h⟩:=h;subst e;cases r;exact assignInOrder_nil ⟨Z,H,I,h⟩
theorem Wv{e:Expr}{es:List Expr}{t:TG}{u:Bc}(h1:PG X e t)(h2:LR X es u)
  (hs:(assignEach (e::es) X.env).map (·.2)=assign e X.env::(assignEach es X.env).map (·.2):=by rfl):LR X (e::es) (iD t u):=by
 intro ao s Z H vs us Q I r h;obtain⟨v,vr,e1,h⟩:=h;subst e1;cases r with
 |cons r rr=>
  rw[hs];refine assignInOrder_cons (aQ (h1 ao s Z H _ _ _ I r h) λ_ s1 ⟨Z1,H1,I1,q1⟩=>?_);exact h2 ao s1 Z1 H1 _ _ Q I1 rr q1
noncomputable def uo(K:W.Frag)(n:Nat)(t:Bc):TG:=λv Z H Q=>∃a xs,v=.ref a/\gK K H a xs/\xs.length=n/\t xs Z H Q
theorem zk7{es:List Expr}{k:Nat}{t:Bc}{n:Nat}(hc:X.aj=true)(h:LR X es t)
  (hn:(assignEach es X.env).length=n:=by rfl) (Bg:(assignEach es X.env).findIdx? (·.1)=none:=by rfl):PG X (.Tuple es k pos) (uo X.K n t):=by
 intro ao s Z H v u Q I r hw;obtain⟨a,xs,e1,hq,hl,hw⟩:=hw;subst e1;cases r;obtain⟨its,rv,ht,hz⟩:=I.tuple hq;refine assign_Tuple_tuple (I.ok.hd hc) ht (by simp[hn,<-hl,rv.length]) Bg λh' hx=>?_;have I1:Inv X ao Z H {s with heap:=h'}:=I.kept (t':=s.toks) λb o e=>hx b o (cY (bQ e)) e;exact h ao _ Z H xs _ Q I1 (by simpa using rv) hw
noncomputable def Qj(to ti:TE)(t:Bf):TG:=λv Z H Q=>to Z H λo H1=>ti Z H1 λi H2=>t o i v H2 λH3=>Q Z H3
theorem zk6{o i:Expr}{to ti:TE}{t:Bf}(ho:PE X o to)(hi:PE X i ti)(hs:Hl X t)
  (ha:∀v,assign (.Subscript o i pos) X.env v=(do
   let ov <-holding [v] (eval o X.env)
   let iv <-holding [v,ov] (eval i X.env)
   standAt pos
   holding [v,ov,iv] (setItem ov iv v)
   release [v,ov,iv] []):=by intro _;rfl):PG X (.Subscript o i pos) (Qj to ti t):=by
 intro ao s Z H v u Q I r h;rw[ha];refine aA (pK (aQ (ho ao s Z H _ I h) λov s1 hx=>eE hx λx H1 I1 r1 q1=>?_));refine aA (pK (aQ (hi ao s1 Z H1 _ I1 q1) λiv s2 hx=>eE hx λy H2 I2 r2 q2=>?_));refine aA (tZ (aA (pK (aQ (hs ao s2 Z H2 x y v ov iv u _ I2 r1 r2 r q2) λ_ s3 hx=>vN hx λH3 I3 q3=>?_))));exact wpAny_release ⟨Z,H3,I3,q3⟩
noncomputable def wN(te:TE)(g:TG):TS:=λD Z H=>te Z H λx H1=>g x Z H1 D.nx
theorem Ww{tg e:Expr}{te:TE}{g:TG}(he:PE X e te)(hg:PG X tg g)(hs:swapsWithSole [tg] e pos.line X.env=pure false:=by rfl)(hw:swappedStores [tg] e X.env=pure none:=by rfl)
  (h1:(assignEach [tg] X.env).map (·.2)=[assign tg X.env]:=by rfl):PS X (.Assign [tg] e pos) (wN te g):=by
 intro ao s Z H D I h;refine wpAny_Assign_stores (aQ (he ao s Z H _ I h) λv s1 hx=>eE hx λx H1 I1 r1 q1=>?_) hs hw;rw[h1];exact aQ (hg ao s1 Z H1 x v _ I1 r1 q1) λ_ s2 q=>q
theorem zkA{i:Nat}{x:Str}{e:Expr}{te:TE}{pos':Pos}(hN:X.N.Nodup)(hi:X.N[i]?=some x)(hx:Loc X.env.scope x)(he:PE X e te)(hs:swapsWith e (some (.Name x pos')) pos.line X.env=pure false:=by rfl)(hf:X.fn x=true\/X.env.scope.names.lookup x=some .local:=by first|exact .inl rfl|exact .inr rfl|assumption) :
  PS X (.Assign [.Name x pos'] e pos) (wN te (dN i)):=by
 intro ao s Z H D I h;refine wpAny_Assign_Name (aQ (he ao s Z H _ I h) λv s1 ⟨y,H1,I1,r1,q1⟩=>?_) hs;exact G7 I1 hN hi hx r1 (λs2 I2=>⟨_,H1,I2,q1⟩) hf
noncomputable def Qk(i j:Nat)(ta:TA):TS:=λD Z H=>ta Z H λvs H1=>∃v w,vs=[v,w]/\D.nx ((Z.set i (some v)).set j (some w)) H1
theorem zkR{i j:Nat}{x y:Str}{a b:Expr}{ta:TA}{px py pt:Pos}{kt k2 uq}(hc:X.aj=true)(hN:X.N.Nodup)(hi:X.N[i]?=some x)(hj:X.N[j]?=some y)(wO:i≠j)
  (hx:X.env.scope.names.lookup x=some .local) (hy:X.env.scope.names.lookup y=some .local) (ha:PA X [a,b] ta)
  (hw:swappedStores [.Tuple [.Name x px,.Name y py] kt pt] (.Tuple [a,b] k2 uq) X.env=pure (some [x,y]))
  (hs:swapsWithSole [.Tuple [.Name x px,.Name y py] kt pt] (.Tuple [a,b] k2 uq) pos.line X.env=pure false:=by rfl) :
  PS X (.Assign [.Tuple [.Name x px,.Name y py] kt pt] (.Tuple [a,b] k2 uq) pos) (Qk i j ta):=by
 intro ao s Z H D I h;rw[exec_Assign_arm];refine aA (tZ ?_);rw[hs];refine aA (aP ?_);rw[if_neg Ro];refine aA (Tuple_ (aQ (ha _ ao s Z H _ I h) λus s1 ⟨vs,H1,I1,r1,q1⟩=>?_));obtain⟨v,w,e1,q1⟩:=q1;subst e1;obtain⟨u1,u2,rfl,rv,jV⟩ : ∃u1 u2,us=[u1,u2]/\RelV v u1/\RelV w u2:=by
  cases r1 with
  |cons p q=>
   cases q with
   |cons p' q'=>
    cases q';exact⟨_,_,rfl,p,p'⟩
 refine tK ?_ (by show 2<=sizeLine;decide);have I2:Inv X ao Z H1 {s1 with heap:=s1.heap.push {cls:=.type "tuple",data:=.seq [u1,u2].toArray}}:=I1.kept (t':=s1.toks) λb o e=>cD _ e;rw[hw];refine aA (aP ?_);show wpAny (model X.prog X.w) X.A (do rule "assign.swapped-stores";let items <-unpackItems (.ref s1.heap.objs.size) 2 none;assignInOrder [λv=>bindName X.env y v,λv=>bindName X.env x v] items.reverse;pure Flow.next) _ _ _;refine aA (yV (aA (unpackItems_tuple (items:=#[u1,u2]) (I.ok.hd hc) (IsTup.new s1.heap _) λh' hx'=>?_)));have I3:=I2.kept (h':=h') (t':=s1.toks) λb o e=>hx' b o (cY (bQ e)) e;show wpAny _ _ (assignInOrder [λv=>bindName X.env y v,λv=>bindName X.env x v] [u2,u1] >>= λ_=>pure Flow.next) _ _ _;refine aA (assignInOrder_cons (wpAny_bindName (G7 I3 hN hj (.inl hy) jV (λs2 I4=>?_) (.inr hy))));refine assignInOrder_cons (wpAny_bindName (G7 I4 hN hi (.inl hx) rv (λs3 I5=>assignInOrder_nil (aP ?_)) (.inr hx)));rw[List.set_comm _ _ (Ne.symm wO)] at I5;exact⟨_,H1,I5,q1⟩
noncomputable def Ho(i:Nat)(te:TE)(ti:L_):TS:=λD Z H=>∃x,Z[i]?=some (some x)/\te Z H λy H1=>ti x y H1 λz H2=>D.nx (Z.set i (some z)) H2
theorem zls{i:Nat}{x:Str}{e:Expr}{te:TE}{op:Operator}{ti:L_}{pos':Pos}(hN:X.N.Nodup)(hi:X.N[i]?=some x)(hx:Loc X.env.scope x)(he:PE X e te)(ho:Wu X op ti)(hf:X.fn x=true\/X.env.scope.names.lookup x=some .local:=by first|exact .inl rfl|exact .inr rfl|assumption) :
  PS X (.AugAssign (.Name x pos') op e pos) (Ho i te ti):=by
 intro ao s Z H D I h;obtain⟨v,e1,h⟩:=h;obtain⟨m,hn,hl⟩:=I.loc;have vis:Lx X.env.scope x:=by rcases hx with k|k;exact .inl k;exact .inr (.inl k)
 obtain⟨u,r,l⟩:=hl i x v hi e1 vis;refine wpAny_AugAssign_Name ?_;have go:wpAny (model X.prog X.w) X.A (eval e X.env) (λw s₂=>wpAny (model X.prog X.w) X.A (inplaceOp op u w) (λr s₃=>wpAny (model X.prog X.w) X.A (storeName X.env x r) (λ_=>SP X ao D .next) X.xe s₃) X.xe s₂) X.xe s:=by
  refine aQ (he ao s Z H _ I h) λw s1 ⟨y,H1,I1,r1,q1⟩=>?_;refine aQ (ho ao s1 Z H1 v y u w _ I1 r r1 q1) λz s2 ⟨zv,H2,I2,r2,q2⟩=>?_;exact G7 I2 hN hi hx r2 (λs3 I3=>⟨_,H2,I3,q2⟩) hf
 rcases l with ⟨hk,hm⟩|⟨hk,c,hc,qO⟩
 ·exact wpAny_loadName_local I.ok.kind hk hn hm go
 ·rcases hk with hk|hk
  ·exact wpAny_loadName_cell I.ok.kind hk hc qO go
  ·rcases hx with k|k
   ·have:X.env.scope.names.lookup x=some .free:=hk;rw[k] at this;cases this
   ·have:X.env.scope.names.lookup x=some .free:=hk;rw[k] at this;cases this
noncomputable def Wx(f:Int->Int->Int):L_:=λx y H Q=>∃i j,x=.int i/\y=.int j/\Q (.int (f i j)) H
theorem zlN:Wu X .Add (Wx λi j=>i+j):=by
 intro ao s Z H x y v u Q I r1 r2 h;obtain⟨i,j,e1,e2,q⟩:=h;subst e1;subst e2;obtain⟨t,rfl⟩:=r1;obtain⟨t',rfl⟩:=r2;exact iadd_int ⟨.int _,H,I.tok _,⟨_,rfl⟩,q⟩
end
section
variable {X:Cx}{pos:Pos}
noncomputable def Bh(c:TT)(tb:TS):TS:=λD Z H=>∃W:Nat->St->Hp->Prop,(∃m,W m Z H)/\∀m Z H,W m Z H->
 c Z H λb H1=>if b=true then ∃N:St->Hp->Prop,(∀Z' H',N Z' H'->∃m',m'<m/\W m' Z' H')/\tb {D with nx:=N,ct:=N,bk:=D.nx} Z H1 else D.nx Z H1
theorem zhE{c:Expr}{body:List Stmt}{tc:TT}{tb:TS}(hp:PassesOwn (model X.prog X.w) X.A X.env X.xe)(hc:PT X c tc)(hb:pO X body tb):PS X (.While c body [] pos) (Bh tc tb):=by
 intro ao s Z H D I h;obtain⟨W,⟨m0,w0⟩,turn⟩:=h;refine wpAny_While (codeAny_whileLoop (λn s'=>∃Z' H',Inv X ao Z' H' s'/\W n Z' H') ?_ m0 ⟨Z,H,I,w0⟩);rintro n s1 ⟨Z1,H1,I1,w1⟩;refine Ak hp (aQ (hc ao s1 Z1 H1 _ I1 (turn n Z1 H1 w1)) λb s2 hx=>vN hx λH2 I2 q2=>?_);cases b with
 |true=>
  obtain⟨N,hN,q2⟩:=q2;rw[if_pos rfl];refine Ak hp (aQ (hb ao s2 Z1 H2 _ I2 q2) λf s3 q3=>?_);cases f with
  |next=>
   obtain⟨Z3,H3,I3,n3⟩:=q3;obtain⟨m',hm,w3⟩:=hN Z3 H3 n3;exact⟨m',hm,Z3,H3,I3,w3⟩
  |cont=>
   obtain⟨Z3,H3,I3,n3⟩:=q3;obtain⟨m',hm,w3⟩:=hN Z3 H3 n3;exact⟨m',hm,Z3,H3,I3,w3⟩
  |brk=>exact q3
  |ret v=>exact q3
 |false=>
  rw[if_neg Gm];exact wpAny_execs_nil ⟨Z1,H2,I2,q2⟩
end
structure It where
 go:Nat->Hp->Prop
 ur:Nat->Hp->V->Hp->Prop
 stop:Nat->Hp->Prop
def fL(X:Cx)(ao:List (Addr×Obj))(H:Hp)(b:Addr):Prop:=
 H b=none/\b≠X.env.locals/\b∉X.fs/\(b∈X.ex\/X.s₀.heap.objs.size<=b)/\(∀x c,X.env.cells.lookup x=some c->c≠b)/\∀p∈X.pn++ao,p.1≠b
theorem Inv.uw{X:Cx}{ao:List (Addr×Obj)}{Z:St}{H H':Hp}{s:Shared}{b:Addr}(I:Inv X ao Z H s)(hb:s.heap.objs.size<=b)(hn:H' b=none):fL X ao H' b:=by
 refine⟨hn,pL (fZ I.lt hb),I.wM hb,.inr (jQ I.sz hb),λx c e z=>?_,λp hp z=>?_⟩
 ·obtain⟨v,q⟩:=I.cell x c e;exact absurd (fZ q.lt (by rw[z];exact hb)) (pJ _)
 ·exact absurd (fZ (bQ (I.pin p hp).1) (by rw[z];exact hb)) (pJ _)
structure Turn(P:Program)(w:World)(K:W.Frag)(tg:Expr)(aZ:It)(fp:List Addr)(it:Addr)(tn:Nat->Heap->Prop):Prop where
 mem:it∈fp
 obj:∀i h,tn i h->∀b∈fp,∃o,h.get? b=some o/\∀v,o.data≠.cell v
 keep:∀i h h',tn i h->(∀b∈fp,∀o,h.get? b=some o->h'.get? b=some o)->tn i h'
 item:∀(X:Cx),X.prog=P->X.w=w->X.K=K->X.aj=true->∀(i:Nat) (ao:List (Addr×Obj)) (s:Shared) (Z:St) (H:Hp) (E:Value->Shared->Prop),Inv X ao Z H s->(∀b∈fp,fL X ao H b)->tn i s.heap->aZ.go i H->
  wpAny (model P w) X.A (pyNext (.ref it)) (λr s1=>∃u,r=some u /\
   wpAny (model P w) X.A (letOwnedTupleGo tg (.ref it) u) (λ_ s2=>∃x H',Inv X ao Z H' s2/\RelV x u/\aZ.ur i H x H'/\tn (i+1) s2.heap/\∀b∈fp,H' b=none) E s1) E s
 done:∀(X:Cx),X.prog=P->X.w=w->X.K=K->X.aj=true->∀(i:Nat) (ao:List (Addr×Obj)) (s:Shared) (Z:St) (H:Hp) (E:Value->Shared->Prop),Inv X ao Z H s->(∀b∈fp,fL X ao H b)->tn i s.heap->aZ.stop i H->
  wpAny (model P w) X.A (pyNext (.ref it)) (λr s1=>r=none/\Inv X ao Z H s1) E s
 self:∀(A:Around) (i:Nat) (s:Shared) (Q:Value->Shared->Prop) (E:Value->Shared->Prop),tn i s.heap->Q (.ref it) s->wpAny (model P w) A (pyIter (.ref it)) Q E s
noncomputable abbrev TI:=St->Hp->(It->Hp->Prop)->Prop
def PIE(X:Cx)(ao:List (Addr×Obj))(Z:St)(tg:Expr)(R:It->Hp->Prop)(itv:Value)(s2:Shared):Prop:=
 ∃(it:Addr) (fp:List Addr) (tn:Nat->Heap->Prop) (aZ:It) (H':Hp),itv=.ref it/\Inv X ao Z H' s2/\Turn X.prog X.w X.K tg aZ fp it tn/\tn 0 s2.heap/\(∀b∈fp,fL X ao H' b)/\R aZ H'
def PI(X:Cx)(tg iter:Expr)(wi:TI):Prop:=
 ∀(ao:List (Addr×Obj)) (s:Shared) (Z:St) (H:Hp) (R:It->Hp->Prop),Inv X ao Z H s->wi Z H R->
  wpAny (model X.prog X.w) X.A (eval iter X.env) (λv s1=>wpAny (model X.prog X.w) X.A (pyIter v) (PIE X ao Z tg R) X.xe s1) X.xe s
theorem Ql{M:Model}{A:Around}{E:Value->Shared->Prop}{s:Shared}{tg:Expr}{it:Addr}{u:Value}{o:Obj}{n:String}{vs:Array Value}{Q:Unit->Shared->Prop}(ho:s.heap.get? it=some o)(hc:o.cls=.type n)(hd:o.data=.fields vs)
  (hn:["enumerate","zip","dict_itemiterator","dict_reverseitemiterator","odict_iterator","itertools.zip_longest","itertools.pairwise"].contains n=false) (hQ:Q () s):wpAny M A (letOwnedTupleGo tg (.ref it) u) Q E s:=by
 unfold letOwnedTupleGo;cases tg<;>first
  |exact aP hQ
  | (cases u<;>first
    |exact aP hQ
    | (refine aA (wpAny_load ho ?_)
       rw[hc,hd];show wpAny M A (if (["enumerate","zip","dict_itemiterator","dict_reverseitemiterator","odict_iterator","itertools.zip_longest","itertools.pairwise"].contains n&&vs[0]?==some (rawInt _))=true then _ else _) Q E s;rw[if_neg (by intro h;rw[hn,Bool.false_and] at h;cases h)];exact aP hQ))
noncomputable def Mf(K:W.Frag)(a:Addr):It:=
 ⟨λi H=>∃xs x,cR K H a xs/\xs[i]?=some x,λi H x H'=>H'=H/\∀xs,cR K H a xs->xs[i]?=some x,λi H=>∃xs,cR K H a xs/\xs.length<=i⟩
noncomputable def Qm(K:W.Frag)(a:Addr):It:=
 ⟨λi H=>∃xs x,gK K H a xs/\xs[i]?=some x,λi H x H'=>H'=H/\∀xs,gK K H a xs->xs[i]?=some x,λi H=>∃xs,gK K H a xs/\xs.length<=i⟩
noncomputable def Hq(lo:Int)(n:Nat):It:=⟨λi _=>i<n,λi H x H'=>H'=H/\x=.int (lo+i),λi _=>n<=i⟩
theorem zfV{P:Program}{w:World}{K:W.Frag}{tg:Expr}(a it:Addr):Turn P w K tg (Mf K a) [it] it (λi h=>h.IsListIter it a i) where
 mem:=by simp
 obj:=λi h st b hb=>by
  have e:b=it:=by simpa using hb
  subst e;obtain⟨o,e,c,d⟩:=st;exact⟨o,e,λv z=>by rw[d] at z;cases z⟩
 keep:=λi h h' st k=>st.at λo e=>k it Zaa o e
 item:=by
  intro X hP hw hK hc i ao s Z H E I hf st hg;subst hP hw hK;obtain⟨xs,x,hq,hx⟩:=hg;obtain⟨its,rv,p,hz⟩:=I.list hq;obtain⟨u,hu,ru⟩:=rv.get hx;obtain⟨f0,f1,f2,f3,f4,f5⟩:=hf it Zaa;refine wpAny_pyNext_list_item st p.isList (x:=u) (by simpa using hu) λh' st' sb=>?_;have I1:Inv X ao Z H {s with heap:=h'}:=I.turned (t':=s.toks) (λb o hb e=>(sb.2 b hb).trans e) f0 f1 f3 f4 f5;obtain⟨o,e,c,d⟩:=id st';exact⟨u,rfl,Ql (s:={s with heap:=h'}) e c d Ro ⟨x,H,I1,ru,⟨rfl,λys hy=>by rw[I.n_ hy hq];exact hx⟩,st',λb hb=>(hf b hb).1⟩⟩
 done:=by
  intro X hP hw hK hc i ao s Z H E I hf st hg;subst hP hw hK;obtain⟨xs,hq,hx⟩:=hg;obtain⟨its,rv,p,hz⟩:=I.list hq;obtain⟨f0,f1,f2,f3,f4,f5⟩:=hf it Zaa;have hl:=rv.length;exact wpAny_pyNext_list_end (I.ok.hd hc) st p.isList (by simp;lia) λh' eb=>⟨rfl,I.turned (t':=s.toks) (λb o hb e=>eb b o hb e) f0 f1 f3 f4 f5⟩
 self:=λ_ _ _ _ _ st h=>wpAny_pyIter_listiter st h
theorem zfa{P:Program}{w:World}{K:W.Frag}{tg:Expr}(a it:Addr):Turn P w K tg (Qm K a) [it] it (λi h=>h.IsTupleIter it a i) where
 mem:=by simp
 obj:=λi h st b hb=>by
  have e:b=it:=by simpa using hb
  subst e;obtain⟨o,e,c,d⟩:=st;exact⟨o,e,λv z=>by rw[d] at z;cases z⟩
 keep:=λi h h' st k=>st.at λo e=>k it Zaa o e
 item:=by
  intro X hP hw hK hc i ao s Z H E I hf st hg;subst hP hw hK;obtain⟨xs,x,hq,hx⟩:=hg;obtain⟨its,rv,p,hz⟩:=I.tuple hq;obtain⟨u,hu,ru⟩:=rv.get hx;obtain⟨f0,f1,f2,f3,f4,f5⟩:=hf it Zaa;refine wpAny_pyNext_tuple_item st (show s.heap.IsTuple a its.toArray from p) (x:=u) (by simpa using hu) λh' st' sb=>?_;have I1:Inv X ao Z H {s with heap:=h'}:=I.turned (t':=s.toks) (λb o hb e=>(sb.2 b hb).trans e) f0 f1 f3 f4 f5;obtain⟨o,e,c,d⟩:=id st';exact⟨u,rfl,Ql (s:={s with heap:=h'}) e c d Ro ⟨x,H,I1,ru,⟨rfl,λys hy=>by rw[I.lQ hy hq];exact hx⟩,st',λb hb=>(hf b hb).1⟩⟩
 done:=by
  intro X hP hw hK hc i ao s Z H E I hf st hg;subst hP hw hK;obtain⟨xs,hq,hx⟩:=hg;obtain⟨its,rv,p,hz⟩:=I.tuple hq;obtain⟨f0,f1,f2,f3,f4,f5⟩:=hf it Zaa;have hl:=rv.length;exact wpAny_pyNext_tuple_end (I.ok.hd hc) st (show s.heap.IsTuple a its.toArray from p) (by simp;lia) λh' eb=>⟨rfl,I.turned (t':=s.toks) (λb o hb e=>eb b o hb e) f0 f1 f3 f4 f5⟩
 self:=λ_ _ _ _ _ st h=>wpAny_pyIter_tupleiter st h
theorem zfm{P:Program}{w:World}{K:W.Frag}{tg:Expr}(it:Addr)(lo:Int)(n:Nat):Turn P w K tg (Hq lo n) [it] it (λi h=>IsRangeIter h it (lo+(i:Nat)*1) ((n:Int)-(i:Nat)) 1) where
 mem:=by simp
 obj:=λi h st b hb=>by
  have e:b=it:=by simpa using hb
  subst e;exact⟨_,st,λv z=>by
   have z':Data.fields _=Data.cell v:=z;cases z'⟩
 keep:=λi h h' st k=>k it Zaa _ st
 item:=by
  intro X hP hw hK hc i ao s Z H E I hf st hg;subst hP hw hK;obtain⟨f0,f1,f2,f3,f4,f5⟩:=hf it Zaa;have W:=Walks.range (prog:=X.prog) (w:=X.w) (I.ok.hd hc) it lo 1 n;refine W.item i s _ _ hg st λv h' tk hv st' kk=>?_;obtain⟨t,rfl⟩:=hv;have I1:Inv X ao Z H {s with heap:=h',toks:=tk}:=I.turned (λb o hb e=>kk b o (by simpa using hb) e) f0 f1 f3 f4 f5;refine⟨_,rfl,Ql (s:={s with heap:=h',toks:=tk}) (n:="range_iterator") st' rfl rfl Ro ⟨.int (lo+i),H,I1,⟨t,?_⟩,⟨rfl,rfl⟩,st',λb hb=>(hf b hb).1⟩⟩;rw[Int.mul_one]
 done:=by
  intro X hP hw hK hc i ao s Z H E I hf st hg;subst hP hw hK;obtain⟨f0,f1,f2,f3,f4,f5⟩:=hf it Zaa;exact wpAny_pyNext_range_end (I.ok.hd hc) st (by have:n<=i:=hg;lia) λh' eb=>⟨rfl,I.turned (t':=s.toks) (λb o hb e=>eb b o hb e) f0 f1 f3 f4 f5⟩
 self:=λ_ _ _ _ _ st h=>wpAny_pyIter_rangeiter st h
section
variable {X:Cx}{tg:Expr}
theorem Wy{ao:List (Addr×Obj)}{Z:St}{H:Hp}{s:Shared}{R:It->Hp->Prop}{E:Value->Shared->Prop}{lo hi:Int}{t u v:Tok}{tk:Nat}(I:Inv X ao Z H s)(h1 : -(2^62)<=lo)(h2:lo<2^62)(h3 : -(2^62)<=hi)(h4:hi<2^62)
  (q:R (Hq lo (hi-lo).toNat) H):wpAny (model X.prog X.w) X.A (pyIter (.ref s.heap.objs.size)) (PIE X ao Z tg R) E {s with heap:=s.heap.push {cls:=.type "range",data:=.fields #[.int lo t,.int hi u,.int 1 v]},toks:=tk}:=by
 refine wpAny_pyIter_range (IsRange.new ..) (small_one h1 h2 h3 h4) ?_;have I1:Inv X ao Z H {s with heap:=s.heap.push {cls:=.type "range",data:=.fields #[.int lo t,.int hi u,.int 1 v]},toks:=tk}:=I.kept λb o e=>cD _ e;refine⟨(s.heap.push {cls:=.type "range",data:=.fields #[.int lo t,.int hi u,.int 1 v]}).objs.size,[(s.heap.push {cls:=.type "range",data:=.fields #[.int lo t,.int hi u,.int 1 v]}).objs.size],_,_,H,rfl,
  I1.kept (t':=tk) λb o e=>cD _ e,zfm _ lo (hi-lo).toNat,?_,λb hb=>?_,q⟩
 ·have e1:lo+((0:Nat):Int)*1=lo:=by simp
  have e2:(((hi-lo).toNat:Nat):Int)-((0:Nat):Int)=Builtin.Range.rangeSize lo hi 1:=by rw[rangeSize_one];split<;>lia
  show IsRangeIter _ _ (lo+((0:Nat):Int)*1) ((((hi-lo).toNat:Nat):Int)-((0:Nat):Int)) 1;rw[e1,e2];exact eF _ rfl
 ·have e:b=(s.heap.push {cls:=.type "range",data:=.fields #[.int lo t,.int hi u,.int 1 v]}).objs.size:=by simpa using hb
  subst e;exact I1.uw (cj _) (I1.hok.fresh (cj _))
noncomputable def Hr(ta:TA):TI:=λZ H R=>ta Z H λvs H1=>∃j:Int,vs=[.int j]/\-(2^62)<=j/\j<2^62/\R (Hq 0 j.toNat) H1
noncomputable def Hs(ta:TA):TI:=λZ H R=>ta Z H λvs H1=>∃i j:Int,vs=[.int i,.int j]/\(-(2^62)<=i/\i<2^62/\-(2^62)<=j/\j<2^62)/\R (Hq i (j-i).toNat) H1
theorem zfH{a:Expr}{ta:TA}{p pos:Pos}(hg:Gl X "range")(hm:X.mg "range"=none)(ha:PA X [a] ta)(hs:starEach [a] X.env=[(false,eval a X.env)]:=by rfl):PI X tg (.Call (.Name "range" p) [a] [] pos) (Hr ta):=by
 intro ao s Z H R I h;refine Call_ (vP I hg hm boot_range (Ac (aQ (ha pos ao s Z H _ I h) λus s1 hx=>eE hx λvs H1 I1 r1 q1=>?_) hs rfl));obtain⟨j,e,q1,q2,q⟩:=q1;subst e;cases r1 with
 |cons r rr=>
  cases rr;obtain⟨t,rfl⟩:=r;exact call_range_1 (Wy I1 gV gV q1 q2 (by simpa using q))
theorem zgC{a b:Expr}{ta:TA}{p pos:Pos}(hg:Gl X "range")(hm:X.mg "range"=none)(ha:PA X [a,b] ta)(hs:starEach [a,b] X.env=[(false,eval a X.env),(false,eval b X.env)]:=by rfl)(ux:starEach [b] X.env=[(false,eval b X.env)]:=by rfl) :
  PI X tg (.Call (.Name "range" p) [a,b] [] pos) (Hs ta):=by
 intro ao s Z H R I h;refine Call_ (vP I hg hm boot_range (Ac (aQ (ha pos ao s Z H _ I h) λus s1 hx=>eE hx λvs H1 I1 r1 q1=>?_) (by rw[hs,ux]) (by rw[ux];rfl)));obtain⟨i,j,e,⟨q1,q2,q3,q4⟩,q⟩:=q1;subst e;cases r1 with
 |cons r rr=>
  cases rr with
  |cons r' rr=>
   cases rr;obtain⟨t,rfl⟩:=r;obtain⟨t',rfl⟩:=r';exact call_range_2 (Wy I1 q1 q2 q3 q4 q)
noncomputable def Qn(wi:TI)(g:TG)(tb:TS):TS:=λD Z H=>wi Z H λaZ H1=>∃W:Nat->Nat->St->Hp->Prop,(∃m,W 0 m Z H1)/\∀i m Z H,W i m Z H->
 (aZ.stop i H/\D.nx Z H)\/(aZ.go i H/\∃N:St->Hp->Prop,(∀Z' H',N Z' H'->∃m',m'<m/\W (i+1) m' Z' H')/\∀x H',aZ.ur i H x H'->g x Z H' λZ2 H2=>tb {D with nx:=N,ct:=N,bk:=D.nx} Z2 H2)
noncomputable def iY(fp:List Addr)(h:Heap):List (Addr×Obj):=fp.filterMap λb=>(h.get? b).map λo=>(b,o)
theorem zm{fp:List Addr}{h:Heap}{b:Addr}{o:Obj}(hb:b∈fp)(e:h.get? b=some o):(b,o)∈iY fp h:=Gn.mpr ⟨b,hb,by rw[e];rfl⟩
theorem zfM{fp:List Addr}{h:Heap}{p:Addr×Obj}(hp:p∈iY fp h):p.1∈fp/\h.get? p.1=some p.2:=by
 obtain⟨b,hb,e⟩:=Gn.mp hp;cases q:h.get? b with
 |none=>rw[q] at e;cases e
 |some o=>
  rw[q] at e;have e':(b,o)=p:=cO e;subst e';exact⟨hb,q⟩
theorem Inv.pinned{ao:List (Addr×Obj)}{Z:St}{H:Hp}{s:Shared}{fp:List Addr}(I:Inv X ao Z H s)(hf:∀b∈fp,fL X ao H b)(ho:∀b∈fp,∃o,s.heap.get? b=some o/\∀v,o.data≠.cell v):Inv X (ao++iY fp s.heap) Z H s:=
 I.jM λp hp=>(nG.mp hp).elim (λz=>I.pin p (k_ _ z)) λz=>by
  obtain⟨hb,e⟩:=zfM z;obtain⟨f0,f1,f2,_⟩:=hf p.1 hb;obtain⟨o,e',d⟩:=ho p.1 hb;rw[e] at e';cases e';exact⟨e,f0,f1,f2,d⟩
theorem Inv.bZ{ao pl:List (Addr×Obj)}{Z:St}{H:Hp}{s:Shared}(I:Inv X (ao++pl) Z H s):Inv X ao Z H s:=I.jM λp hp=>I.pin p (k_ _ (Gh _ hp))
theorem zmd{iter:Expr}{body:List Stmt}{wi:TI}{g:TG}{tb:TS}{pos:Pos}(hp:PassesOwn (model X.prog X.w) X.A X.env X.xe)(hc:X.aj=true)(hi:PI X tg iter wi)(hg:PG X tg g)(hb:pO X body tb)
  (hs:∀x,foldedSetIterable iter X.env x=pure x:=by intro _;rfl):PS X (.For tg iter body [] pos) (Qn wi g tb):=by
 intro ao s Z H D I h;refine wpAny_For (aQ (hi ao s Z H _ I h) λv s1 h1=>aQ h1 λitv s2 h2=>?_) hs;obtain⟨it,fp,tn,aZ,H2,e,I2,T,st2,f2,W,⟨m0,w0⟩,turn⟩:=h2;subst e;have stat:∀{H':Hp},(∀b∈fp,H' b=none)->∀b∈fp,fL X ao H' b:=λhn b hb=>⟨hn b hb,(f2 b hb).2⟩;refine codeAny_forLoop_any (λn s'=>∃i Z' H',Inv X ao Z' H' s'/\tn i s'.heap/\(∀b∈fp,H' b=none)/\W i n Z' H') ?_ m0 ⟨0,Z,H2,I2,st2,λb hb=>(f2 b hb).1,w0⟩;rintro n s3 ⟨i,Z3,H3,I3,st3,Wz,w3⟩;rcases turn i n Z3 H3 w3 with ⟨stop,qn⟩|⟨go,N,hN,step⟩
 ·refine Ak hp (aQ (T.done X rfl rfl rfl hc i ao s3 Z3 H3 X.xe I3 (stat Wz) st3 stop) λr s4 ⟨hr,I4⟩=>?_);subst hr;exact wpAny_execs_nil ⟨Z3,H3,I4,qn⟩
 ·refine Ak hp (aQ (T.item X rfl rfl rfl hc i ao s3 Z3 H3 X.xe I3 (stat Wz) st3 go) λr s4 hx=>vN hx λu hr h4=>?_);subst hr;refine Ak hp (aQ h4 λ_ s5 ⟨x,H5,I5,r5,y5,tM,vQ⟩=>?_);have I5':=I5.pinned (stat vQ) (T.obj _ _ tM);refine Ak hp (aQ (hg _ s5 Z3 H5 x u _ I5' r5 (step x H5 y5)) λ_ s6 ⟨Z6,H6,I6,q6⟩=>?_);refine Ak hp (aQ (hb _ s6 Z6 H6 _ I6 q6) λf s7 q7=>?_);have again:∀{Z7:St} {H7:Hp},Inv X (ao++iY fp s5.heap) Z7 H7 s7->N Z7 H7->∃m,m<n/\∃i Z' H',Inv X ao Z' H' s7/\tn i s7.heap/\(∀b∈fp,H' b=none)/\W i m Z' H':=λ{Z7 H7} I7 n7=>by
   obtain⟨m',hm,w7⟩:=hN Z7 H7 n7;refine⟨m',hm,i+1,Z7,H7,I7.bZ,T.keep _ _ _ tM λb hb o e=>(I7.pin (b,o) (k_ _ (k_ _ (zm hb e)))).1,λb hb=>?_,w7⟩;obtain⟨o,e,d⟩:=T.obj _ _ tM b hb;exact(I7.pin (b,o) (k_ _ (k_ _ (zm hb e)))).2.1
  cases f with
  |next=>obtain⟨Z7,H7,I7,n7⟩:=q7;exact again I7 n7
  |cont=>obtain⟨Z7,H7,I7,n7⟩:=q7;exact again I7 n7
  |brk=>obtain⟨Z7,H7,I7,q7⟩:=q7;exact⟨Z7,H7,I7.bZ,q7⟩
  |ret v=>obtain⟨x7,Z7,H7,I7,r7,q7⟩:=q7;exact⟨x7,Z7,H7,I7.bZ,r7,q7⟩
end
noncomputable abbrev R2:=V->V->Hp->VK->Prop
def fO(X:Cx)(f:Value->Value->Sem Value)(r:R2):Prop:=
 ∀(ao:List (Addr×Obj)) (s:Shared) (Z:St) (H:Hp) (x y:V) (v u:Value) (Q:VK),Inv X ao Z H s->RelV x v->RelV y u->r x y H Q->
  wpAny (model X.prog X.w) X.A (f v u) (EP X ao Z Q) X.xe s
def Mg(X:Cx)(f:Value->Sem Value)(r:V->Hp->VK->Prop):Prop:=
 ∀(ao:List (Addr×Obj)) (s:Shared) (Z:St) (H:Hp) (x:V) (v:Value) (Q:VK),Inv X ao Z H s->RelV x v->r x H Q->
  wpAny (model X.prog X.w) X.A (f v) (EP X ao Z Q) X.xe s
def cZ(X:Cx)(f:Value)(r:List V->Hp->VK->Prop):Prop:=
 ∀(ao:List (Addr×Obj)) (s:Shared) (Z:St) (H:Hp) (xs:List V) (us:List Value) (Q:VK),Inv X ao Z H s->Vals xs us->r xs H Q->
  wpAny (model X.prog X.w) X.A (call f us) (EP X ao Z Q) X.xe s
def Qo(X:Cx)(r:V->Hp->(Bool->Hp->Prop)->Prop):Prop:=
 ∀(ao:List (Addr×Obj)) (s:Shared) (Z:St) (H:Hp) (x:V) (v:Value) (Q:Bool->Hp->Prop),Inv X ao Z H s->RelV x v->r x H Q->
  wpAny (model X.prog X.w) X.A (truthy v) (TP X ao Z Q) X.xe s
noncomputable def Mh(r:R2)(ta tb:TE):TE:=λZ H Q=>ta Z H λx H1=>tb Z H1 λy H2=>r x y H2 Q
noncomputable def tUn(r:V->Hp->VK->Prop)(ta:TE):TE:=λZ H Q=>ta Z H λx H1=>r x H1 Q
noncomputable def rI(C:Int->Int->Prop)(g:Int->Int->V):R2:=λx y H Q=>∃i j,x=.int i/\y=.int j/\C i j/\Q (g i j) H
noncomputable def pP(g:Int->Int->V):R2:=λx y H Q=>∃i j,x=.int i/\y=.int j/\Q (g i j) H
noncomputable def rU(g:Int->V):V->Hp->VK->Prop:=λx H Q=>∃i,x=.int i/\Q (g i) H
section
variable {X:Cx}{a b c:Expr}{ta tb tc:TE}{pos:Pos}
theorem Bj(ha:PE X a ta)(hb:PE X b tb){ao:List (Addr×Obj)}{s:Shared}{Z:St}{H:Hp}{R:V->V->Hp->Prop}(I:Inv X ao Z H s)
  (h:ta Z H λx H1=>tb Z H1 λy H2=>R x y H2) {Q:Value->Shared->Prop} {f:Value->Value->Sem Value}
  (hf:∀v u s2 x y H2,Inv X ao Z H2 s2->RelV x v->RelV y u->R x y H2->wpAny (model X.prog X.w) X.A (f v u) Q X.xe s2) :
  wpAny (model X.prog X.w) X.A (eval a X.env) (λv s₁=>wpAny (model X.prog X.w) X.A (eval b X.env) (λu s₂=>wpAny (model X.prog X.w) X.A (f v u) Q X.xe s₂) X.xe s₁) X.xe s:=by
 refine aQ (ha ao s Z H _ I h) λv s1 hx=>eE hx λx H1 I1 r1 q1=>?_;refine aQ (hb ao s1 Z H1 _ I1 q1) λu s2 hx=>eE hx λy H2 I2 r2 q2=>?_;exact hf v u s2 x y H2 I2 r1 r2 q2
theorem znr{op:Operator}{r:R2}(ho:fO X (binaryOp op) r)(ha:PE X a ta)(hb:PE X b tb):PE X (.BinOp a op b pos) (Mh r ta tb):=by
 intro ao s Z H Q I h;exact wpAny_BinOp (Bj ha hb I h λv u s2 x y H2 I2 rx ry q=>ho ao s2 Z H2 x y v u Q I2 rx ry q)
theorem zmR{op:UnaryOp}{r:V->Hp->VK->Prop}(ho:Mg X (unaryOp op) r)(ha:PE X a ta):PE X (.UnaryOp op a pos) (tUn r ta):=by
 intro ao s Z H Q I h;exact UnaryOp_ (aQ (ha ao s Z H _ I h) λv s1 hx=>eE hx λx H1 I1 r1 q1=>ho ao s1 Z H1 x v Q I1 r1 q1)
theorem Mj{f:Value->Value->Sem Value}{C:Int->Int->Prop}{g:Int->Int->Int}
  (rule:∀(i j:Int) (t u:Tok) (s:Shared) (Q:Value->Shared->Prop) (E:Value->Shared->Prop),C i j->Q (.int (g i j) s.toks) {s with toks:=s.toks+1}->wpAny (model X.prog X.w) X.A (f (.int i t) (.int j u)) Q E s) :
  fO X f (rI C λi j=>.int (g i j)):=by
 intro ao s Z H x y v u Q I rx ry h;obtain⟨i,j,rfl,rfl,hc,q⟩:=h;obtain⟨t,rfl⟩:=rx;obtain⟨t',rfl⟩:=ry;exact rule i j t t' s _ _ hc ⟨.int (g i j),H,I.tok _,⟨_,rfl⟩,q⟩
theorem Ht{f:Value->Value->Sem Value}{g:Int->Int->Int}
  (rule:∀(i j:Int) (t u:Tok) (s:Shared) (Q:Value->Shared->Prop) (E:Value->Shared->Prop),Q (.int (g i j) s.toks) {s with toks:=s.toks+1}->wpAny (model X.prog X.w) X.A (f (.int i t) (.int j u)) Q E s) :
  fO X f (pP λi j=>.int (g i j)):=by
 intro ao s Z H x y v u Q I rx ry h;obtain⟨i,j,rfl,rfl,q⟩:=h;obtain⟨t,rfl⟩:=rx;obtain⟨t',rfl⟩:=ry;exact rule i j t t' s _ _ ⟨.int (g i j),H,I.tok _,⟨_,rfl⟩,q⟩
theorem wQ{f:Value->Value->Sem Value}{g:Int->Int->Bool}
  (rule:∀(i j:Int) (t u:Tok) (s:Shared) (Q:Value->Shared->Prop) (E:Value->Shared->Prop),Q (.bool (g i j)) s->wpAny (model X.prog X.w) X.A (f (.int i t) (.int j u)) Q E s) :
  fO X f (pP λi j=>.bl (g i j)):=by
 intro ao s Z H x y v u Q I rx ry h;obtain⟨i,j,rfl,rfl,q⟩:=h;obtain⟨t,rfl⟩:=rx;obtain⟨t',rfl⟩:=ry;exact rule i j t t' s _ _ ⟨.bl (g i j),H,I,rfl,q⟩
def wR(i j:Int):Prop:=0<j/\j<1073741824
def Hu(i j:Int):Prop:=0<=j/\j<=1000000/\i.natAbs<2^64
def wU(i j:Int):Prop:=(-(2^64)<i/\i<2^64)\/(-(2^64)<j/\j<2^64)
theorem wU.ok{i j:Int}(h:wU i j):IntMulOk i j:=by
 rcases h with ⟨h1,h2⟩|⟨h1,h2⟩
 ·exact .of_left (intBits_le_64 h1 h2)
 ·exact .of_right (intBits_le_64 h1 h2)
theorem Bk:fO X (binaryOp .Add) (pP λi j=>.int (i+j)):=Ht λ_ _ _ _ _ _ _ q=>add_int q
theorem zl4:fO X (binaryOp .Sub) (pP λi j=>.int (i-j)):=Ht λ_ _ _ _ _ _ _ q=>sub_int q
theorem zkT:fO X (binaryOp .Mult) (rI wU λi j=>.int (i*j)):=Mj λ_ _ _ _ _ _ _ hc q=>mul_int q hc.ok
theorem zkg:fO X (binaryOp .FloorDiv) (rI wR λi j=>.int (i/j)):=Mj λi j _ _ _ _ _ hc q=>by
 have h1:(0:Int)<j:=hc.1;have h2:j<1073741824:=hc.2;exact floordiv_int gV (by rw[Int.fdiv_eq_ediv_of_nonneg i gV];exact q) (.inl (PyProof.noPylong_small gV))
theorem zlv:fO X (binaryOp .Mod) (rI (λ_ j=>0<j) λi j=>.int (i%j)):=Mj λi j _ _ _ _ _ hc q=>by
 have h1:(0:Int)<j:=hc;exact mod_int' gV (by rw[Int.fmod_eq_emod_of_nonneg i gV];exact q)
theorem zkH:fO X (binaryOp .Pow) (rI Hu λi j=>.int (i^j.toNat)):=Mj λ_ _ _ _ _ _ _ hc q=>pow_int_small hc.1 hc.2.1 hc.2.2 q
theorem unI{f:Value->Sem Value}{g:Int->Int}
  (rule:∀(i:Int) (t:Tok) (s:Shared) (Q:Value->Shared->Prop) (E:Value->Shared->Prop),Q (.int (g i) s.toks) {s with toks:=s.toks+1}->wpAny (model X.prog X.w) X.A (f (.int i t)) Q E s) :
  Mg X f (rU λi=>.int (g i)):=by
 intro ao s Z H x v Q I rx h;obtain⟨i,rfl,q⟩:=h;obtain⟨t,rfl⟩:=rx;exact rule i t s _ _ ⟨.int (g i),H,I.tok _,⟨_,rfl⟩,q⟩
theorem zkm:Mg X (unaryOp .USub) (rU λi=>.int (-i)):=unI λ_ _ _ _ _ q=>neg_int q
end
section
variable {X:Cx}{a b c:Expr}{ta tb tc:TE}{pos:Pos}
theorem Hv:fO X (compareOp .Lt) (pP λi j=>.bl (decide (i<j))):=wQ λ_ _ _ _ _ _ _ q=>lt_int q
theorem zmU:fO X (compareOp .LtE) (pP λi j=>.bl (decide (i<=j))):=wQ λ_ _ _ _ _ _ _ q=>le_int q
theorem zm8:fO X (compareOp .Gt) (pP λi j=>.bl (decide (j<i))):=wQ λ_ _ _ _ _ _ _ q=>gt_int q
theorem znn:fO X (compareOp .GtE) (pP λi j=>.bl (decide (j<=i))):=wQ λ_ _ _ _ _ _ _ q=>ge_int q
theorem fO.or{f:Value->Value->Sem Value}{r r':R2}(h:fO X f r)(h':fO X f r'):fO X f (λx y H Q=>r x y H Q\/r' x y H Q):=by
 intro ao s Z H x y v u Q I rx ry q;rcases q with q|q
 ·exact h ao s Z H x y v u Q I rx ry q
 ·exact h' ao s Z H x y v u Q I rx ry q
theorem zjp{op:CmpOp}{r:R2}(ho:fO X (compareOp op) r)(ha:PE X a ta)(hb:PE X b tb)(hm:behindInMarks op b=false):PE X (.Compare a [op] [b] pos) (Mh r ta tb):=by
 intro ao s Z H Q I h;exact wpAny_Compare1 (Bj ha hb I h λv u s2 x y H2 I2 rx ry q=>ho ao s2 Z H2 x y v u Q I2 rx ry q) hm
noncomputable def Hw(t:TE):TT:=λZ H Q=>t Z H λx H'=>∃k,x=.bl k/\Q k H'
theorem zi6{op:CmpOp}{r:R2}(ho:fO X (compareOp op) r)(ha:PE X a ta)(hb:PE X b tb)(hm:behindInMarks op b=false):PT X (.Compare a [op] [b] pos) (Hw (Mh r ta tb)):=by
 intro ao s Z H Q I h;refine wpAny_isTrue_Compare1 (aQ (ha ao s Z H _ I h) λv s1 hx=>eE hx λx H1 I1 r1 q1=>aQ (hb ao s1 Z H1 _ I1 q1) λu s2 hx=>eE hx λy H2 I2 r2 q2=>
  aQ (ho ao s2 Z H2 x y v u _ I2 r1 r2 q2) λc s3 hx=>Py hx λz H3 I3 r3 k e q3=>?_) hm
 subst e;cases r3;exact vI ⟨H3,I3,q3⟩
noncomputable def Bl(r r':R2)(ta tb tc:TE):TE:=λZ H Q=>ta Z H λx H1=>tb Z H1 λy H2=>r x y H2 λz H3=>∃k,z=.bl k /\
 (if k=true then tc Z H3 λw' H4=>r' y w' H4 Q else Q (.bl false) H3)
theorem zhm{op op':CmpOp}{r r':R2}(ho:fO X (compareOp op) r)(pN:fO X (compareOp op') r')(ha:PE X a ta)(hb:PE X b tb)(hc:PE X c tc)
  (hm:lastMarks [op,op'] [b,c]=false:=by with_unfolding_all rfl):PE X (.Compare a [op,op'] [b,c] pos) (Bl r r' ta tb tc):=by
 intro ao s Z H Q I h;refine Compare_chain (aQ (ha ao s Z H _ I h) λv s1 hx=>eE hx λx H1 I1 r1 q1=>chain_link (aQ (hb ao s1 Z H1 _ I1 q1) λu s2 hx=>eE hx λy H2 I2 r2 q2=>
  aQ (ho ao s2 Z H2 x y v u _ I2 r1 r2 q2) λd s3 hx=>Py hx λz H3 I3 r3 k e q3=>?_)) hm
 subst e;cases r3;refine vI ?_;cases k with
 |false=>exact ite_ff ⟨.bl false,H3,I3,rfl,q3⟩
 |true=>exact ite_tt (chain_last (aQ (hc ao s3 Z H3 _ I3 q3) λw' s4 hx=>eE hx λz' H4 I4 r4 q4=>pN ao s4 Z H4 y z' u w' Q I4 r2 r4 q4))
def Bm(K:W.Frag)(x:V)(H:Hp)(k:Bool):Prop:=
 match x with
 |.non=>k=false
 |.bl b=>k=b
 |.int i=>k=(i != 0)
 |.str y=>y.length<=sizeLine/\k=((y.length:Int) != 0)
 |.Aw y=>y.size<=sizeLine/\k=((y.size:Int) != 0)
 |.ref p=>(∃xs,cR K H p xs/\k = !xs.isEmpty)\/(∃xs,gK K H p xs/\k = !xs.isEmpty)\/∃kvs,H p=some (.dK kvs)/\k = !kvs.isEmpty
 |_=>False
theorem zfd{κ:Type}{kvs:List (κ×V)}{vs:List (κ×Value)}(r:KV kvs vs):(!vs.isEmpty) = !kvs.isEmpty:=by
 cases r<;>rfl
theorem WD{xs:List V}{its:List Value}(r:Vals xs its):(!its.toArray.isEmpty) = !xs.isEmpty:=by
 cases r<;>simp
theorem iZ:(sizeLine:Nat)<2^63:=by rw[vL];decide
theorem zkM:Qo X (λx H Q=>∃k,Bm X.K x H k/\Q k H):=by
 intro ao s Z H x v Q I rx h;obtain⟨k,e,q⟩:=h;have hl:=iZ;have hs:sizeLine=16777216:=vL;cases x with
 |non=>
  cases rx;have e':k=false:=e;subst e';exact truthy_none ⟨H,I,q⟩
 |bl b=>
  cases rx;have e':k=b:=e;subst e';exact vI ⟨H,I,q⟩
 |int i=>
  obtain⟨t,rfl⟩:=rx;have e':k=(i != 0):=e;subst e';exact PySem.P.truthy_int ⟨H,I,q⟩
 |str y=>
  obtain⟨t,rfl⟩:=rx;obtain⟨hy,e'⟩ : y.length<=sizeLine/\k=((y.length:Int) != 0):=e;subst e';exact PySem.P.truthy_str gV ⟨H,I.tok _,q⟩
 |Aw y=>
  obtain⟨t,rfl⟩:=rx;obtain⟨hy,e'⟩ : y.size<=sizeLine/\k=((y.size:Int) != 0):=e;subst e';exact PySem.W.truthy_bytes gV ⟨H,I.tok _,q⟩
 |ref p=>
  cases rx;have e':(∃xs,cR X.K H p xs/\k = !xs.isEmpty)\/(∃xs,gK X.K H p xs/\k = !xs.isEmpty)\/∃kvs,H p=some (.dK kvs)/\k = !kvs.isEmpty:=e;rcases e' with ⟨xs,hx,e'⟩|⟨xs,hx,e'⟩|⟨kvs,hx,e'⟩
  ·subst e';obtain⟨its,r,pl,hz⟩:=I.list hx;have hlen:=r.length;exact wpAny_truthy_list pl.isList (by simp only[fH];lia) ⟨H,I.tok _,by rw[WD r];exact q⟩
  ·subst e';obtain⟨its,r,pl,hz⟩:=I.tuple hx;have hlen:=r.length;exact truthy_tuple pl (by simp only[fH];lia) ⟨H,I.tok _,by rw[WD r];exact q⟩
  ·subst e';obtain⟨hz,hS,vs,r,m⟩ : kvs.length<=sizeLine/\(p==sysModules)=false/\∃vs,KV kvs vs/\s.heap.DictOf (mK X.prog X.w) p vs:=I.hok p _ hx;have hlen:kvs.length=vs.length:=Paired.length r;exact wpAny_truthy_dict hS m gV ⟨H,I.tok _,by rw[zfd r];exact q⟩
 |_=>exact(show False from e).elim
theorem zfs:fO X (binaryOp .Add) (λx y H Q=>∃i j,x=.str i/\y=.str j/\i.length+j.length<=sizeLine/\Q (.str (i++j)) H):=by
 intro ao s Z H x y v u Q I rx ry h;obtain⟨i,j,rfl,rfl,hz,q⟩:=h;obtain⟨t,rfl⟩:=rx;obtain⟨t',rfl⟩:=ry;exact add_str (λt' tk=>⟨.str (i++j),H,I.tok _,⟨_,rfl⟩,q⟩) hz
theorem vals1{x:V}{us:List Value}(r:Vals [x] us):∃u,us=[u]/\RelV x u:=by
 cases r with
 |cons r1 r2=>cases r2;exact⟨_,rfl,r1⟩
theorem vals2{x y:V}{us:List Value}(r:Vals [x,y] us):∃u w',us=[u,w']/\RelV x u/\RelV y w':=by
 cases r with
 |cons r1 r2=>
  cases r2 with
  |cons r3 r4=>cases r4;exact⟨_,_,rfl,r1,r3⟩
theorem zgV:cZ X (.builtin "abs") (λxs H Q=>∃i,xs=[.int i]/\Q (.int (if i<0 then -i else i)) H):=by
 intro ao s Z H xs us Q I r h;obtain⟨i,rfl,q⟩:=h;obtain⟨u,rfl,t,rfl⟩:=vals1 r;exact call_abs_int λu tk=>⟨.int (if i<0 then -i else i),H,I.tok _,⟨_,rfl⟩,q⟩
theorem zfO(hc:X.aj=true):cZ X (.builtin "max") (λxs H Q=>∃i j,xs=[.int i,.int j]/\Q (.int (if j>i then j else i)) H):=by
 intro ao s Z H xs us Q I r h;obtain⟨i,j,rfl,q⟩:=h;obtain⟨u,w',rfl,⟨t,rfl⟩,⟨t',rfl⟩⟩:=vals2 r;refine max_two_ints (I.ok.hd hc) λh' tk k=>⟨_,H,I.kept k,?_,q⟩;by_cases hj:j>i
 ·rw[if_pos hj,if_pos hj];exact⟨_,rfl⟩
 ·rw[if_neg hj,if_neg hj];exact⟨_,rfl⟩
theorem zgr(hc:X.aj=true):cZ X (.builtin "min") (λxs H Q=>∃i j,xs=[.int i,.int j]/\Q (.int (if j<i then j else i)) H):=by
 intro ao s Z H xs us Q I r h;obtain⟨i,j,rfl,q⟩:=h;obtain⟨u,w',rfl,⟨t,rfl⟩,⟨t',rfl⟩⟩:=vals2 r;refine min_two_ints (I.ok.hd hc) λh' tk k=>⟨_,H,I.kept k,?_,q⟩;by_cases hj:j<i
 ·rw[if_pos hj,if_pos hj];exact⟨_,rfl⟩
 ·rw[if_neg hj,if_neg hj];exact⟨_,rfl⟩
theorem zgt:cZ X (.type "int") (λxs H Q=>(∃i,xs=[.int i]/\Q (.int i) H)\/∃k,xs=[.bl k]/\Q (.int (if k then 1 else 0)) H):=by
 intro ao s Z H xs us Q I r h;rcases h with ⟨i,rfl,q⟩|⟨k,rfl,q⟩
 ·obtain⟨u,rfl,t,rfl⟩:=vals1 r;exact call_int_int ⟨.int i,H,I,⟨_,rfl⟩,q⟩
 ·obtain⟨u,rfl,r1⟩:=vals1 r;cases r1;exact call_int_bool ⟨.int (if k then 1 else 0),H,I.tok _,⟨_,rfl⟩,q⟩
theorem zd0:cZ X (.builtin "divmod") (λxs H Q=>∃i j,xs=[.int i,.int j]/\wR i j/\∀p,H p=none->Q (.ref p) (upd H p (.tup [.int (i/j),.int (i%j)]))):=by
 intro ao s Z H xs us Q I r h;obtain⟨i,j,rfl,⟨h1,h2⟩,q⟩:=h;obtain⟨u,w',rfl,⟨t,rfl⟩,⟨t',rfl⟩⟩:=vals2 r;refine divmod_int gV ?_ (.inl (PyProof.noPylong_small gV));rw[Int.fdiv_eq_ediv_of_nonneg i gV,Int.fmod_eq_emod_of_nonneg i gV];have hn:H s.heap.objs.size=none:=I.hok.fresh (cj _);refine⟨.ref s.heap.objs.size,_,?_,rfl,q _ hn⟩;refine I.laid (λb o e=>cD _ e) (cj _) ⟨by simp only[gW,DQ];rw[vL];decide,[.int (i/j) s.toks,.int (i%j) (s.toks+1)],.cons ⟨_,rfl⟩ (.cons ⟨_,rfl⟩ .nil),?_⟩;exact⟨_,eF s.heap rfl,rfl,0,rfl⟩
end
structure pQ(h:Heap)(x dx C:Addr)(mA:Str->Option Value):Prop where
 obj:h.get? x=some (PySem.W.instObj C dx)
 ns:h.Ns1 dx mA
 ne:dx≠x
theorem zgA{h:Heap}{dx:Addr}{mA:Str->Option Value}(n:h.Ns1 dx mA):∃od,h.get? dx=some od/\∀name,PySem.W.lookIn name od=some (mA name):=by
 obtain⟨o,es,ep,ho,hd,hk,_,hm⟩:=n;refine⟨o,ho,λname=>?_⟩;have e:=hm name;unfold nsFind findBy at e;rw[<-Array.find?_toList] at e;unfold PySem.W.lookIn;rw[hd];dsimp only
 split
 ·rename_i y q;rw[q] at e;exact lq some e
 ·rename_i q;rw[q] at e;have a:es.toList.any (·.refKey)=false:=by
   rw[List.any_eq_false];intro y hy;obtain⟨z,t,Qp⟩:=hk y (Array.mem_toList_iff.mp hy);simp[DictEntry.refKey,Qp]
  have a':¬es.toList.any (·.refKey)=true:=by rw[a];exact Gm
  rw[if_neg a'];exact lq some e
theorem pQ.look{h:Heap}{x dx C:Addr}{mA:Str->Option Value}(I:pQ h x dx C mA):∃od,PySem.W.InstAt h x (PySem.W.instObj C dx) C (some od)/\∀name,PySem.W.lookIn name od=some (mA name):=
 let ⟨od,ho,hl⟩:=zgA I.ns
 ⟨od,⟨I.obj,rfl,rfl,ho⟩,hl⟩
section
variable {prog:Program}{w:World}{A:Around}{E:Value->Shared->Prop}{s:Shared}{K:W.Frag}{x dx C f:Addr}{mA:Str->Option Value}{name:Str}{v:Value}
theorem zjL{expr:Bool}{Q:Value->Shared->Prop}(X:K.In s.heap)(I:pQ s.heap x dx C mA)(hg:PySem.W.plainGet K C name=true)(hh:PySem.W.hasDictIn K C=true)
  (ha:PySem.W.findIn K (.ref C) name=some none) (hv:mA name=some v) (Qq:PySem.W.handedIn v=true) (h:Q v {s with toks:=s.toks+1}) :
  wpAny (model prog w) A (getAttr (.ref x) name expr) Q E s:=by
 obtain⟨od,aZ,hl⟩:=I.look;exact PySem.W.get_value X aZ (Pb hg).1 (PySem.W.findObj_own hh ha rfl (by rw[hl,hv])) Qq h
theorem zhf{pl:Sem Bool}{Q:Value×List Value->Shared->Prop}(X:K.In s.heap)(I:pQ s.heap x dx C mA)(hg:PySem.W.plainGet K C name=true)
  (hf:PySem.W.findIn K (.ref C) name=some (some (.ref f))) (ht:PySem.W.isFn K (.ref f)=true) (hv:mA name=none) (h:Q (.ref f,[.ref x]) s) :
  wpAny (model prog w) A (getMethod (.ref x) name pl) Q E s:=by
 obtain⟨od,aZ,hl⟩:=I.look;exact PySem.W.method_fn X aZ (Pb hg).1 (Pb hg).2 hf (nR.mp ht) (by show (PySem.W.lookIn name od).map (·.isSome)=some false;rw[hl,hv];rfl) h
theorem zjx{ns:List Str}{Q:Unit->Shared->Prop}(X:K.In s.heap)(I:pQ s.heap x dx C mA)
  (hs:PySem.W.findIn K (.ref C) "__setattr__"=some (some (.builtin "object.__setattr__"))) (hp:PySem.W.plainOver K C=true) (ht:PySem.W.takerIn K C name=some none) (hh:PySem.W.hasDictIn K C=true)
  (hw:PySem.Within mA ns) (hsz:ns.length<=sizeLine)
  (h:∀h',pQ h' x dx C (λy=>if y=name then some v else mA y)->Heap.SameBut dx s.heap h'->Q () {s with heap:=h',toks:=s.toks+2}) :
  wpAny (model prog w) A (setAttr (.ref x) name v) Q E s:=by
 obtain⟨od,aZ,hl⟩:=I.look;refine PySem.W.set_plain X aZ hs (PySem.W.osa_open (s:={s with toks:=s.toks+1}) (r:=none) X aZ hp ht λb=>?_);obtain⟨cd,hc,Ba⟩:=PySem.W.any_some hh;have hx:s.heap.get? x=some ⟨.ref C,some dx,.plain,#[]⟩:=I.obj;refine aA (aP (aA (aA (wpAny_loadPart hx (aA (PySem.W.Looks.here (s:={s with toks:=s.toks+1}) (PySem.W.looks_clsIn X hc) ?_))))));rw[Ba];refine aP (a:=some dx) (aA (aP (aA ?_)));refine wpAny_nsSet1 (s:={s with toks:=s.toks+1}) I.ns λh' WK ux=>?_;obtain⟨oD,esD,epD,hoD,hdD,hcD⟩:=WK.count (PySem.Within.cons name v hw);refine aA (wpAny_lookBehind hoD (by rw[hdD];exact pastItsLine_dict (jQ hcD (by rw[gW];lia))) ?_);exact aP (h _ ⟨(ux.2 _ (Ne.symm I.ne)).trans I.obj,WK,I.ne⟩ ux)
theorem zhM{R:Result->Shared->Prop}{vs:List Value}{kw:List (Str×Value)}(X:K.In s.heap)(hm:PySem.W.makesIn K C=true)
  (hi:PySem.W.findIn K (.ref C) "__init__"=some (some (.ref f))) (hf:PySem.W.typeIn K (.ref f)=some (.type "function"))
  (h:codeAny (model prog w) (A.under (.builtin "type.__call__" ⟨.ref C::vs,kw⟩)) (.call (.ref f) ⟨.ref (s.heap.objs.size+1)::vs,kw⟩) (PySem.W.InitBack (s.heap.objs.size+1) R)
   {s with heap:=(s.heap.push PySem.W.emptyDict).push (PySem.W.instObj C s.heap.objs.size)}) :
  codeAny (model prog w) A (.call (.ref C) ⟨vs,kw⟩) R s:=by
 obtain⟨hh,g,d,t,os⟩:=s;exact PySem.W.make_core (PySem.W.makes_of X hm) (PySem.W.looks_findIn X hi) (λself=>PySem.W.bind_fn X self hf) (.inl rfl) h
end
noncomputable def fP(f:Str)(v:V):List (Str×V)->List (Str×V)
 |[]=>[(f,v)]
 |(g,x)::r=>if g=f then (g,v)::r else (g,x)::fP f v r
theorem WL(f g:Str)(v:V):∀fs:List (Str×V),(fP f v fs).lookup g=if g=f then some v else fs.lookup g
 |[]=>by
  show List.lookup g [(f,v)]=_;by_cases h:g=f
  ·have hb:(g==f)=true:=nR.mpr h;simp only[List.lookup,hb,if_pos h]
  ·have hb:(g==f)=false:=Dv.mpr h;simp only[List.lookup,hb,if_neg h]
 |(k,x)::r=>by
  have ih:=WL f g v r;rw[show fP f v ((k,x)::r)=(if k=f then (k,v)::r else (k,x)::fP f v r) from rfl];by_cases hk:k=f
  ·rw[if_pos hk];by_cases h:g=k
   ·have hb:(g==k)=true:=nR.mpr h;simp only[List.lookup,hb,if_pos (h.trans hk)]
   ·have hb:(g==k)=false:=Dv.mpr h;simp only[List.lookup,hb,if_neg (λe:g=f=>h (e.trans hk.symm))]
  ·rw[if_neg hk];by_cases h:g=k
   ·have hb:(g==k)=true:=nR.mpr h;simp only[List.lookup,hb,if_neg (λe:g=f=>hk (h.symm.trans e))]
   ·have hb:(g==k)=false:=Dv.mpr h;simp only[List.lookup,hb];exact ih
theorem Qs(f:Str)(v:V):∀fs:List (Str×V),f∈(fP f v fs).map (·.1)/\∀g,g∈fs.map (·.1)->g∈(fP f v fs).map (·.1)
 |[]=>⟨by simp[fP],λg h=>by simp at h⟩
 |(k,x)::r=>by
  obtain⟨i1,i2⟩:=Qs f v r;rw[show fP f v ((k,x)::r)=(if k=f then (k,v)::r else (k,x)::fP f v r) from rfl];by_cases hk:k=f
  ·rw[if_pos hk];subst hk;exact⟨by simp,λg h=>by simpa using h⟩
  ·rw[if_neg hk];refine⟨?_,λg h=>?_⟩
   ·rw[jk];exact gU _ i1
   ·rw[jk] at h ⊢;rcases jA.mp h with e|e
    ·exact jA.mpr (.inl e)
    ·exact gU _ (i2 g e)
theorem WM(f:Str)(v:V):∀fs:List (Str×V),(fP f v fs).length<=fs.length+1
 |[]=>by simp[fP]
 |(k,x)::r=>by
  have ih:=WM f v r;rw[show fP f v ((k,x)::r)=(if k=f then (k,v)::r else (k,x)::fP f v r) from rfl];by_cases hk:k=f
  ·rw[if_pos hk,gW,gW];lia
  ·rw[if_neg hk,gW,gW];lia
theorem Kag{v:V}{o:Option Value}(r:rP (some v) o):∃u,o=some u/\RelV v u:=by
 cases o with
 |none=>exact(show False from r).elim
 |some u=>exact⟨u,rfl,r⟩
theorem Kaf{o:Option Value}(r:rP none o):o=none:=by
 cases o with
 |none=>rfl
 |some u=>exact(show False from r).elim
theorem zgz{v:V}{u:Value}(r:RelV v u):PySem.W.handedIn u=true:=by
 cases v with
 |non=>cases (show u=Value.none from r);rfl
 |bl b=>cases (show u=Value.bool b from r);rfl
 |int i=>obtain⟨t,e⟩:=(show ∃t,u=Value.int i t from r);cases e;rfl
 |str x=>obtain⟨t,e⟩:=(show ∃t,u=Value.str x t from r);cases e;rfl
 |Aw b=>obtain⟨t,e⟩:=(show ∃t,u=Value.bytes b t from r);cases e;rfl
 |flt b=>obtain⟨t,e⟩:=(show ∃t,u=Value.float b t from r);cases e;rfl
 |ref a=>cases (show u=Value.ref a from r);rfl
 |ty n=>cases (show u=Value.type n from r);rfl
section
variable {P:Program}{w:World}{H H':Hp}{h h':Heap}{a C dx:Addr}{fs fs':List (Str×V)}
theorem Qt(hok:iM P w H h)(e:H a=some (.ins C dx fs)):∃mA,pQ h a dx C mA/\(∀f,rP (fs.lookup f) (mA f))/\PySem.Within mA (fs.map (·.1))/\fs.length<=1000/\H dx=some (.own a):=by
 obtain⟨d,z,ne,ob,mA,n,r,q⟩:=(show bI P w H h a (.ins C dx fs) from hok a _ e);exact⟨mA,⟨ob,n,ne⟩,r,q,z,d⟩
end
structure Cls(K:W.Frag)(C:Addr):Prop where
 pg:PySem.W.plainGet K C Str.empty=true
 hd:PySem.W.hasDictIn K C=true
 po:PySem.W.plainOver K C=true
 sa:PySem.W.findIn K (.ref C) "__setattr__"=some (some (.builtin "object.__setattr__"))
theorem Cls.get{K:W.Frag}{C:Addr}(c:Cls K C)(f:Str):PySem.W.plainGet K C f=true:=c.pg
def gZ(K:W.Frag)(C:Addr)(f:Str):Prop:=PySem.W.findIn K (.ref C) f=some none
theorem gZ.taker{K:W.Frag}{C:Addr}{f:Str}(n:gZ K C f):PySem.W.takerIn K C f=some none:=by
 unfold PySem.W.takerIn;rw[show PySem.W.findIn K (.ref C) f=some none from n];rfl
structure Meth(K:W.Frag)(C:Addr)(m:Str)(f:Addr):Prop where
 at_:PySem.W.findIn K (.ref C) m=some (some (.ref f))
 fn:PySem.W.isFn K (.ref f)=true
 kp:PySem.W.keepIn K (.ref f)=true
section
variable {X:Cx}{ao:List (Addr×Obj)}{Z:St}{H:Hp}{s:Shared}{a C dx:Addr}{fs:List (Str×V)}{f:Str}{v:V}{A:Around}{E:Value->Shared->Prop}
theorem zff{b:Bool}{Q:Value->Shared->Prop}(I:Inv X ao Z H s)(e:H a=some (.ins C dx fs))(c:Cls X.K C)(n:gZ X.K C f)(l:fs.lookup f=some v)
  (h:∀u s',Inv X ao Z H s'->RelV v u->Q u s'):wpAny (model X.prog X.w) A (getAttr (.ref a) f b) Q E s:=by
 obtain⟨mA,O,r,_,_,_⟩:=Qt I.hok e;obtain⟨u,hu,ru⟩:=Kag (v:=v) (o:=mA f) (by rw[<-l];exact r f);exact zjL I.lO O (c.get f) c.hd n hu (zgz ru) (h u _ (I.tok _) ru)
theorem ze9{m:Str}{g:Addr}{pl:Sem Bool}{Q:Value×List Value->Shared->Prop}(I:Inv X ao Z H s)(e:H a=some (.ins C dx fs))(c:Cls X.K C)(k:Meth X.K C m g)(l:fs.lookup m=none)
  (h:Q (.ref g,[.ref a]) s):wpAny (model X.prog X.w) A (getMethod (.ref a) m pl) Q E s:=by
 obtain⟨mA,O,r,_,_,_⟩:=Qt I.hok e;have hn:mA m=none:=Kaf (by rw[<-l];exact r m);exact zhf I.lO O (c.get m) k.at_ k.fn hn h
theorem zfj{y:V}{u:Value}{Q:Unit->Shared->Prop}(I:Inv X ao Z H s)(e:H a=some (.ins C dx fs))(c:Cls X.K C)(n:gZ X.K C f)(hl:fs.length<1000)(ry:RelV y u)
  (h:∀s',Inv X ao Z (upd H a (.ins C dx (fP f y fs))) s'->Q () s'):wpAny (model X.prog X.w) A (setAttr (.ref a) f u) Q E s:=by
 obtain⟨mA,O,r,wi,_,ho⟩:=Qt I.hok e;have hz:(fs.map (·.1)).length<=sizeLine:=by rw[fW,vL];lia
 refine zjx I.lO O c.sa c.po n.taker c.hd wi hz λh' O' sb=>h _ ?_;have hd:∃o,h'.get? dx=some o:=let ⟨o,_,_,e',_⟩:=O'.ns;⟨o,e'⟩;refine I.write (x:=a) (e:=dx) (by rw[e];exact True.intro) (.inr ho) (λb q hb z=>(sb.2 b hb).trans z) hd ?_;refine⟨by rw[bT O.ne];exact ho,?_,O.ne,O'.obj,_,O'.ns,λg=>?_,λg hg=>?_⟩
 ·have:=WM f y fs;lia
 ·show rP ((fP f y fs).lookup g) (if g=f then some u else mA g);rw[WL];by_cases q:g=f
  ·rw[if_pos q,if_pos q];exact ry
  ·rw[if_neg q,if_neg q];exact r g
 ·by_cases q:g=f
  ·rw[q];exact(Qs f y fs).1
  ·refine(Qs f y fs).2 g (wi g λz=>hg ?_);show (if g=f then some u else mA g)=none;rw[if_neg q];exact z
theorem Inv.made(I:Inv X ao Z H s):Inv X ao Z (upd (upd H s.heap.objs.size (.own (s.heap.objs.size+1))) (s.heap.objs.size+1) (.ins C s.heap.objs.size []))
  {s with heap:=(s.heap.push PySem.W.emptyDict).push (PySem.W.instObj C s.heap.objs.size)}:=by
 have e1:(s.heap.push PySem.W.emptyDict).get? s.heap.objs.size=some PySem.W.emptyDict:=eF s.heap rfl;have e2:((s.heap.push PySem.W.emptyDict).push (PySem.W.instObj C s.heap.objs.size)).get? (s.heap.objs.size+1)=some (PySem.W.instObj C s.heap.objs.size):=by
  have:=eF (s.heap.push PySem.W.emptyDict) (o:=PySem.W.instObj C s.heap.objs.size) rfl
  rwa [vK] at this
 have e3:(s.heap.push PySem.W.emptyDict).Ns s.heap.objs.size (λ_=>none):=⟨PySem.W.emptyDict,#[],_,e1,rfl,(λe he=>absurd he Zaa),λ_=>rfl⟩;have I1:=I.laid (a:=s.heap.objs.size) (o:=.own (s.heap.objs.size+1)) (h':=s.heap.push PySem.W.emptyDict) (t':=s.toks) (λb u q=>cD _ q) (cj _) ⟨_,e1⟩;refine I1.laid (a:=s.heap.objs.size+1) (o:=.ins C s.heap.objs.size []) (t':=s.toks) (λb u q=>cD _ q) (Nat.le_of_eq (vK _ _)) ?_;have ne:s.heap.objs.size≠s.heap.objs.size+1:=cY (Gs _);refine⟨by rw[bT ne,iB],rN _,ne,e2,λ_=>none,(Heap.Ns1.of_empty e3).at λo q=>cD _ q,λ_=>True.intro,λy hy=>absurd rfl hy⟩
theorem zj8{prog:Program}{w:World}{env:Env}{e:Expr}{f:Str}{pos:Pos}{s:Shared}{Q:Value->Shared->Prop}(hb:attributeBase e f env (eval e env)=eval e env)
  (h:wpAny (model prog w) A (eval e env) (λo s₁=>wpAny (model prog w) A (getAttr o f true) Q E s₁) E s):wpAny (model prog w) A (eval (.Attribute e f pos) env) Q E s:=
 Attribute_any_ h (by rw[arm_eval_Attribute,hb])
end
noncomputable def Qu(K:W.Frag)(ta:TE)(f:Str):TE:=λZ H Q=>ta Z H λx H1=>∃a C dx fs v,x=.ref a/\H1 a=some (.ins C dx fs)/\Cls K C/\gZ K C f/\fs.lookup f=some v/\Q v H1
noncomputable def Qv(K:W.Frag)(ta tv:TE)(f:Str):TS:=λD Z H=>tv Z H λy H1=>ta Z H1 λx H2=>∃a C dx fs,x=.ref a/\H2 a=some (.ins C dx fs)/\Cls K C/\gZ K C f/\fs.length<1000 /\
 D.nx Z (upd H2 a (.ins C dx (fP f y fs)))
section
variable {X:Cx}{o e value:Expr}{f:Str}{pos pos' tpos:Pos}{ta tv:TE}
theorem zkQ(he:PE X e ta)(hb:attributeBase e f X.env (eval e X.env)=eval e X.env):PE X (.Attribute e f pos) (Qu X.K ta f):=by
 intro ao s Z H Q I h;refine zj8 hb (aQ (he ao s Z H _ I h) λu s1 ⟨x,H1,I1,rx,a,C,dx,fs,v,ex,ea,c,n,l,q⟩=>?_);subst ex;obtain rfl:u=Value.ref a:=rx;exact zff I1 ea c n l λu' s2 I2 ru=>⟨v,H1,I2,ru,q⟩
theorem zkB(ha:PE X o ta)(hv:PE X value tv)(hs:swapsWith value (some (.Attribute o f pos')) pos.line X.env=pure false):PS X (.Assign [.Attribute o f pos'] value pos) (Qv X.K ta tv f):=by
 intro ao s Z H D I h;refine plainObj_wpAny_Assign_Attribute (aQ (hv ao s Z H _ I h) λu s1 hx=>eE hx λy H1 I1 ry q=>aQ (ha ao s1 Z H1 _ I1 q) λov s2 ⟨x,H2,I2,rx,a,C,dx,fs,ex,ea,c,n,l,q2⟩=>?_) hs;subst ex;obtain rfl:ov=Value.ref a:=rx;exact zfj I2 ea c n l ry λs3 I3=>⟨Z,_,I3,q2⟩
end
structure bx(k:Nat)(A:Around):Prop where
 dp:A.depth+3*k+5<recursionLimit
 un:A.units+16*k+200<cLine
 gd:A.guards=some []
theorem bx.deeper{k:Nat}{A:Around}(r:bx (k+1) A)(env:Env):bx k (A.deeper env):=
 ⟨by have:=r.dp;show A.depth+1+3*k+5<_;lia,by have:=r.un;show A.units+3+16*k+200<_;lia,r.gd⟩
theorem zfi{A:Around}{C:Addr}{us:List Value}{kw:List (Str×Value)}:(A.under (.builtin "type.__call__" ⟨.ref C::us,kw⟩)).depth=A.depth+1:=by
 first|rfl|simp[Around.under,Code.weight,Code.isCreation,Code.isGuard,Code.isCaller,Code.frames,Code.isFrame,guardIds]
theorem ze7{A:Around}{C:Addr}{us:List Value}{kw:List (Str×Value)}:(A.under (.builtin "type.__call__" ⟨.ref C::us,kw⟩)).units=A.units+1:=by
 first|rfl|simp[Around.under,Code.cUnits,Code.frames,Code.isFrame]
theorem bx.depth{k:Nat}{A:Around}(r:bx k A):A.depth<recursionLimit:=by have:=r.dp;lia
noncomputable def Hx:TA:=λ_ H Q=>Q [] H
noncomputable def zp(ta:TE)(tr:TA):TA:=λZ H Q=>ta Z H λx H1=>tr Z H1 λxs H2=>Q (x::xs) H2
section
variable {X:Cx}{e:Expr}{es:List Expr}{te:TE}{t:TA}{pos:Pos}
theorem wV:PA X [] Hx:=λ_ _ _ _ H Q I h=>Calls.spliced_nil ⟨[],H,I,.nil,h⟩
theorem rQ(ha:PE X e te)(hr:PA X es t)(hs:starEach (e::es) X.env=(false,eval e X.env)::starEach es X.env:=by rfl):PA X (e::es) (zp te t):=by
 intro pos ao s Z H Q I h;rw[hs];show wpAny _ _ (spliced ((false,eval e X.env)::backTo pos (starEach es X.env))) _ _ s;refine La (aQ (ha ao s Z H _ I h) λu s1 hx=>eE hx λx H1 I1 r1 q1=>?_);exact aQ (hr pos ao s1 Z H1 _ I1 q1) λus s2 hx=>eE hx λxs H2 I2 r2 q2=>⟨x::xs,H2,I2,.cons r1 r2,q2⟩
noncomputable def Qw(t:TA):TE:=λZ H Q=>t Z H λxs H1=>xs.length<=sizeLine/\∀p,H1 p=none->Q (.ref p) (upd H1 p (.tup xs))
noncomputable def Qx(t:TA):TE:=λZ H Q=>t Z H λxs H1=>xs.length<=sizeLine/\∀p,H1 p=none->Q (.ref p) (upd H1 p (.lst xs))
theorem zko{x1}(h:PA X es t):PE X (.Tuple es x1 pos) (Qw t):=by
 intro ao s Z H Q I hq;refine wpAny_Tuple_spliced (aQ (h pos ao s Z H _ I hq) λus s1 ⟨xs,H1,I1,r,z,q⟩=>⟨by rw[<-r.length];exact z,?_⟩);have hf:H1 s1.heap.objs.size=none:=I1.hok.fresh (cj _);refine⟨.ref s1.heap.objs.size,upd H1 s1.heap.objs.size (.tup xs),I1.laid (t':=s1.toks) (λb u e=>cD _ e) (cj _) ?_,rfl,q _ hf⟩;exact⟨z,us,r,⟨_,eF _ rfl,rfl,_,rfl⟩⟩
theorem zmm(h:PA X es t):PE X (.List es pos) (Qx t):=by
 intro ao s Z H Q I hq;refine wpAny_List_spliced (aQ (h pos ao s Z H _ I hq) λus s1 ⟨xs,H1,I1,r,z,q⟩=>⟨by rw[<-r.length];exact z,?_⟩);have hf:H1 s1.heap.objs.size=none:=I1.hok.fresh (cj _);refine⟨.ref s1.heap.objs.size,upd H1 s1.heap.objs.size (.lst xs),I1.laid (t':=s1.toks) (λb u e=>cD _ e) (cj _) ?_,rfl,q _ hf⟩;exact⟨z,us,0,r,eF _ rfl⟩
end
noncomputable abbrev Sp:=List V->Hp->VK->XK->Prop
noncomputable abbrev rR:=List Env->Hp->Shared->XK->Value->Shared->Prop
structure pR(P:Program)(w:World)(K:W.Frag)(mg:Str->Option Value)(base:Heap)(A:Around)(outer:List Env)(s:Shared)(H:Hp):Prop where
 frames:A.frames=some outer
 mod:Mod K mg base
 bs:∀b o,base.get? b=some o->s.heap.get? b=some o/\H b=none
 wK:base.objs.size<=s.heap.objs.size
 jC:s.heap.FunFrames base outer
 zc:(∀b∈frs outer,H b=none)/\Ay K H
 hok:iM P w H s.heap
 bare:AllBare s.gens
def CE(outer:List Env)(P:Program)(w:World)(H:Hp)(s:Shared)(Q:VK)(u:Value)(s':Shared):Prop:=
 ∃v H',s'.os=s.os/\AllBare s'.gens/\Un (frs outer) [] H H' s.heap s'.heap/\iM P w H' s'.heap/\RelV v u/\Q v H'
def CR(CX:rR)(outer:List Env)(P:Program)(w:World)(H:Hp)(s:Shared)(Q:VK)(E:XK)(r:Result)(s':Shared):Prop:=
 match r with
 |.ok (.ret u)=>CE outer P w H s Q u s'
 |.ok _=>False
 |.error e=>CX outer H s E e s'
structure cF(P:Program)(w:World)(K:W.Frag)(mg:Str->Option Value)(base:Heap)(CX:rR)(cm:Bool)(k:Nat)(f:Addr)(fd:FuncData)(ps:List Str)(sp:Sp):Prop where
 len:∀vs H Q E,sp vs H Q E->vs.length=ps.length
 run:∀(A:Around) (outer:List Env) (s:Shared) (H:Hp) (args:Args) (us:List Value) (vs:List V) (Q:VK) (E:XK),(cm=true->A.handled=none)->bx k A->pR P w K mg base A outer s H->BindsTo s fd args (ps.zip us)->Vals vs us->sp vs H Q E->
  codeAny (model P w) A (.call (.ref f) args) (CR CX outer P w H s Q E) s
theorem cF.imp{P:Program}{w:World}{K:W.Frag}{mg:Str->Option Value}{base:Heap}{CX:rR}{cm:Bool}{k:Nat}{f:Addr}{fd:FuncData}{ps:List Str}{sp WQ:Sp}(F:cF P w K mg base CX cm k f fd ps sp)
  (h:∀vs H Q E,WQ vs H Q E->sp vs H Q E):cF P w K mg base CX cm k f fd ps WQ:=
 ⟨λvs H Q E q=>F.len vs H Q E (h _ _ _ _ q),λA outer s H args us vs Q E i_ hr he hb hv hs=>F.run A outer s H args us vs Q E i_ hr he hb hv (h _ _ _ _ hs)⟩
theorem pR.make{P:Program}{w:World}{K:W.Frag}{mg:Str->Option Value}{base:Heap}{A:Around}{outer:List Env}{s:Shared}{H:Hp}(e:pR P w K mg base A outer s H)(C:Addr)(us:List Value)(kw:List (Str×Value)) :
  pR P w K mg base (A.under (.builtin "type.__call__" ⟨.ref C::us,kw⟩)) outer s H:=⟨by first|exact e.frames|(simpa [Around.under,Code.envs,Code.isFrame,pushEnvs] using e.frames),e.mod,e.bs,e.wK,e.jC,e.zc,e.hok,e.bare⟩
section
variable {X:Cx}{ao:List (Addr×Obj)}{Z:St}{H:Hp}{s s':Shared}
theorem Inv.env0(I:Inv X ao Z H s):pR X.prog X.w X.K X.mg X.base X.A X.stack s H:=
 ⟨I.ok.frames,I.ok.mod,I.bs,jQ I.ok.wK I.sz,I.stack,⟨I.mO,I.Az⟩,I.hok,I.bare⟩
theorem Inv.after{Q:VK}{u:Value}(I:Inv X ao Z H s)(h:CE X.stack X.prog X.w H s Q u s'):EP X ao Z Q u s':=by
 obtain⟨v,H',os,bare,un,hok,r,q⟩:=h;obtain⟨hh,g,d,t,os'⟩:=s';obtain rfl:os'=s.os:=os;exact⟨v,H',I.call (h':=hh) (g':=g) (d':=d) (t':=t) (ch:=[]) un hok bare (λb z=>absurd z Zaa),r,q⟩
end
noncomputable def Hy(C:Addr)(m:Str)(sp:Sp)(oh:List V)(E:XK)(ta:TE)(t:TA):TE:=λZ H Q=>ta Z H λx H1=>∃a dx fs,x=.ref a/\H1 a=some (.ins C dx fs)/\fs.lookup m=none /\
 t Z H1 λvs H2=>sp (x::(vs++oh)) H2 Q E
noncomputable def Hz(C:Addr)(sp:Sp)(oh:List V)(E:XK)(t:TA):TE:=λZ H Q=>t Z H λvs H1=>∀x dx,H1 x=none->H1 dx=none->dx≠x->
 sp (.ref x::(vs++oh)) (upd (upd H1 dx (.own x)) x (.ins C dx [])) (λv H2=>v=.non/\Q (.ref x) H2) E
def Binds(K:W.Frag)(fd:FuncData)(ps:List Str)(ds:List Value):Prop:=
 ∀(s:Shared) (us:List Value),K.In s.heap->(us++ds).length=ps.length->BindsTo s fd ⟨us,[]⟩ (ps.zip (us++ds))
theorem Binds.all{K:W.Frag}{fd:FuncData}{ps:List Str}(h:∀us:List Value,us.length=ps.length->bindArgs fd ⟨us,[]⟩=pure (ps.zip us)):Binds K fd ps []:=λs us _ hl=>by
 rw[wA] at hl ⊢;exact .of_eq (h us hl)
def Passes(CX:rR)(X:Cx)(E:XK):Prop:=∀(ao:List (Addr×Obj)) (Z:St) (H:Hp) (s:Shared) (e:Value) (s':Shared),Inv X ao Z H s->CX X.stack H s E e s'->X.xe e s'
section
variable {X:Cx}{CX:rR}{cm:Bool}{k:Nat}{f C:Addr}{fd:FuncData}{ps:List Str}{sp:Sp}{oh:List V}{ds:List Value}{E:XK}{x m:Str}{p pos apos:Pos}{e o:Expr}{es:List Expr}{ta:TE}{t:TA}
theorem zmu{ao:List (Addr×Obj)}{Z:St}{H:Hp}{s:Shared}{Q:VK}{us:List Value}{vs:List V}(F:cF X.prog X.w X.K X.mg X.base CX cm k f fd ps sp)(i_:cm=true->X.aj=true)(hr:bx k X.A)(hb:Binds X.K fd ps ds)(hd:Vals oh ds)(hx:Passes CX X E)
  (I:Inv X ao Z H s) (r:Vals vs us) (h:sp (vs++oh) H Q E):wpAny (model X.prog X.w) X.A (call (.ref f) us) (EP X ao Z Q) X.xe s:=by
 have r2:Vals (vs++oh) (us++ds):=r.append hd;have hl:(us++ds).length=ps.length:=by rw[<-r2.length];exact F.len _ _ _ _ h
 refine DY (yS (F.run X.A X.stack s H ⟨us,[]⟩ (us++ds) (vs++oh) Q E (λz=>I.ok.hd (i_ z)) hr I.env0 (hb s us I.lO hl) r2 h) λr s' hq=>?_);cases r with
 |error e=>exact hx ao Z H s e s' I hq
 |ok fl=>
  cases fl with
  |ret u=>exact I.after hq
  |next=>exact False.elim hq
  |brk=>exact False.elim hq
  |cont=>exact False.elim hq
theorem zjk{pl:Sem Bool}(he:PE X o ta)(c:Cls X.K C)(hm:Meth X.K C m f)(F:cF X.prog X.w X.K X.mg X.base CX cm k f fd ps sp)(i_:cm=true->X.aj=true)(hr:bx k X.A)(hb:Binds X.K fd ps ds)(hd:Vals oh ds)(hx:Passes CX X E)(ha:PA X (e::es) t)
  (Bg:starEach (e::es) X.env=(false,eval e X.env)::starEach es X.env:=by rfl) (cT:(backTo pos (starEach es X.env)).any (·.1)=false:=by rfl)
  (ht:eval (.Call (.Attribute o m apos) (e::es) [] pos) X.env=(do
   let ov <-eval o X.env
   standAt apos.atName
   let (f,first) <-holding [ov] (getMethod ov m pl)
   callWith pos f first (backTo pos (starEach (e::es) X.env)) (backToKw pos (keywordEach [] X.env))):=by rfl) :
  PE X (.Call (.Attribute o m apos) (e::es) [] pos) (Hy C m sp oh E ta t):=by
 intro ao s Z H Q I h;refine PySem.W.methodCall_KW (pl:=pl) (aQ (he ao s Z H _ I h) λu s1 ⟨x,H1,I1,rx,a,dx,fs,ex,ea,l,q⟩=>?_) ht;subst ex;obtain rfl:u=Value.ref a:=rx;refine ze9 I1 ea c hm l ?_;refine Pg (first:=[.ref a]) (h₀:=X.base) I.ok.mod.wF hm.kp (aQ (ha pos ao s1 Z H1 _ I1 q) λus s2 ⟨vs,H2,I2,r,q2⟩=>⟨I2.lO,?_⟩) Bg cT;exact zmu (us:=.ref a::us) (vs:=.ref a::vs) F i_ hr hb hd hx I2 (.cons rfl r) q2
structure Mk(K:W.Frag)(C f:Addr):Prop where
 makes:PySem.W.makesIn K C=true
 init:PySem.W.findIn K (.ref C) "__init__"=some (some (.ref f))
 fn:PySem.W.isFn K (.ref f)=true
 kp:PySem.W.keepIn K (.ref C)=true
theorem zgZ{ao:List (Addr×Obj)}{Z:St}{H:Hp}{s:Shared}{Q:VK}{us:List Value}{vs:List V}(M:Mk X.K C f)(F:cF X.prog X.w X.K X.mg X.base CX cm k f fd ps sp)(i_:cm=true->X.aj=true)(hr:∀us,bx k (X.A.under (.builtin "type.__call__" ⟨.ref C::us,[]⟩)))(hb:Binds X.K fd ps ds)(hd:Vals oh ds)
  (hx:Passes CX X E) (I:Inv X ao Z H s) (r:Vals vs us)
  (h:∀x dx,H x=none->H dx=none->dx≠x->sp (.ref x::(vs++oh)) (upd (upd H dx (.own x)) x (.ins C dx [])) (λv H2=>v=.non/\Q (.ref x) H2) E) :
  wpAny (model X.prog X.w) X.A (call (.ref C) us) (EP X ao Z Q) X.xe s:=by
 have hq:=h (s.heap.objs.size+1) s.heap.objs.size (I.hok.fresh (wC _)) (I.hok.fresh (cj _)) (cY (Gs _));have I2:=Inv.made (C:=C) I;have r2:Vals (V.ref (s.heap.objs.size+1)::(vs++oh)) (Value.ref (s.heap.objs.size+1)::(us++ds)):=.cons rfl (r.append hd);have hl:(Value.ref (s.heap.objs.size+1)::us++ds).length=ps.length:=by
  have e:=r2.length;rw[F.len _ _ _ _ hq] at e;exact e.symm
 refine DY (zhM (f:=f) I.lO M.makes M.init (nR.mp M.fn) (yS (F.run _ X.stack _ _ ⟨Value.ref (s.heap.objs.size+1)::us,[]⟩ (Value.ref (s.heap.objs.size+1)::(us++ds)) _ _ E (λz=>I.ok.hd (i_ z)) (hr us)
  (I2.env0.make C us []) (hb _ (Value.ref (s.heap.objs.size+1)::us) I2.lO hl) r2 hq) λr s' HB=>?_))
 cases r with
 |error e=>exact hx ao Z _ _ e s' I2 HB
 |ok fl=>
  cases fl with
  |ret u=>
   obtain⟨v,H',I3,rv,ev,q3⟩:=I2.after HB;subst ev;exact⟨rv,⟨V.ref (s.heap.objs.size+1),H',I3,rfl,q3⟩⟩
  |next=>exact False.elim HB
  |brk=>exact False.elim HB
  |cont=>exact False.elim HB
theorem zjS(M:Mk X.K C f)(F:cF X.prog X.w X.K X.mg X.base CX cm k f fd ps sp)(i_:cm=true->X.aj=true)(hr:∀us,bx k (X.A.under (.builtin "type.__call__" ⟨.ref C::us,[]⟩)))(hg:Gl X x)(hm:X.mg x=some (.ref C))(hb:Binds X.K fd ps ds)(hd:Vals oh ds)(hx:Passes CX X E)
  (ha:PA X (e::es) t) (rT:(x==("__debug__" : Str))=false:=by decide) (he:starEach (e::es) X.env=(false,eval e X.env)::starEach es X.env:=by rfl) (cT:(backTo pos (starEach es X.env)).any (·.1)=false:=by rfl) :
  PE X (.Call (.Name x p) (e::es) [] pos) (Hz C sp oh E t):=by
 intro ao s Z H Q I h;refine Ag (P_ I hg hm ?_ rT);refine Pg (h₀:=X.base) I.ok.mod.wF M.kp (aQ (ha pos ao s Z H _ I h) λus s1 ⟨vs,H1,I1,r,q⟩=>⟨I1.lO,?_⟩) he cT;exact zgZ M F i_ hr hb hd hx I1 r q
end
structure bW(N P:List Str)(sc:Scope):Prop where
 kind:sc.kind=.function
 co:sc.isCoroutine=false
 gen:sc.isGenerator=false
 nd:N.Nodup
 pre:N.take P.length=P
 par:∀x∈P,sc.names.lookup x=some .local\/sc.names.lookup x=some .cell
 Bp:∀y∈sc.names,y.2≠.free
theorem WR{kindOf:Str->Option NameKind}{x:Str}:∀{binds:List (Str×Value)} {m:Str->Option Value},(∀v,(x,v)∉binds)->bindL kindOf binds m x=m x
 |[],_,_=>rfl
 |(n,v)::r,m,h=>by
  unfold bindL;rw[WR λw hw=>h w (gU _ hw)]
  split
  ·have:x≠n:=by rintro rfl;exact h v lg
   simp[this]
  ·rfl
theorem WT{kindOf:Str->Option NameKind}{x:Str}:∀{binds:List (Str×Value)} {m:Str->Option Value},(∀v,(x,v)∉binds)->bindC kindOf binds m x=m x
 |[],_,_=>rfl
 |(n,v)::r,m,h=>by
  unfold bindC;rw[WT λw hw=>h w (gU _ hw)]
  split
  ·rfl
  ·have:x≠n:=by rintro rfl;exact h v lg
   simp[this]
theorem WW{kindOf:Str->Option NameKind}{x:Str}{v:Value}:∀{P:List Str} {vs:List Value} {i:Nat} {m:Str->Option Value},P.Nodup->P[i]?=some x->vs[i]?=some v->kindOf x=some .local->
  bindL kindOf (P.zip vs) m x=some v
 |[],_,_,_,_,h,_,_=>by simp at h
 |_::_,[],_,_,_,_,h,_=>by simp at h
 |p::P,w::vs,0,m,nd,h1,h2,hk=>by
  simp at h1 h2;subst h1;subst h2;show bindL kindOf ((p,w)::P.zip vs) m p=_;unfold bindL;rw[WR λv hv=>(wB.mp nd).1 (List.of_mem_zip hv).1,if_pos hk];simp
 |p::P,w::vs,i+1,m,nd,h1,h2,hk=>by
  show bindL kindOf ((p,w)::P.zip vs) m x=_;unfold bindL;exact WW (i:=i) (wB.mp nd).2 (by simpa using h1) (by simpa using h2) hk
theorem WX{kindOf:Str->Option NameKind}{x:Str}{v:Value}:∀{P:List Str} {vs:List Value} {i:Nat} {m:Str->Option Value},P.Nodup->P[i]?=some x->vs[i]?=some v->kindOf x≠some .local->
  bindC kindOf (P.zip vs) m x=some v
 |[],_,_,_,_,h,_,_=>by simp at h
 |_::_,[],_,_,_,_,h,_=>by simp at h
 |p::P,w::vs,0,m,nd,h1,h2,hk=>by
  simp at h1 h2;subst h1;subst h2;show bindC kindOf ((p,w)::P.zip vs) m p=_;unfold bindC;rw[WT λv hv=>(wB.mp nd).1 (List.of_mem_zip hv).1,if_neg hk];simp
 |p::P,w::vs,i+1,m,nd,h1,h2,hk=>by
  show bindC kindOf ((p,w)::P.zip vs) m x=_;unfold bindC;exact WX (i:=i) (wB.mp nd).2 (by simpa using h1) (by simpa using h2) hk
noncomputable def start(N:List Str)(vs:List V):St:=vs.map some++List.replicate (N.length-vs.length) none
noncomputable def dH(CX:rR)(P:Program)(w:World)(K:W.Frag)(mg:Str->Option Value)(base:Heap)(N:List Str)(qual:Str)(scope:Scope)(f:Addr)(cd:Value)(A:Around)(outer:List Env)(s:Shared)(H:Hp)(E:XK)(cm:Bool):Cx where
 prog:=P
 w:=w
 K:=K
 mg:=mg
 base:=base
 A:=A.deeper (envOfC qual scope s.heap.objs.size f cd)
 N:=N
 s₀:=s
 H₀:=H
 env:=envOfC qual scope s.heap.objs.size f cd
 outer:=outer
 stack:=envOfC qual scope s.heap.objs.size f cd::outer
 ex:=[]
 aj:=cm
 fn:=λ_=>true
 pn:=[]
 xe:=λe s'=>wpAny (model P w) (A.deeper (envOfC qual scope s.heap.objs.size f cd)) (leaving (envOfC qual scope s.heap.objs.size f cd) e) (λ_ s''=>CX outer H s E e s'') (λe' s''=>CX outer H s E e' s'') s'
theorem WY{sc:Scope}{n:Nat}{x:Str}(h:sc.names.lookup x=some .cell):∃c,(cellsFrom n sc.names []).lookup x=some c:=by
 have q:=K8 sc.names n [] (.inl h);exact Oz.mp q
theorem W0{CX:rR}{P:Program}{w:World}{K:W.Frag}{mg:Str->Option Value}{base:Heap}{N ps:List Str}{qual:Str}{scope:Scope}{f:Addr}{cd:Value}{A:Around}{outer:List Env}{s s1:Shared}{H:Hp}{E:XK}{us:List Value}{vs:List V}
  {cm:Bool} (S:bW N ps scope) (hd:cm=true->A.handled=none) (e0:pR P w K mg base A outer s H) (hl:vs.length=ps.length) (r:Vals vs us)
  (x:InCallC s s.heap.objs.size (bindL (envOfC qual scope s.heap.objs.size f cd).kindOf (ps.zip us) λ_=>none) (cellsFrom (s.heap.objs.size+1) scope.names []) (bindC (envOfC qual scope s.heap.objs.size f cd).kindOf (ps.zip us) λ_=>none) s1) :
  Inv (dH CX P w K mg base N qual scope f cd A outer s H E cm) [] (start N vs) H s1:=by
 have cT:ps.length<=N.length:=by have:=lq List.length S.pre;rw[Ah] at this;lia
 obtain⟨h1,tk,rfl,hk⟩:=x.done;have HD:∀b:Addr,b∉(dH CX P w K mg base N qual scope f cd A outer s H E cm).ex:=λb z=>absurd (show b∈([]:List Addr) from z) Zaa;refine⟨⟨e0.mod,S.kind,rfl,rfl,cj _,λy z c h1 h2=>?_,λy hy=>?_,λy c _ h=>?_,hd,Around.frames_deeper e0.frames,.inr ⟨rfl,rfl⟩,λb z=>absurd z (HD b),e0.bs,e0.wK,λb _ _=>HD b,λb z=>absurd z (HD b),e0.jC,e0.zc⟩,
  rfl,e0.bare,Un.kept hk,⟨_,x.toInCall.ns,λi y v h1 h2 h3=>?_⟩,λy c h=>⟨_,x.cell y c h⟩,e0.hok.fresh (cj _),λy c h=>?_,λp hp=>absurd (show p∈([]:List (Addr×Obj)) from hp) Zaa,e0.hok.kept hk,?_⟩
 ·exact name_of_addr x.apart (Dw h1) (Dw h2)
 ·have hy:scope.names.lookup y=some .cell\/scope.names.lookup y=some .free:=hy;rcases hy with hy|hy
  ·exact WY hy
  ·exact absurd rfl (S.Bp _ (Dw hy))
 ·exact rM (x.above y c (Dw h))
 ·have hi:i<vs.length:=by
   unfold start at h2;by_cases hi:i<vs.length
   ·exact hi
   ·rw[pF (by simpa using hi)] at h2;rw[Ad] at h2;split at h2<;>cases h2
  have ha:vs[i]?=some v:=by
   unfold start at h2;rw[pq (by simpa using hi),jP] at h2;cases e:vs[i]? with
   |none=>rw[e] at h2;cases h2
   |some a=>rw[e] at h2;cases h2;rfl
  obtain⟨u,hu,rv⟩:=r.get ha;have hp:ps[i]?=some y:=by
   rw[<-S.pre,List.getElem?_take_of_lt gV];exact h1
  have W2:ps.Nodup:=by rw[<-S.pre];exact S.nd.sublist (List.take_sublist _ _)
  refine⟨u,rv,?_⟩;rcases S.par y (gJ hp) with k|k
  ·exact .inl ⟨k,WW W2 hp hu k⟩
  ·obtain⟨c,e⟩:=WY (n:=s.heap.objs.size+1) k;refine .inr ⟨.inl k,c,e,?_⟩;have q:=x.cell y c e;rw[WX W2 hp hu (by show scope.names.lookup y≠_;rw[k];decide)] at q;exact q
 ·exact e0.hok.fresh (rM (x.above y c (Dw h)))
 ·unfold start;show _=N.length;rw[pA,fW,Gg]
  lia
theorem Qy{CX:rR}{cm:Bool}{P:Program}{w:World}{K:W.Frag}{mg:Str->Option Value}{base:Heap}{k:Nat}{f:Addr}{name qual:Str}{params:Arguments}{body:List Stmt}{scope:Scope}{dV kV doc pm cdv ct oc:Value}{an od:Option Addr}
  {osl:Array (Option Value)} {N ps:List Str} {sp:Sp} (lk:K.lookup f=some ⟨oc,od,.func (PySem.W.fnOf name qual params body scope dV kV doc pm an cdv ct),osl⟩) (iC:PySem.W.codeIn K cdv qual=true) (S:bW N ps scope)
  (len:∀vs H Q E,sp vs H Q E->vs.length=ps.length)
  (HF:∀(A:Around) (outer:List Env) (s:Shared) (H:Hp) (vs:List V) (Q:VK) (E:XK),bx (k+1) A->sp vs H Q E->
   ∃t,pO (dH CX P w K mg base N qual scope f cdv A outer s H E cm) body t/\t {nx:=λ_ H'=>Q .non H',rt:=Q} (start N vs) H) :
  cF P w K mg base CX cm (k+1) f (PySem.W.fnOf name qual params body scope dV kV doc pm an cdv ct) ps sp:=by
 refine⟨len,λA outer s H args us vs Q E i_ hr e0 hb r Ml=>?_⟩;have hl:=len _ _ _ _ Ml;have KX:K.In s.heap:=e0.mod.wF.keeps λb o e=>(e0.bs b o e).1;have lim:s.heap.NoLimit:=e0.mod.nolimit.keeps λb o e=>(e0.bs b o e).1;have uy:∀y∈ps.zip us,scope.names.lookup y.1=some .local\/(scope.names.lookup y.1=some .cell/\((cellsFrom (s.heap.objs.size+1) scope.names []).lookup y.1).isSome=true):=λ⟨n,v⟩ hy=>by
  rcases S.par n (List.of_mem_zip hy).1 with q|q
  ·exact .inl q
  ·exact .inr ⟨q,K8 _ _ _ (.inl q)⟩
 refine codeAny_call_function hr.depth (KX _ _ lk) rfl S.co S.gen rfl (PySem.W.codeRec_of KX iC) (hb _ _ _ _ ?_);refine wpAny_newFunctionEnv_cells S.kind uy λenv he s1 x=>?_;subst he;refine⟨lim.keeps x.toInCall.keep,codeAny_func ?_⟩;obtain⟨t,ht,hq⟩:=HF A outer s H vs Q E hr Ml;have I:Inv (dH CX P w K mg base N qual scope f cdv A outer s H E cm) [] (start N vs) H s1:=W0 S i_ e0 hl r x;refine f9 (ht [] s1 (start N vs) H _ I hq) (λfl s' hs=>?_) λe s' hs=>hs;have fin:∀{Z':St} {H':Hp} {v:V} {u:Value},Inv (dH CX P w K mg base N qual scope f cdv A outer s H E cm) [] Z' H' s'->RelV v u->Q v H'->CE outer P w H s Q u s':=
  λ{Z' H' v u} aZ rv q=>⟨v,H',aZ.os,aZ.bare,aZ.base,aZ.hok,rv,q⟩
 cases fl with
 |ret u=>
  obtain⟨v,Z',H',aZ,rv,q⟩:=hs;exact fin aZ rv q
 |next=>
  obtain⟨Z',H',aZ,q⟩:=hs;exact fin (v:=V.non) (u:=Value.none) aZ rfl q
 |brk=>
  obtain⟨_,_,_,q⟩:=hs;exact False.elim q
 |cont=>
  obtain⟨_,_,_,q⟩:=hs;exact False.elim q
section
variable {X:Cx}{x:Str}{p pos:Pos}{e:Expr}{es:List Expr}{t:TA}{id T:String}{r:List V->Hp->VK->Prop}
noncomputable def Qz(r:List V->Hp->VK->Prop)(t:TA):TE:=λZ H Q=>t Z H λvs H1=>r vs H1 Q
theorem W3(hc:cZ X (.builtin id) r)(hg:Gl X x)(hm:X.mg x=none)(hv:bootBuiltins x=some (.builtin id))(ha:PA X (e::es) t)(hn:x≠"__name__":=by decide)(rT:(x==("__debug__" : Str))=false:=by decide)
  (he:starEach (e::es) X.env=(false,eval e X.env)::starEach es X.env:=by rfl) (cT:(backTo pos (starEach es X.env)).any (·.1)=false:=by rfl):PE X (.Call (.Name x p) (e::es) [] pos) (Qz r t):=by
 intro ao s Z H Q I h;refine Ag (vP I hg hm hv ?_ hn rT);exact PyProof.Rows.callWith_builtin1 (aQ (ha pos ao s Z H _ I h) λus s1 hx=>eE hx λvs H1 I1 r1 q1=>hc ao s1 Z H1 vs us Q I1 r1 q1) he cT
theorem zgN(hc:cZ X (.type T) r)(hg:Gl X x)(hm:X.mg x=none)(hv:bootBuiltins x=some (.type T))(ha:PA X (e::es) t)(hn:x≠"__name__":=by decide)(rT:(x==("__debug__" : Str))=false:=by decide)
  (he:starEach (e::es) X.env=(false,eval e X.env)::starEach es X.env:=by rfl) (cT:(backTo pos (starEach es X.env)).any (·.1)=false:=by rfl):PE X (.Call (.Name x p) (e::es) [] pos) (Qz r t):=by
 intro ao s Z H Q I h;refine Ag (vP I hg hm hv ?_ hn rT);exact Ac (aQ (ha pos ao s Z H _ I h) λus s1 hx=>eE hx λvs H1 I1 r1 q1=>hc ao s1 Z H1 vs us Q I1 r1 q1) he cT
end
end L2
namespace HT
open PySem PyProof.Rows
noncomputable def lexLt:List Int->List Int->Bool
 |[],[]=>false
 |[],_::_=>true
 |_::_,[]=>false
 |x::xs,y::ys=>if x=y then lexLt xs ys else decide (x<y)
theorem jW(x y:Int)(xs ys:List Int):lexLt (x::xs) (y::ys)=if x=y then lexLt xs ys else decide (x<y):=rfl
theorem zc3:lexLt [] []=false:=rfl
theorem zci(y:Int)(ys:List Int):lexLt [] (y::ys)=true:=rfl
theorem zce(x:Int)(xs:List Int):lexLt (x::xs) []=false:=rfl
theorem zhu(A:Around)(s:Shared)(a:Int)(t:Tok)(c:Int)(u:Tok):∃e,SeqAt.EqAt A s (.int a t) (.int c u) e/\(e=true↔a=c):=
 ⟨(a==c),SeqAt.EqAt.int_int a t c u,by simp⟩
theorem zhL(A:Around)(s:Shared)(a:Int)(t:Tok)(c:Int)(u:Tok)(prog:Program)(w:World)(E:Value->Shared->Prop)(Q:Value->Shared->Prop)(h:Q (.bool (decide (a<c))) s) :
  wpAny (model prog w) A (richCompare .Lt (.int a t) (.int c u)) Q E s:=
 (PyProof.Rows.lt_int h:wpAny (model prog w) A (compareOp .Lt (.int a t) (.int c u)) Q E s)
section
open PySem.SeqAt
open PySem.AutoSeq1 (wpAny_loadPart')
open PySem.MeetsSeq PySem.MeetsSeq2 PySem.MeetsSeq3
theorem zcX(l b:Addr)(items items2:Array Value)(n n2:Nat)(dd dd2:Option Addr)(sl sl2:Array (Option Value))(ns ms:List Int)(hi:IntsAre items.toList ns)(hj:IntsAre items2.toList ms) :
  Meets (Builtin.«tuple.__lt__» ⟨[.ref l,.ref b],[]⟩)
   (λ_ R s=>s.heap.get? l=some {cls:=.type "tuple",dict:=dd,data:=.seq items n,slots:=sl}/\s.heap.get? b=some {cls:=.type "tuple",dict:=dd2,data:=.seq items2 n2,slots:=sl2} /\
    R (.ok (.ret (.bool (lexLt ns ms)))) s):=
 .of_wp λprog w A R s h=>by
  obtain⟨hp,g,d,tk,os⟩:=s;obtain⟨hl,hb,h⟩:=h;have f2:=AutoSeq1.sub_tuple_tuple;have z1:items.size=ns.length:=by rw[<-hi.length];simp
  have z2:items2.size=ms.length:=by rw[<-hj.length];simp
  wp_walk using wpAny_loadPart' hl,wpAny_loadPart' hb,wpAny_forIn_list _ (λrest b s'=>b.1=none/\s'=⟨hp,g,d,tk,os⟩/\∃(vs ws:List Value) (ns' En:List Int),rest=vs.zip ws /\
   IntsAre vs ns'/\IntsAre ws En/\ns'.length+items2.size=En.length+items.size/\R (.ok (.ret (.bool (lexLt ns' En)))) ⟨hp,g,d,tk,os⟩) _
  case turn=>
   rintro⟨y,x⟩ rest b s' ⟨hb',rfl,vs,ws,ns',En,hz,QB,Mp,hlen,hR⟩;cases QB with
   |nil=>rw[List.zip_nil_left] at hz;cases hz
   |cons a t QC=>
    cases Mp with
    |nil=>rw[List.zip_nil_right] at hz;cases hz
    |cons c u QD=>
     rw[Gp] at hz;injection hz with hyx HJ;injection hyx with hy hx;subst hy hx;rw[jW] at hR;simp only[gW] at hlen;obtain⟨e,he,HN⟩:=zhu A.in1 ⟨hp,g,d,tk,os⟩ a t c u;refine aA (he prog w _ _ ?_);cases e with
     |true=>
      rw[if_pos (HN.mp rfl)] at hR
      wp_walk
      exact⟨rfl,rfl,_,_,_,_,HJ,QC,QD,by lia,hR⟩
     |false=>
      rw[if_neg (λq=>absurd (HN.mpr q) Gm)] at hR;have hri:=zhL A.in1 ⟨hp,g,d,tk,os⟩ a t c u prog w
      wp_walk using hri
      exact⟨_,rfl,by simpa using hR⟩
  case fin=>
   rintro⟨b1,b2⟩ s' ⟨hb',rfl,vs,ws,ns',En,hz,QB,Mp,hlen,hR⟩;simp only at hb';subst hb';have hv:lexLt ns' En=decide (items.size<items2.size):=by
    cases QB with
    |nil=>
     cases Mp with
     |nil=>
      simp only[DQ] at hlen;rw[zc3];exact(tY gV).symm
     |cons c u hw=>
      simp only[DQ,gW] at hlen;rw[zci];exact(nH gV).symm
    |cons a t hv=>
     cases Mp with
     |nil=>
      simp only[DQ,gW] at hlen;rw[zce];exact(tY gV).symm
     |cons c u hw=>
      rw[Gp] at hz;cases hz
   rw[hv] at hR
   wp_walk
   exact⟨_,rfl,by simpa [Builtin.Tuple.tupleCompareSizes] using hR⟩
  case h=>
   exact⟨rfl,rfl,items.toList,items2.toList,ns,ms,rfl,hi,hj,by lia,h⟩
end
section
variable {prog:Program}{w:World}{A:Around}{E:Value->Shared->Prop}{s:Shared}
theorem jX{l b:Addr}{items items2:Array Value}{ns ms:List Int}{Q:Value->Shared->Prop}(hl:IsTup s.heap l items)(hb:IsTup s.heap b items2)(hi:IntsAre items.toList ns)(hj:IntsAre items2.toList ms)
  (hu:A.units<cLine) (h:Q (.bool (lexLt ns ms)) s):wpAny (model prog w) A (compareOp .Lt (.ref l) (.ref b)) Q E s:=by
 obtain⟨⟨cls,dd,data,sl⟩,ho,hc,n,hd⟩:=id hl;obtain⟨⟨cls2,dd2,data2,sl2⟩,pU,nJ,n2,hd2⟩:=id hb;simp only at hc hd nJ hd2;subst hc hd nJ hd2;exact richCompare_meets_room (op:=.Lt) ⟨_,ho,rfl⟩ ⟨_,pU,rfl⟩ PySem.F.slot_tuple_lt PySem.F.entry_tuple_lt (PySem.F.args_tuple_lt_2 _ _) (zcX l b items items2 n n2 dd dd2 sl sl2 ns ms hi hj)
  ⟨ho,pU,show Value.bool (lexLt ns ms)≠Value.notImplemented/\Q (.bool (lexLt ns ms)) s from ⟨(λx=>nomatch x),h⟩⟩ hu
theorem wW{t b:Addr}{vs ws:List Value}{Q:Value->Shared->Prop}(ht:IsTup s.heap t vs.toArray)(hb:IsTup s.heap b ws.toArray)(hv:vs≠[])
  (h1:ws=[]->Q (.ref t) s) (h2:ws≠[]->Q (.ref s.heap.objs.size) {s with heap:=s.heap.push {cls:=.type "tuple",data:=.seq (vs++ws).toArray}})
  (hsz:vs.length+ws.length<=sizeLine):wpAny (model prog w) A (binaryOp .Add (.ref t) (.ref b)) Q E s:=by
 obtain⟨⟨cls,dd,data,sl⟩,ho,hc,n,hd⟩:=id ht;obtain⟨⟨cls2,dd2,data2,sl2⟩,pU,nJ,n2,hd2⟩:=id hb;simp only at hc hd nJ hd2;subst hc hd nJ hd2;have e:vs.toArray++ws.toArray=(vs++ws).toArray:=by simp
 by_cases hw:ws=[]
 ·exact concat_meets ⟨_,ho,rfl⟩ ⟨_,pU,rfl⟩ noFill_tuple_add seq_tuple_add O4 O1 (OD _ _)
   (tuple_addW1 t b vs.toArray ws.toArray n n2 dd dd2 sl sl2 (by simpa using hv) (by simp[hw])) ⟨ho,pU,h1 hw⟩
 ·refine concat_meets ⟨_,ho,rfl⟩ ⟨_,pU,rfl⟩ noFill_tuple_add seq_tuple_add O4 O1 (OD _ _)
   (tuple_addW2 t b vs.toArray ws.toArray n n2 dd dd2 sl sl2 (by simpa using hv) (by simpa using hw) (by rw[fH,fH];exact hsz)) ⟨ho,pU,?_⟩
  rw[e];exact h2 hw
noncomputable def bY(n d:Nat):Option Int->Nat
 |none=>d
 |some v=>if v<0 then (v+(n:Int)).toNat else min v.toNat n
theorem uz(n d:Nat):bY n d none=d:=rfl
theorem wX(n d k:Nat):bY n d (some (k:Int))=min k n:=by
 show (if (k:Int)<0 then ((k:Int)+(n:Int)).toNat else min (k:Int).toNat n)=min k n;rw[if_neg gV,rJ]
theorem zmv(n d:Nat)(hd:d<=n)(o:Option Int):bY n d o<=n:=by
 cases o with
 |none=>exact hd
 |some v=>
  show (if v<0 then (v+(n:Int)).toNat else min v.toNat n)<=n;by_cases hv:v<0
  ·rw[if_pos hv];lia
  ·rw[if_neg hv];exact Nat.min_le_right _ _
theorem W4(v:Int)(n d:Nat):(if v<0 then max (v+(n:Int)) 0 else min v (n:Int))=((bY n d (some v):Nat):Int):=by
 show (if v<0 then max (v+(n:Int)) 0 else min v (n:Int))=(((if v<0 then (v+(n:Int)).toNat else min v.toNat n):Nat):Int);by_cases hv:v<0
 ·simp only[if_pos hv];lia
 ·simp only[if_neg hv];lia
theorem zfb(lo hi:Option Int)(n:Nat):Builtin.Slice.sliceAdjust lo hi 1 (n:Int)=(((bY n 0 lo:Nat):Int),((bY n n hi:Nat):Int)):=by
 have h1:¬((1:Int)<0):=by lia
 unfold Builtin.Slice.sliceAdjust;simp only[h1,nU];refine Prod.ext ?_ ?_
 ·cases lo with
  |none=>rfl
  |some v=>exact W4 v n 0
 ·cases hi with
  |none=>rfl
  |some v=>exact W4 v n n
theorem zft(i j:Nat):Builtin.Slice.slicePlaces (i:Int) (j:Int) 1=j-i:=by
 unfold Builtin.Slice.slicePlaces;have h1:(1:Int)>0:=by lia
 simp only[h1,if_true,Int.ediv_one]
 split<;>lia
theorem W5{v:Value}{o:Option Int}{Q:Option Int->Shared->Prop}(p:IsPart v o)(h:Q o s):wpAny (model prog w) A (Builtin.Slice.slicePartIndex v) Q E s:=by
 cases p with
 |none=>exact slicePart_none h
 |int i t=>exact slicePart_int h
theorem W6{sl:Addr}{vl vu:Value}{lo hi:Option Int}{n:Nat}{Q:Int×Int×Nat->Shared->Prop}(hs:s.heap.IsSliceOf sl vl vu .none)(pl:IsPart vl lo)(pu:IsPart vu hi)
  (h:Q (((bY n 0 lo:Nat):Int),1,bY n n hi-bY n 0 lo) s):wpAny (model prog w) A (Builtin.Slice.sliceApplied (.ref sl) (pure (n:Int))) Q E s:=by
 obtain⟨os,Bq,Mq,HS⟩:=id hs;unfold Builtin.Slice.sliceApplied Builtin.Slice.sliceFields;refine aA (aA (mH Bq HS (x:=vl) rfl (aA (mH Bq HS (x:=vu) rfl (aA (mH Bq HS (x:=.none) rfl (aP ?_)))))));refine aA (slicePart_none ?_);show wpAny _ _ (if ((1:Int)==0)=true then _ else _) _ _ s;rw[if_neg Ro];refine aA (W5 pl (aA (W5 pu (aA (aP ?_)))));show wpAny _ _ (match Builtin.Slice.sliceAdjust lo hi 1 (n:Int) with|(lo,hi)=>pure (lo,(1:Int),Builtin.Slice.slicePlaces lo hi 1)) _ _ s;rw[zfb lo hi n];show wpAny _ _ (pure (((bY n 0 lo:Nat):Int),(1:Int),Builtin.Slice.slicePlaces ((bY n 0 lo:Nat):Int) ((bY n n hi:Nat):Int) 1)) _ _ s;rw[zft];exact aP h
theorem zhb(xs:Array Value)(i k:Nat):((List.range k).filterMap λ(m:Nat)=>xs[((i:Int)+(m:Int)*1).toNat]?).toArray=((xs.toList.drop i).take k).toArray:=by
 have e:(λ(m:Nat)=>xs[((i:Int)+(m:Int)*1).toNat]?)=λm=>xs[i+m]?:=by
  funext m
  have:((i:Int)+(m:Int)*1).toNat=i+m:=by lia
  rw[this]
 rw[e];have:=pick_run xs i k;rw[List.filterMap_map] at this;have e2:((λx=>xs[x]?)∘λx=>i+x)=λm=>xs[i+m]?:=rfl;rw[e2] at this;rw[this]
theorem iG{t sl:Addr}{items:Array Value}{vl vu:Value}{lo hi:Option Int}{Q:Value->Shared->Prop}(ht:IsTup s.heap t items)(hs:s.heap.IsSliceOf sl vl vu .none)(pl:IsPart vl lo)(pu:IsPart vu hi)
  (hw:¬(bY items.size 0 lo=0/\bY items.size items.size hi=items.size))
  (h:Q (.ref s.heap.objs.size) {s with heap:=s.heap.push {cls:=.type "tuple",data:=.seq ((items.toList.drop (bY items.size 0 lo)).take (bY items.size items.size hi-bY items.size 0 lo)).toArray}})
  (hsz:items.size<=sizeLine):wpAny (model prog w) A (getItem (.ref t) (.ref sl)) Q E s:=by
 have qP:sizeOk (.seq ((items.toList.drop (bY items.size 0 lo)).take (bY items.size items.size hi-bY items.size 0 lo)).toArray):=by
  show ((items.toList.drop (bY items.size 0 lo)).take (bY items.size items.size hi-bY items.size 0 lo)).toArray.size<=sizeLine;rw[fH,Ah,List.length_drop,pG]
  lia
 have hj:bY items.size items.size hi<=items.size:=zmv _ _ (cj _) hi;obtain⟨os,Bq,Mq,HS⟩:=id hs;have QF:s.TypeIs (.ref sl) "slice":=⟨os,Bq,Mq⟩;unfold getItem
 try with_reducible refine pK ?_
 first|refine aA (aP ?_)|skip
 refine aA (wpAny_sequenceKey ht.typeIs Ro ?_);refine aA (Ae (name:=Str.ofString "__getitem__") ht.typeIs Ds
  (yQ Ds ht.typeIs entry_tuple_getitem ?_ (args_tuple_getitem _ _)))
 show wpAny _ _ (Builtin.Tuple.tupleItemsOf (.ref t) >>= _) _ _ s;refine aA (tupleItemsOf_ ht ?_);refine aA (wpAny_typeOf QF ?_);rw[if_pos Ro];refine aA (W6 hs pl pu ?_);have pW:¬((((bY items.size 0 lo:Nat):Int)==0&&(1:Int)==1&&(bY items.size items.size hi-bY items.size 0 lo)==items.size)=true):=by
  intro q;rw[eG,eG] at q;have q1:((bY items.size 0 lo:Nat):Int)=0:=eq_of_beq q.1.1;have q2:bY items.size items.size hi-bY items.size 0 lo=items.size:=eq_of_beq q.2;exact hw ⟨by lia,by lia⟩
 show wpAny _ _ (if (((bY items.size 0 lo:Nat):Int)==0&&(1:Int)==1&&(bY items.size items.size hi-bY items.size 0 lo)==items.size)=true then _ else _) _ _ s;rw[if_neg pW,zhb]
 first
  |exact aA (m:=Builtin.Tuple.tupleExact _) (tK (aP ⟨_,rfl,aP h⟩) qP)
  |exact aA (m:=Builtin.Tuple.tupleExact _) (tK (aA (aP (aP ⟨_,rfl,aP h⟩))) qP)
  |exact aA (aA (m:=Builtin.Tuple.tupleExact _) (tK (aP (aP ⟨_,rfl,aP h⟩)) qP))
  |exact aA (aA (m:=Builtin.Tuple.tupleExact _) (tK (aP ⟨_,rfl,aP h⟩) qP))
end
end HT
namespace L2
open PySem PySem.Spec PyProof.Rows
noncomputable abbrev TO:=St->Hp->(Option Int->Hp->Prop)->Prop
def PO(X:Cx)(e:Option Expr)(t:TO):Prop:=
 ∀(ao:List (Addr×Obj)) (s:Shared) (Z:St) (H:Hp) (Q:Option Int->Hp->Prop),Inv X ao Z H s->t Z H Q->
  wpAny (model X.prog X.w) X.A (evalPart e X.env) (λu s'=>∃o H',Inv X ao Z H' s'/\IsPart u o/\Q o H') X.xe s
noncomputable def wY:TO:=λ_ H Q=>Q none H
noncomputable def HW(t:TE):TO:=λZ H Q=>t Z H λx H1=>∃i,x=.int i/\Q (some i) H1
theorem W7{ns:List Int}:∀{us:List Value},Vals (ns.map V.int) us->IntsAre us ns:=by
 induction ns with
 |nil=>intro us r;rw[List.map_nil] at r;cases r;exact .nil
 |cons n ns ih=>
  intro us r;rw[jk] at r;cases r with
  |cons r1 r2=>
   obtain⟨t,e⟩:=r1;subst e;exact .cons n t (ih r2)
section
variable {X:Cx}{e:Expr}{te:TE}{lo hi:Option Expr}{tl th:TO}{pos p2:Pos}
theorem zjo:PO X none wY:=by
 intro ao s Z H Q I h;rw[evalPart_none];exact aP ⟨none,H,I,.none,h⟩
theorem zi0(h:PE X e te):PO X (some e) (HW te):=by
 intro ao s Z H Q I hw;rw[evalPart_some];refine aQ (h ao s Z H _ I hw) λu s1 hx=>eE hx λx H1 I1 r1 q1=>?_;obtain⟨i,rfl,q⟩:=q1;obtain⟨t,rfl⟩:=r1;exact⟨some i,H1,I1,.int i t,q⟩
def wZ(X:Cx)(r:V->Option Int->Option Int->Hp->VK->Prop):Prop:=
 ∀(ao:List (Addr×Obj)) (s:Shared) (Z:St) (H:Hp) (x:V) (v vl vu:Value) (lo hi:Option Int) (sl:Addr) (Q:VK),Inv X ao Z H s->RelV x v->s.heap.IsSliceOf sl vl vu .none->IsPart vl lo->IsPart vu hi->r x lo hi H Q->
  ∃T id,typeLookup (.type T) "__getitem__"=pure (some (.builtin id))/\s.TypeIs v T/\wpAny (model X.prog X.w) X.A (getItem v (.ref sl)) (EP X ao Z Q) X.xe s
theorem wZ.or{r r':V->Option Int->Option Int->Hp->VK->Prop}(h:wZ X r)(h':wZ X r'):wZ X (λx lo hi H Q=>r x lo hi H Q\/r' x lo hi H Q):=by
 intro ao s Z H x v vl vu lo hi sl Q I rx hs pl pu q;rcases q with q|q
 ·exact h ao s Z H x v vl vu lo hi sl Q I rx hs pl pu q
 ·exact h' ao s Z H x v vl vu lo hi sl Q I rx hs pl pu q
noncomputable def tSl(r:V->Option Int->Option Int->Hp->VK->Prop)(te:TE)(tl th:TO):TE:=λZ H Q=>te Z H λx H1=>tl Z H1 λl H2=>th Z H2 λu H3=>r x l u H3 Q
theorem zhz{r:V->Option Int->Option Int->Hp->VK->Prop}(hr:wZ X r)(he:PE X e te)(hl:PO X lo tl)(hu:PO X hi th):PE X (.Subscript e (.Slice lo hi none p2) pos) (tSl r te tl th):=by
 intro ao s Z H Q I h;refine Subscript_ (aQ (he ao s Z H _ I h) λv s1 hx=>eE hx λx H1 I1 r1 q1=>?_);refine wpAny_Slice (aQ (hl ao s1 Z H1 _ I1 q1) λvl s2 hx=>eE hx λl H2 I2 pl q2=>aQ (hu ao s2 Z H2 _ I2 q2) λvu s3 hx=>eE hx λu H3 I3 pu q3=>?_);rw[evalPart_none];refine aP ?_;have I4:Inv X ao Z H3 {s3 with heap:=s3.heap.push {cls:=.type "slice",data:=.fields #[vl,vu,.none]}}:=I3.kept (t':=s3.toks) λb ob q=>cD _ q;obtain⟨T,id,hT,ht,hg⟩:=hr ao {s3 with heap:=s3.heap.push {cls:=.type "slice",data:=.fields #[vl,vu,.none]}} Z H3 x v vl vu l u s3.heap.objs.size Q I4 r1 (Heap.IsSliceOf.new ..) pl pu q3;show wpAny (model X.prog X.w) X.A (subscriptTail e (.Slice lo hi none p2) v (.ref s3.heap.objs.size)) (EP X ao Z Q) X.xe {s3 with heap:=s3.heap.push {cls:=.type "slice",data:=.fields #[vl,vu,.none]}};exact tail_any (ops:=[.ref s3.heap.objs.size,v]) ht hT hg (by with_unfolding_all rfl)
noncomputable def mQ(xs:List V)(lo hi:Option Int):List V:=(xs.drop (HT.bY xs.length 0 lo)).take (HT.bY xs.length xs.length hi-HT.bY xs.length 0 lo)
theorem W8(xs:List V)(lo hi:Option Int):(mQ xs lo hi).length<=xs.length:=by
 unfold mQ;rw[Ah,List.length_drop]
 lia
noncomputable def QG(K:W.Frag):V->Option Int->Option Int->Hp->VK->Prop:=λx lo hi H Q=>∃a xs,x=.ref a/\gK K H a xs /\
 ¬(HT.bY xs.length 0 lo=0/\HT.bY xs.length xs.length hi=xs.length)/\∀p,H p=none->Q (.ref p) (upd H p (.tup (mQ xs lo hi)))
theorem zk1:wZ X (QG X.K):=by
 intro ao s Z H x v vl vu lo hi sl Q I rx hs pl pu h;obtain⟨a,xs,rfl,hx,hw,q⟩:=h;cases rx;obtain⟨its,r,ht,hz⟩:=I.tuple hx;have hlen:its.toArray.size=xs.length:=by rw[fH];exact r.length.symm
 refine⟨"tuple",_,Ds.lookup,ht.typeIs,?_⟩;refine HT.iG ht hs pl pu (by rw[hlen];exact hw) ?_ (by rw[hlen];exact hz);rw[hlen];refine⟨.ref s.heap.objs.size,_,I.laid (t':=s.toks) (o:=.tup (mQ xs lo hi)) (λb ob q=>cD _ q) (cj _) ?_,rfl,q _ (I.hok.fresh (cj _))⟩;exact⟨jQ (W8 xs lo hi) hz,_,(r.drop (HT.bY xs.length 0 lo)).take (HT.bY xs.length xs.length hi-HT.bY xs.length 0 lo),IsTup.new _ _⟩
noncomputable def HX(K:W.Frag):R2:=λx y H Q=>∃a b ns ms,x=.ref a/\y=.ref b/\gK K H a (ns.map V.int)/\gK K H b (ms.map V.int)/\Q (.bl (HT.lexLt ns ms)) H
theorem zmr(hu:X.A.units<cLine):fO X (compareOp .Lt) (HX X.K):=by
 intro ao s Z H x y v u Q I rx ry h;obtain⟨a,b,ns,ms,rfl,rfl,ha,hb,q⟩:=h;cases rx;cases ry;obtain⟨its,r1,p1,_⟩:=I.tuple ha;obtain⟨its2,r2,p2,_⟩:=I.tuple hb;have i1:IntsAre its.toArray.toList ns:=W7 r1;have i2:IntsAre its2.toArray.toList ms:=W7 r2;exact HT.jX p1 p2 i1 i2 hu ⟨.bl (HT.lexLt ns ms),H,I,rfl,q⟩
theorem Vals.mR{xs:List V}{us:List Value}(r:Vals xs us):us=[]↔xs=[]:=by
 cases r with
 |nil=>simp
 |cons _ _=>simp
end
noncomputable def rW(n:Nat)(i:Int):Option Nat:=if 0<=i then (if i<n then some i.toNat else none) else if -(n:Int)<=i then some (i+n).toNat else none
noncomputable def qQ{α:Type}(xs:List α)(i:Int):Option α:=(rW xs.length i).bind λj=>xs[j]?
theorem W9{n:Nat}{i:Int}{j:Nat}(h:rW n i=some j):seqIndex? i n=some j/\j<n/\-(n:Int)<=i/\i<n:=by
 unfold rW at h;by_cases h0:0<=i
 ·rw[if_pos h0] at h;by_cases h1:i<n
  ·rw[if_pos h1] at h;have e:i.toNat=j:=cO h;exact⟨by rw[seqIndex_of h0 h1,e],by lia,by lia,h1⟩
  ·rw[if_neg h1] at h;cases h
 ·rw[if_neg h0] at h;by_cases h1 : -(n:Int)<=i
  ·rw[if_pos h1] at h;have e:(i+n).toNat=j:=cO h;exact⟨by rw[seqIndex_neg gV h1,e],by lia,h1,by lia⟩
  ·rw[if_neg h1] at h;cases h
theorem QJ{α:Type}{xs:List α}{i:Int}{v:α}(h:qQ xs i=some v):∃j,seqIndex? i xs.length=some j/\xs[j]?=some v/\j<xs.length/\-(xs.length:Int)<=i/\i<xs.length:=by
 unfold qQ at h;cases e:rW xs.length i with
 |none=>rw[e] at h;cases h
 |some j=>
  rw[e] at h;obtain⟨h1,h2,h3,h4⟩:=W9 e;exact⟨j,h1,h,h2,h3,h4⟩
def qR(b:Expr):Prop:=∀o i,subscripted b false o i=operate [o,i] (getItem o i)
def w6(X:Cx)(r:R2):Prop:=
 ∀(value slice:Expr) (ao:List (Addr×Obj)) (s:Shared) (Z:St) (H:Hp) (x y:V) (v u:Value) (Q:VK),Inv X ao Z H s->RelV x v->RelV y u->r x y H Q->
  subscripted slice false v u=operate [v,u] (getItem v u)->wpAny (model X.prog X.w) X.A (subscriptTail value slice v u) (EP X ao Z Q) X.xe s
def Mr(X:Cx)(id:String)(r:V->List V->Hp->VK->Prop):Prop:=
 ∀(ao:List (Addr×Obj)) (s:Shared) (Z:St) (H:Hp) (x:V) (xs:List V) (v:Value) (us:List Value) (Q:VK),Inv X ao Z H s->RelV x v->Vals xs us->r x xs H Q->
  wpAny (model X.prog X.w) X.A (call (.builtin id) (v::us)) (EP X ao Z Q) X.xe s
section
variable {X:Cx}{a b:Expr}{ta tb:TE}{pos:Pos}
theorem w6.or{r r':R2}(h:w6 X r)(h':w6 X r'):w6 X (λx y H Q=>r x y H Q\/r' x y H Q):=by
 intro value slice ao s Z H x y v u Q I rx ry q hs;rcases q with q|q
 ·exact h value slice ao s Z H x y v u Q I rx ry q hs
 ·exact h' value slice ao s Z H x y v u Q I rx ry q hs
theorem zno{r:R2}(hr:w6 X r)(ha:PE X a ta)(hb:PE X b tb)(hs:qR b):PE X (.Subscript a b pos) (Mh r ta tb):=by
 intro ao s Z H Q I h;exact Subscript_ (Bj ha hb I h λv u s2 x y H2 I2 rx ry q=>hr a b ao s2 Z H2 x y v u Q I2 rx ry q (hs _ _))
noncomputable def HY(K:W.Frag):R2:=λx y H Q=>∃p xs i v,x=.ref p/\y=.int i/\cR K H p xs/\qQ xs i=some v/\Q v H
noncomputable def H_(K:W.Frag):R2:=λx y H Q=>∃p xs i v,x=.ref p/\y=.int i/\gK K H p xs/\qQ xs i=some v/\Q v H
noncomputable def Ia:R2:=λx y H Q=>∃z i c,x=.str z/\y=.int i/\z.length<=sizeLine/\qQ z.cps.toList i=some c/\Q (.str ⟨#[c]⟩) H
theorem xq:w6 X (HY X.K):=by
 intro value slice ao s Z H x y v u Q I rx ry h hs;obtain⟨p,xs,i,z,rfl,rfl,hq,he,q⟩:=h;cases rx;obtain⟨t,rfl⟩:=ry;obtain⟨its,r,pl,hz⟩:=I.list hq;obtain⟨j,h1,h2,h3,h4,h5⟩:=QJ he;obtain⟨w,ew,jV⟩:=r.get h2;have hl:=r.length;have hn:=iZ;have fin:EP X ao Z Q w s:=⟨z,H,I,jV,q⟩;by_cases h0:0<=i
 ·have hj:i.toNat=j:=by
   rw[seqIndex_of h0 h5] at h1;exact cO h1
  exact item_listR pl.isList h0 gV (by rw[hj];simpa using ew) fin hs
 ·have hj:(i+(its.toArray.size:Int)).toNat=j:=by
   rw[seqIndex_neg gV h4] at h1;rw[fH,<-hl];exact cO h1
  exact subscriptTail_builtinR (x:=w) pl.isList.typeIs slot_list_getitem.lookup
   (wpAny_getItem_list_neg (Q:=λr s'=>r=w/\EP X ao Z Q r s') pl.isList gV (by rw[fH]<;>lia) gV (by rw[hj];simpa using ew) ⟨rfl,fin⟩) hs
theorem Br:w6 X (H_ X.K):=by
 intro value slice ao s Z H x y v u Q I rx ry h hs;obtain⟨p,xs,i,z,rfl,rfl,hq,he,q⟩:=h;cases rx;obtain⟨t,rfl⟩:=ry;obtain⟨its,r,pl,hz⟩:=I.tuple hq;obtain⟨j,h1,h2,h3,h4,h5⟩:=QJ he;obtain⟨w,ew,jV⟩:=r.get h2;have hl:=r.length;have hn:=iZ;have fin:EP X ao Z Q w s:=⟨z,H,I,jV,q⟩;exact subscriptTail_builtinR (x:=w) pl.typeIs slot_tuple_getitem.lookup
  (getItem_tuple (j:=j) (Q:=λr s'=>r=w/\EP X ao Z Q r s') pl gV gV (by rw[fH,<-hl];exact h1) (by simpa using ew) ⟨rfl,fin⟩) hs
theorem zkt:w6 X Ia:=by
 intro value slice ao s Z H x y v u Q I rx ry h hs;obtain⟨z,i,c,rfl,rfl,hz,he,q⟩:=h;obtain⟨t,rfl⟩:=rx;obtain⟨t',rfl⟩:=ry;obtain⟨j,h1,h2,h3,h4,h5⟩:=QJ he;have hl:z.cps.toList.length=z.length:=by simp[Str.length]
 rw[hl] at h1 h4 h5;have hn:=iZ;exact tail_any (typeIs_str s z t) slot_str_getitem.lookup (getItem_str (c:=c) (by
  have e1:decide (i < -(2^63:Int))=false:=tY gV;have e2:decide (i>=2^63)=false:=tY gV;rw[e1,e2,Bool.or_false]) (by rw[h1];simpa using h2) ⟨.str ⟨#[c]⟩,H,I.tok _,⟨_,rfl⟩,q⟩) hs
noncomputable def QK(K:W.Frag):R2:=λx y H Q=>HY K x y H Q\/H_ K x y H Q\/Ia x y H Q
theorem zlg:w6 X (QK X.K):=xq.or (Br.or zkt)
theorem zfr(its:List Value)(n j:Nat)(u:Value):Obj.mapSeq (·.setIfInBounds j u) {cls:=.type "list",data:=.seq its.toArray n}={cls:=.type "list",data:=.seq (its.set j u).toArray n}:=by
 simp[Obj.mapSeq]
theorem Inv.lst{ao:List (Addr×Obj)}{Z:St}{H:Hp}{s:Shared}{p:Addr}{xs:List V}(I:Inv X ao Z H s)(h:H p=some (.lst xs)) :
  ∃(its:List Value) (n:Nat),Vals xs its/\s.heap.get? p=some {cls:=.type "list",data:=.seq its.toArray n}/\xs.length<=sizeLine:=by
 obtain⟨z,its,n,r,e⟩:=I.hok p _ h;exact⟨its,n,r,e,z⟩
theorem Inv.Bs{ao:List (Addr×Obj)}{Z:St}{H:Hp}{s:Shared}{p:Addr}{xs ys:List V}{its its':List Value}{n n':Nat}{f:Obj->Obj}(I:Inv X ao Z H s)(h:H p=some (.lst xs))
  (ho:s.heap.get? p=some {cls:=.type "list",data:=.seq its.toArray n}) (hf:f {cls:=.type "list",data:=.seq its.toArray n}={cls:=.type "list",data:=.seq its'.toArray n'}) (r:Vals ys its') (hz:ys.length<=sizeLine) (t:Nat) :
  Inv X ao Z (upd H p (.lst ys)) {s with heap:=s.heap.update p f,toks:=t}:=by
 have e:(s.heap.update p f).get? p=some {cls:=.type "list",data:=.seq its'.toArray n'}:=by
  rw[Af f ho (by rw[hf]<;>rfl),hf]
 refine I.write (x:=p) (e:=p) (by rw[h];trivial) (.inl rfl) (λb u hb q=>(wu _ _ (Ne.symm hb)).trans q) ⟨_,e⟩ ?_;exact⟨hz,its',n',r,e⟩
noncomputable def Ib:V->V->V->Hp->(Hp->Prop)->Prop:=λo i v H Q=>∃p xs k j,o=.ref p/\i=.int k/\H p=some (.lst xs)/\rW xs.length k=some j/\Q (upd H p (.lst (xs.set j v)))
theorem zhR:Hl X Ib:=by
 intro ao s Z H o i v ov iv u Q I ro ri rv h;obtain⟨p,xs,k,j,rfl,rfl,hp,hj,q⟩:=h;cases ro;obtain⟨t,rfl⟩:=ri;obtain⟨its,n,r,ho,hz⟩:=I.lst hp;obtain⟨h1,h2,h3,h4⟩:=W9 hj;have hl:=r.length;have hn:=iZ;have I':Inv X ao Z (upd H p (.lst (xs.set j v))) {s with heap:=s.heap.update p (Obj.mapSeq (·.setIfInBounds j u))}:=
  I.Bs hp ho (zfr its n j u) (r.set rv j) (by rw[pI];exact hz) s.toks
 by_cases h0:0<=k
 ·have hk:k.toNat=j:=by
   rw[seqIndex_of h0 h4] at h1;exact cO h1
  exact PySem.W.ki_setAt ho h0 gV (by rw[fH,<-hl];exact h4) (by rw[hk];exact⟨_,I',q⟩)
 ·have hk:(k+(its.toArray.size:Int)).toNat=j:=by
   rw[seqIndex_neg gV h3] at h1;rw[fH,<-hl];exact cO h1
  exact PySem.W.ki_setBack ho gV (by rw[fH,<-hl];exact h3) gV (by rw[hk];exact⟨_,I',q⟩)
theorem zdv(lo hi:Option Int)(n:Nat):(sliceBounds lo hi none n).1=((HT.bY n 0 lo:Nat):Int)/\(sliceBounds lo hi none n).2.1=((HT.bY n n hi:Nat):Int)/\(sliceBounds lo hi none n).2.2=1:=by
 refine⟨?_,?_,rfl⟩
 ·cases lo with
  |none=>simp[sliceBounds,HT.bY]
  |some i=>
   simp only[sliceBounds,HT.bY,Option.getD_none,show (1:Int)>0 by decide,if_true];by_cases h:i<0
   ·simp only[h,if_true]<;>lia
   ·simp only[h,nU]<;>lia
 ·cases hi with
  |none=>simp[sliceBounds,HT.bY]
  |some i=>
   simp only[sliceBounds,HT.bY,Option.getD_none,show (1:Int)>0 by decide,if_true];by_cases h:i<0
   ·simp only[h,if_true]<;>lia
   ·simp only[h,nU]<;>lia
theorem zcM(its:List Value)(lo hi:Option Int):slicePick its.toArray lo hi none=((its.drop (HT.bY its.length 0 lo)).take (HT.bY its.length its.length hi-HT.bY its.length 0 lo)).toArray:=by
 obtain⟨h1,h2,h3⟩:=zdv lo hi its.toArray.size;unfold slicePick;rw[h1,h2,h3];simp only[sliceRange_one,pick_run,fH]<;>rfl
noncomputable def Ie(K:W.Frag):V->Option Int->Option Int->Hp->VK->Prop:=λx lo hi H Q=>∃a xs,x=.ref a/\cR K H a xs/\∀p,H p=none->Q (.ref p) (upd H p (.lst (mQ xs lo hi)))
theorem xr:wZ X (Ie X.K):=by
 intro ao s Z H x v vl vu lo hi sl Q I rx hs pl pu h;obtain⟨a,xs,rfl,hx,q⟩:=h;cases rx;obtain⟨its,r,ht,hz⟩:=I.list hx;have hlen:=r.length;refine⟨"list",_,slot_list_getitem.lookup,ht.isList.typeIs,?_⟩;refine wpAny_getItem_list_slice ht.isList hs pl pu .none Zaa ?_ (by rw[fH]<;>lia);rw[zcM,<-hlen];refine⟨.ref s.heap.objs.size,_,I.laid (t':=s.toks) (o:=.lst (mQ xs lo hi)) (λb ob q=>cD _ q) (cj _) ?_,rfl,q _ (I.hok.fresh (cj _))⟩;exact⟨jQ (W8 xs lo hi) hz,_,0,(r.drop (HT.bY xs.length 0 lo)).take (HT.bY xs.length xs.length hi-HT.bY xs.length 0 lo),eF _ rfl⟩
theorem zdm:cZ X (.builtin "len") (λxs H Q=>∃p ys,xs=[.ref p]/\(cR X.K H p ys\/gK X.K H p ys)/\Q (.int ys.length) H):=by
 intro ao s Z H xs us Q I r h;obtain⟨p,ys,rfl,hq,q⟩:=h;obtain⟨u,rfl,rx⟩:=vals1 r;cases rx;have hn:=iZ;rcases hq with hq|hq
 ·obtain⟨its,r',pl,hz⟩:=I.list hq;have hlen:=r'.length;exact Calls.call_len_list pl.isList (by simp only[fH]<;>lia) ⟨.int ys.length,H,I.tok _,⟨s.toks+1,by rw[fH,hlen]⟩,q⟩
 ·obtain⟨its,r',pl,hz⟩:=I.tuple hq;have hlen:=r'.length;exact len_tuple pl (by simp only[fH]<;>lia) ⟨.int ys.length,H,I.tok _,⟨s.toks+1,by rw[fH,hlen]⟩,q⟩
theorem zdC:cZ X (.type "list") (λxs H Q=>∃p ys,xs=[.ref p]/\(cR X.K H p ys\/gK X.K H p ys)/\∀l,H l=none->Q (.ref l) (upd H l (.lst ys))):=by
 intro ao s Z H xs us Q I r h;obtain⟨p,ys,rfl,hq,q⟩:=h;obtain⟨u,rfl,rx⟩:=vals1 r;cases rx;have fin:∀(its:List Value),Vals ys its->ys.length<=sizeLine->∀(h':Heap) (c':Nat),(∀b o',s.heap.get? b=some o'->h'.get? b=some o')->
   h'.get? s.heap.objs.size=some {cls:=.type "list",dict:=none,data:=.seq its.toArray c',slots:=#[]}->EP X ao Z Q (.ref s.heap.objs.size) {s with heap:=h'}:=λits r' hz h' c' kp e=>
  ⟨.ref s.heap.objs.size,_,I.laid (t':=s.toks) kp (cj _) (show bI X.prog X.w _ h' _ (.lst ys) from ⟨hz,its,c',r',e⟩),rfl,q _ (I.hok.fresh (cj _))⟩
 rcases hq with hq|hq
 ·obtain⟨its,r',pl,hz⟩:=I.list hq;have hlen:=r'.length;obtain⟨o,ho,hc,n,hd⟩:=pl.isList;exact call_list_seq p (.inl rfl) ho hc hd (λh' c' kp e=>fin its r' hz h' c' kp e) (by simp only[fH]<;>lia)
 ·obtain⟨its,r',pl,hz⟩:=I.tuple hq;have hlen:=r'.length;obtain⟨o,ho,hc,n,hd⟩:=pl;exact call_list_seq p (.inr rfl) ho hc hd (λh' c' kp e=>fin its r' hz h' c' kp e) (by simp only[fH]<;>lia)
theorem zcF:cZ X (.type "tuple") (λxs H Q=>∃p ys,xs=[.ref p]/\((cR X.K H p ys/\∀l,H l=none->Q (.ref l) (upd H l (.tup ys)))\/(gK X.K H p ys/\Q (.ref p) H))):=by
 intro ao s Z H xs us Q I r h;obtain⟨p,ys,rfl,h⟩:=h;obtain⟨u,rfl,rx⟩:=vals1 r;cases rx;rcases h with ⟨hq,q⟩|⟨hq,q⟩
 ·obtain⟨its,r',pl,hz⟩:=I.list hq;have hlen:=r'.length;refine call_tuple_list pl.isList (λh' kp=>?_) (by simp only[fH]<;>lia);have I1:Inv X ao Z H {s with heap:=h'}:=I.kept (t':=s.toks) kp;have I2:Inv X ao Z (upd H h'.objs.size (.tup ys)) {s with heap:=h'.push {cls:=.type "tuple",data:=.seq its.toArray}}:=
   I1.laid (t':=s.toks) (λb o e=>cD _ e) (cj _) (show bI X.prog X.w _ _ _ (.tup ys) from ⟨hz,its,r',IsTup.new _ _⟩)
  exact⟨.ref h'.objs.size,_,I2,rfl,q _ (I1.hok.fresh (cj _))⟩
 ·obtain⟨its,r',pl,hz⟩:=I.tuple hq;exact call_tuple_same pl ⟨.ref p,H,I,rfl,q⟩
def Ms(K:W.Frag)(T:String)(x:V)(H:Hp):Prop:=match x with
 |.str _=>T="str"
 |.int _=>T="int"
 |.ref p=>(T="list"/\∃xs,cR K H p xs)\/(T="tuple"/\∃o,K.lookup p=some o/\o.cls=.type "tuple"/\o.dict=none) \/
   (T="dict"/\((∃kvs,H p=some (.dK kvs))\/∃kvs,H p=some (.dT kvs)))\/(T="set"/\∃S n,H p=some (.set S n))
 |_=>False
theorem W_{ao:List (Addr×Obj)}{Z:St}{H:Hp}{s:Shared}{T:String}{x:V}{v:Value}(I:Inv X ao Z H s)(r:RelV x v)(ty:Ms X.K T x H) :
  s.TypeIs v T/\∀a,v=.ref a->∃ob,s.heap.get? a=some ob/\ob.dict=none:=by
 cases x with
 |str z=>
  obtain⟨t,rfl⟩:=r;cases (show T="str" from ty);exact⟨typeIs_str s z t,λ_ e=>nomatch e⟩
 |int i=>
  obtain⟨t,rfl⟩:=r;cases (show T="int" from ty);exact⟨typeIs_int s i t,λ_ e=>nomatch e⟩
 |ref p=>
  cases r;rcases ty with ⟨rfl,xs,hq⟩|⟨rfl,o,hk,hc,hd⟩|⟨rfl,hk⟩|⟨rfl,S,n,hk⟩
  ·obtain⟨its,_,pl,_⟩:=I.list hq;refine⟨pl.isList.typeIs,λa e=>?_⟩;cases e;obtain⟨o,n,e,c,hd,_⟩:=pl;exact⟨o,e,hd⟩
  ·refine⟨⟨o,I.lO p o hk,hc⟩,λa e=>?_⟩;cases e;exact⟨o,I.lO _ o hk,hd⟩
  ·have z:∃o,s.heap.get? p=some o/\o.ExactDict:=by
    rcases hk with ⟨kvs,hk⟩|⟨kvs,hk⟩
    ·obtain⟨_,_,_,_,o,_,_,e,ex,_⟩:=I.hok p _ hk;exact⟨o,e,ex⟩
    ·obtain⟨_,_,_,_,o,_,_,e,ex,_⟩:=I.hok p _ hk;exact⟨o,e,ex⟩
   obtain⟨o,e,ex⟩:=z;refine⟨⟨o,e,ex.1⟩,λa e2=>?_⟩;cases e2;exact⟨o,e,ex.2.1⟩
  ·obtain⟨o,_,_,_,e,ex,_⟩:=I.hok p _ hk;refine⟨⟨o,e,ex.1⟩,λa e2=>?_⟩;cases e2;exact⟨o,e,ex.2.1⟩
 |_=>exact False.elim ty
noncomputable def QL(K:W.Frag)(T:String)(r:V->List V->Hp->VK->Prop)(to:TE):TE:=λZ H Q=>to Z H λx H1=>Ms K T x H1/\r x [] H1 Q
noncomputable def tBM(K:W.Frag)(T:String)(r:V->List V->Hp->VK->Prop)(to:TE)(t:TA):TE:=λZ H Q=>to Z H λx H1=>Ms K T x H1/\t Z H1 λxs H2=>r x xs H2 Q
variable {o e:Expr}{es:List Expr}{to:TE}{t:TA}{name:Str}{apos cpos:Pos}{T id:String}{r:V->List V->Hp->VK->Prop}
theorem zk5(pa:PlainAttrs T)(slot:Slot T name id)(Ig:typeOf (.builtin id)=pure (.type "method_descriptor"))(hm:Mr X id r)(ho:PE X o to)
  (cP:attributeBase o name X.env (eval o X.env)=eval o X.env:=by rfl) (cQ:(apos.endLine==cpos.line)=true:=by rfl):PE X (.Call (.Attribute o name apos) [] [] cpos) (QL X.K T r to):=by
 intro ao s Z H Q I h;refine wpAny_Call_method0_late cP cQ (aQ (ho ao s Z H _ I h) λv s1 ⟨x,H1,I1,r1,ty,q1⟩=>?_);obtain⟨h1,h2⟩:=W_ I1 r1 ty;exact⟨T,id,pa,slot,Ig,h1,h2,O5 rfl (PySem.evalArgs_none (hm ao s1 Z H1 x [] v [] Q I1 r1 .nil q1))⟩
theorem Xa(pa:PlainAttrs T)(slot:Slot T name id)(Ig:typeOf (.builtin id)=pure (.type "method_descriptor"))(hm:Mr X id r)(ho:PE X o to)(ha:PA X (e::es) t)
  (cP:attributeBase o name X.env (eval o X.env)=eval o X.env:=by rfl)
  (pX:((backTo cpos (starEach (e::es) X.env)).all (λx=>!x.1)&&(backToKw cpos (keywordEach [] X.env)).all (λx=>x.1.isSome)
  &&decide ((e::es).length+([]:List Keyword).length+(if ([]:List Keyword).isEmpty then 0 else 1)<30))=true:=by rfl)
  (cQ:(apos.endLine==cpos.line)=true:=by rfl) (hs:starEach (e::es) X.env=(false,eval e X.env)::starEach es X.env:=by rfl) (gj:(backTo cpos (starEach es X.env)).any (·.1)=false:=by rfl) :
  PE X (.Call (.Attribute o name apos) (e::es) [] cpos) (tBM X.K T r to t):=by
 intro ao s Z H Q I h;refine wpAny_Call_method_late cP pX cQ rfl (aQ (ho ao s Z H _ I h) λv s1 ⟨x,H1,I1,r1,ty,q1⟩=>?_);obtain⟨h1,h2⟩:=W_ I1 r1 ty;refine⟨T,id,pa,slot,Ig,h1,h2,?_⟩;have hA:=ha cpos ao s1 Z H1 _ I1 q1;rw[hs] at hA ⊢;refine O5 (by show (false||(backTo cpos (starEach es X.env)).any (·.1))=false;rw[gj]<;>rfl) (Calls.evalArgs_plain ?_);exact aQ hA λus s2 hx=>eE hx λvs H2 I2 r2 q2=>hm ao s2 Z H2 x vs v us Q I2 r1 r2 q2
end
def Xb(X:Cx)(id:String)(r:V->List V->Hp->VK->Prop):Prop:=
 ∀(ao:List (Addr×Obj)) (s:Shared) (Z:St) (H:Hp) (x:V) (xs:List V) (v:Value) (us:List Value) (Q:VK),Inv X ao Z H s->RelV x v->Vals xs us->r x xs H Q->
  wpAny (model X.prog X.w) X.A (call (.builtin id) (v::us)) (EP X ao Z Q) X.xe s
theorem Vals.one{x:V}{us:List Value}(h:Vals [x] us):∃u,us=[u]/\RelV x u:=by
 cases h with
 |cons r t=>cases t;exact⟨_,rfl,r⟩
theorem Vals.two{x y:V}{us:List Value}(h:Vals [x,y] us):∃u v,us=[u,v]/\RelV x u/\RelV y v:=by
 cases h with
 |cons r t=>
  obtain⟨v,rfl,q⟩:=Vals.one t;exact⟨_,_,rfl,r,q⟩
theorem Vals.zero:∀{us:List Value},Vals [] us->us=[]
 |_,.nil=>rfl
theorem Vals.dropLast{xs:List V}{us:List Value}(h:Vals xs us):Vals xs.dropLast us.dropLast:=by
 induction h with
 |nil=>exact .nil
 |cons r t ih=>
  cases t with
  |nil=>exact .nil
  |cons q t'=>exact .cons r ih
theorem ze6{α:Type}(l:List α):l.eraseIdx (l.length-1)=l.dropLast:=by
 induction l with
 |nil=>rfl
 |cons a r ih=>
  cases r with
  |nil=>rfl
  |cons b r=>
   have e:(a::b::r).length-1=((b::r).length-1)+1:=by
    have h1:(a::b::r).length=r.length+2:=rfl;have h2:(b::r).length=r.length+1:=rfl
    lia
   rw[e,List.eraseIdx_cons_succ,ih]
   all_goals rfl
section
variable {X:Cx}{ao:List (Addr×Obj)}{Z:St}{H:Hp}{s:Shared}{l b:Addr}{xs ys zs:List V}
theorem Inv.Ih{its its':List Value}{n:Nat}{f:Array Value->Array Value}{t':Nat}(I:Inv X ao Z H s)(hH:H l=some (.lst xs))
  (e:s.heap.get? l=some {cls:=.type "list",data:=.seq its.toArray n}) (hf:f its.toArray=its'.toArray) (hv:Vals ys its') (hz:ys.length<=sizeLine) :
  Inv X ao Z (upd H l (.lst ys)) {s with heap:=s.heap.update l (Obj.mapSeq f),toks:=t'}:=by
 have q:=PySem.IsL.update e f;rw[hf] at q;refine I.write (x:=l) (e:=l) (by rw[hH];exact trivial) (.inl rfl) (λb' u hb hu=>(wu s.heap (Obj.mapSeq f) (Ne.symm hb)).trans hu) ⟨_,q⟩ ?_;exact⟨hz,its',_,hv,q⟩
theorem Inv.QM{its:List Value}{t':Nat}(I:Inv X ao Z H s)(hv:Vals ys its)(hz:ys.length<=sizeLine) :
  Inv X ao Z (upd H s.heap.objs.size (.lst ys)) {s with heap:=s.heap.push {cls:=.type "list",data:=.seq its.toArray},toks:=t'}:=
 I.laid (λ_ _ q=>cD _ q) (cj _) ⟨hz,its,0,hv,eF _ rfl⟩
theorem Inv.fresh(I:Inv X ao Z H s):H s.heap.objs.size=none:=I.hok.fresh (cj _)
theorem Inv.Ii(I:Inv X ao Z H s)(hH:H l=some (.lst xs)):xs.length<=sizeLine/\∃(its:List Value) (n:Nat),Vals xs its/\xs.length=its.length/\s.heap.get? l=some {cls:=.type "list",data:=.seq its.toArray n}:=by
 obtain⟨z,its,n,r,e⟩:=I.hok l _ hH;exact⟨z,its,n,r,r.length,e⟩
end
section
variable {X:Cx}
noncomputable def xu:V->List V->Hp->VK->Prop:=λx vs H Q=>∃l xs y,x=.ref l/\vs=[y]/\H l=some (.lst xs)/\xs.length<sizeLine/\Q .non (upd H l (.lst (xs++[y])))
theorem QS:Xb X "list.append" xu:=by
 intro ao s Z H x vs v us Q I rx rv h;obtain⟨l,xs,y,rfl,rfl,hH,hz,q⟩:=h;cases rx;obtain⟨u,rfl,ru⟩:=rv.one;obtain⟨z,its,n,r,hl,e⟩:=I.Ii hH;refine call_meets F.slot_list_append ⟨_,e,rfl⟩ F.entry_list_append (F.args_list_append_2 _ _) (PySem.list_append l its.toArray n u (by rw[fH];lia)) ⟨e,?_⟩;refine⟨.non,_,I.Ih (its':=its++[u]) hH e Zaa (r.append (.cons ru .nil)) ?_,rfl,q⟩;rw[pA,List.length_singleton]
 lia
noncomputable def QT:V->List V->Hp->VK->Prop:=λx vs H Q=>∃l xs y,x=.ref l/\vs=[]/\H l=some (.lst xs)/\xs[xs.length-1]?=some y/\Q y (upd H l (.lst xs.dropLast))
theorem zlL:Xb X "list.pop" QT:=by
 intro ao s Z H x vs v us Q I rx rv h;obtain⟨l,xs,y,rfl,rfl,hH,hy,q⟩:=h;cases rx;have hus:=rv.zero;subst hus;obtain⟨z,its,n,r,hl,e⟩:=I.Ii hH;obtain⟨u,hu,ru⟩:=r.get hy;have hy':its.toArray[its.toArray.size-1]?=some u:=by
  show its.toArray[its.length-1]?=some u;rw[<-Array.getElem?_toList,<-hl];exact hu
 refine call_meets F.slot_list_pop ⟨_,e,rfl⟩ F.entry_list_pop (F.args_list_pop_1 _) (MeetsSeq.list_pop_last l its.toArray n u hy' (by rw[fH];lia)) ⟨e,?_⟩;refine⟨y,_,I.Ih (its':=its.dropLast) hH e ?_ r.dropLast ?_,ru,q⟩
 ·show its.toArray.eraseIdxIfInBounds (its.toArray.size-1)=its.dropLast.toArray;rw[fH,List.eraseIdxIfInBounds_toArray,ze6]
 ·rw[List.length_dropLast]
  lia
end
section
variable {prog:Program}{w:World}{A:Around}{E:Value->Shared->Prop}{s:Shared}
set_option maxRecDepth 100000 in
end
end L2
namespace Xc
open PySem PySem.W PySem.Calls PyProof.Rows
theorem zcd{P:Params}{h:Heap}:∀(ns:List Int) (vs:List Value),WellAll P h vs (ns.map WData.int)->IntsAre vs ns:=by
 intro ns
 induction ns with
 |nil=>
  intro vs w;rw[List.map_nil] at w;cases w;exact .nil
 |cons n ns ih=>
  intro vs w;rw[jk] at w;cases w with
  |cons a b=>
   cases a;exact .cons _ _ (ih _ b)
theorem zgf{l:OpenLaw}{n:Nat}(hn:l.most=some n){P:Params}{h:Heap}{args:List WData}{vals:List Value}
  (hpre:l.row.toRowW.claim.pre args=true) (QV:WellAll P h vals args) :
  ∃a vs ns,vals=[Value.ref a]/\args=[WData.list (ns.map WData.int)]/\h.get? a=some {cls:=.type "list",data:=.seq vs.toArray}/\IntsAre vs ns/\ns.length<=n:=by
 have hsh:WShape.hasAll [] args [.list .int]=true:=(pre_splitW hpre).1;have hc:l.pre.holds [] {args:=args}=true:=(pre_splitW hpre).2;obtain⟨d,r,rfl,h1,h2⟩:=hasAllW_cons hsh;obtain rfl:=hasAllW_nil h2;obtain⟨xs,rfl,h3⟩:=hasW_list h1;obtain⟨ns,rfl⟩:=items_int h3;have hlen:ns.length<=n:=by
  unfold OpenLaw.pre at hc;have h4:(WTm.not (.lt (.lit (.int (n:Int))) (.len (.arg 0)))).holds [] {args:=[.list (ns.map .int)]}=true:=by
   have h4:=(holds_andW hc).1;rw[hn] at h4;exact h4
  have h5:=condW_of h4 (w_not (w_lt w_lit (w_len_list (w_arg rfl))));rw[fW] at h5;refine Lh λq=>?_;have q':(n:Int)<((ns.length:Nat):Int):=by lia
  first
   |(rw[nH q'] at h5;exact absurd h5 Ro)
   |(simp at h5;lia)
 cases QV with
 |cons w1 w2=>
  cases w2;cases w1 with
  |list ho pY=>exact⟨_,_,ns,rfl,rfl,ho,zcd ns _ pY,hlen⟩
theorem zfx(l:OpenLaw)(args:List WData):l.row.toRowW.claim.post args (.bool true) args=true:=
 postW_of (r:=l.row.toRowW) (X:=(true==true))
  (show WShape.has [] (.bool true) .bool=true by first|rfl|decide|simp[WShape.has,WShape.arms,WShape.armsAll])
  (show (WTm.eq .res (.lit (.bool true))).value [] {args:=args,res:=some (.bool true),after:=args}=some (.bool (true==true)) from w_eq_bool (w_res rfl) w_lit) rfl
theorem ou{l:OpenLaw}{n:Nat}{q:Program}{loose:List Str}{XP:(Str->Option Value)->Heap->Prop}{YP:World->Heap->Prop}{d:DefRec}
  (hn:l.most=some n) (QW:d.params.defaults=[])
  (call:∀(w:World) (s₀ s₁:Shared) (mg mb:Str->Option Value) (fa:Addr) (o:Obj) (pm cd doc:Value) (a:Addr) (vs:List Value) (ns:List Int),
   Ground q loose [] XP w s₀ mg mb s₁.heap->YP w s₁.heap->
   s₁.heap.get? fa=some o->o.data=.func (docDef d.name d.params d.body d.scope pm cd doc)->s₁.heap.CodeRec cd d.name->mg d.name=some (.ref fa)->
   s₁.heap.get? a=some {cls:=.type "list",data:=.seq vs.toArray}->IntsAre vs ns->ns.length<=n->s₁.gens=#[]->
   codeAny (model l.prog w) callerA (.call (.ref fa) ⟨[.ref a],[]⟩) (λr s'=>r=.ok (.ret (.bool true))/\OldK s₁.heap s'.heap/\s'.os=s₁.os/\AllBare s'.gens) s₁) :
  WalkO q loose XP YP l.row.toRowW d [] (λf vs=>PySem.call f vs):=by
 intro w s₀ s₁ mg mb G Y fa o pm cd doc dV kV ho hd iC hD hmg hg args vals as hpre aac hrd QV hlo;obtain rfl:dV=.none:=Dflts.none hD QW;obtain rfl:kV=.none:=Dflts.noKw hD;obtain⟨a,vs,ns,rfl,rfl,Bt,hints,hlen⟩:=zgf hn hpre QV;refine enter_call (yS (call w s₀ s₁ mg mb fa o pm cd doc a vs ns G Y ho (fd_plain hd) iC hmg Bt hints hlen hg) λr s' hq=>?_);obtain⟨rfl,h2,h3,h4⟩:=hq;exact⟨.inl ⟨.bool true,.bool true,[],rfl,λ_=>rfl,.bool true,zfx l _,λ_=>⟨List.Pairwise.nil,λ_ hm=>(nomatch hm)⟩⟩,h2,h3,h4⟩
end Xc
namespace L2
open PySem PySem.Spec PyProof.Rows
theorem Xd:∀{vs:List Value} {ns:List Int},IntsAre vs ns->Vals (ns.map V.int) vs
 |_,_,.nil=>.nil
 |_,_,.cons n t h=>.cons ⟨t,rfl⟩ (Xd h)
def QX(h0:Heap)(H:Hp)(h:Heap)(e:Addr)(hd:Value):Prop:=
 hd=.none\/∃T oT ts,hd=.ref T/\h0.get? T=none/\H T=none/\T≠e/\h.get? T=some oT/\oT.data=.fields ts/\ts[3]?=some .none
structure Exc(h0:Heap)(H:Hp)(h:Heap)(e C:Addr)(dx:Option Addr):Prop where
 new:h0.get? e=none
 un:H e=none
 ob:∃oe vs hd,h.get? e=some oe/\oe.cls=.ref C/\oe.dict=dx/\oe.data=.fields vs/\vs[1]?=some hd/\QX h0 H h e hd
structure QZ(h0:Heap)(H:Hp)(fr:List Addr)(h h':Heap)(ch:List Addr):Prop where
 rec_:∀b∈ch,h0.get? b=none/\H b=none/\∃o vs,h.get? b=some o/\o.data=.fields vs
 keep:∀b o,h.get? b=some o->b∉fr->b∉ch->h'.get? b=some o
 slot:∀b o,h.get? b=some o->b∈fr->∃sl,h'.get? b=some {o with slots:=sl}
 there:∀b o,h.get? b=some o->∃o',h'.get? b=some o'
noncomputable def uD(head:Value)(L:Addr)(pl:List Value):Obj:=
 {cls:=.type "traceback",dict:=none,data:=.fields ([head,.ref L,.none,rawInt L,.none]++(if pl.isEmpty then List.replicate 6 Value.none else pl)).toArray}
theorem Xe(o:Obj)(f:Array Value->Array Value):(o.mapFields f).dict=o.dict:=by
 obtain⟨c,d,dt,sl⟩:=o;cases dt<;>rfl
theorem Xf(o:Obj)(f:Array Value->Array Value):(o.mapFields f).cls=o.cls:=by
 obtain⟨c,d,dt,sl⟩:=o;cases dt<;>rfl
section
variable {M:Model}{A:Around}{E:Value->Shared->Prop}{s:Shared}{base h0:Heap}{env:Env}{outer:List Env}{L e C:Addr}{dx:Option Addr}{H:Hp}{Q:Unit->Shared->Prop}
theorem Xg(pB:A.frames=some (env::outer))(hl:s.heap.FunFrames base (env::outer))(hf:env.frame=some L)
  (he:s.heap.get? e=some oe) (hd:oe.data=.fields vs) (hsz:1<vs.size)
  (k:∀h' T oT ts,s.heap.objs.size<=T->(∀b o,s.heap.get? b=some o->b∉frs (env::outer)->b≠e->h'.get? b=some o)->(∀b o,s.heap.get? b=some o->b∈frs (env::outer)->∃sl,h'.get? b=some {o with slots:=sl})->
   h'.get? e=some (oe.mapFields (·.setIfInBounds 1 (.ref T)))->h'.get? T=some oT->oT.data=.fields ts->3<ts.size->ts[3]?=some (rawInt L)->Q () {s with heap:=h'}) :
  wpAny M A (do let a <-frameOf env;let pl <-entryPlaceOf L hn;let b <-EntryCells.newEntry head a .none (rawInt L) .none pl;setField (.ref e) 1 b) Q E s:=by
 have Ij:e∉frs (env::outer):=λhm=>by
  obtain⟨_,o,ho,hx⟩:=hl.mem hm;rw[he] at ho;cases ho;exact hx vs hd
 refine aA (wpAny_frameOf_fun pB hl hf λh₁ sl₁=>?_);refine aA (wpAny_entryPlaceOf λpl cT=>?_);unfold EntryCells.newEntry newFields;refine aA (tK ?_ (cT.sizeOk5 _ _ _ _ _));have e1:h₁.get? e=some oe:=(sl₁.2.1 e Ij).trans he;have e2:(h₁.push (uD head L pl)).get? e=some oe:=cD _ e1;refine Gx e2 hd hsz ?_;have ne:h₁.objs.size≠e:=pL (bQ e1);have d3:=yO hd (·.setIfInBounds 1 (Value.ref h₁.objs.size));have kp:∀b o,h₁.get? b=some o->b≠e->((h₁.push (uD head L pl)).update e (Obj.mapFields (·.setIfInBounds 1 (Value.ref h₁.objs.size)))).get? b=some o:=λb o q n=>by
  rw[wu _ _ n.symm];exact cD _ q
 refine k _ h₁.objs.size (uD head L pl) _ (by rw[sl₁.1];exact cj _) (λb o q n1 n2=>kp b o ((sl₁.2.1 b n1).trans q) n2) (λb o q m=>?_) (Af _ e2 (K9 d3)) ?_ rfl ?_ ?_
 ·obtain⟨sl,z⟩:=sl₁.2.2 b o q;exact⟨sl,kp b _ z λy=>Ij (y▸m)⟩
 ·rw[wu _ _ ne.symm];exact eF _ rfl
 ·simp only[fH,pA,gW,DQ]<;>lia
 ·first
   |(simp;done)
   |(rcases cT with rfl|⟨_,_,_,_,_,_,_,rfl⟩<;>simp)
theorem zh2(pB:A.frames=some (env::outer))(hl:s.heap.FunFrames base (env::outer))(hf:env.frame=some L)(x:Exc h0 H s.heap e C dx)
  (k:∀h' T oT oe ts vs ch,QZ h0 H (frs (env::outer)) s.heap h' ch->s.heap.objs.size<=T->h'.get? e=some oe->oe.cls=.ref C->oe.dict=dx->oe.data=.fields vs->vs[1]?=some (.ref T)->h'.get? T=some oT->oT.data=.fields ts->
   3<ts.size->ts[3]?=some (rawInt L)->Q () {s with heap:=h'}):wpAny M A (noteFrame (.ref e) env) Q E s:=by
 obtain⟨oe,vs,hd,he,hc,Mu,vR,h1,tb⟩:=x.ob;have hsz:1<vs.size:=(Array.getElem?_eq_some_iff.mp h1).1;have Ij:∀b o ws,s.heap.get? b=some o->o.data=.fields ws->b∉frs (env::outer):=λb o ws q d hm=>by
  obtain⟨_,o',ho,hx⟩:=hl.mem hm;rw[q] at ho;cases ho;exact hx ws d
 unfold noteFrame;simp only[hf];refine aA (mH he vR h1 ?_);rcases tb with rfl|⟨T,oT,ts,rfl,nT,uT,neT,gT,dT,h3⟩
 ·rw[if_neg Ro];refine Xg pB hl hf he vR hsz λh' T oT ts lt kp sl ge gT dT z3 z4=>?_;refine k h' T oT _ ts _ [e] ⟨λb hb=>?_,λb o q n1 n2=>kp b o q n1 λz=>n2 (by rw[z];exact .head _),sl,λb o q=>?_⟩ lt ge ((Xf _ _).trans hc) ((Xe _ _).trans Mu) (yO vR _) (by simp[hsz]) gT dT z3 z4
  ·obtain rfl:b=e:=by simpa using hb
   exact⟨x.new,x.un,oe,vs,he,vR⟩
  ·by_cases z:b=e
   ·subst z;exact⟨_,ge⟩
   ·by_cases m:b∈frs (env::outer)
    ·obtain⟨w,q'⟩:=sl b o q m;exact⟨_,q'⟩
    ·exact⟨o,kp b o q m z⟩
 ·rw[if_pos (show (Value.ref T != Value.none)=true from by simp)];refine aA (mH gT dT h3 ?_);rw[if_neg (show ¬((Value.none==rawInt L)=true) from by simp[rawInt])];have z3:3<ts.size:=(Array.getElem?_eq_some_iff.mp h3).1;refine aA (Gx gT dT z3 ?_);have oth:∀b,b≠T->(s.heap.update T (Obj.mapFields (·.setIfInBounds 3 Value.none))).get? b=s.heap.get? b:=λb n=>wu _ _ n.symm;have hl':(s.heap.update T (Obj.mapFields (·.setIfInBounds 3 Value.none))).FunFrames base (env::outer):=hl.of_keeps λb o q nd=>⟨o,(oth b λz=>by subst z;rw[gT] at q;cases q;exact nd ts dT).trans q,rfl⟩;have sT:(s.heap.update T (Obj.mapFields (·.setIfInBounds 3 Value.none))).get? T=some (oT.mapFields (·.setIfInBounds 3 Value.none)):=Af _ gT (K9 (yO dT _));refine Xg pB hl' hf ((oth e neT.symm).trans he) vR hsz λh' T' oT' ts' lt kp sl ge gT' dT' z3' z4'=>?_;have lt':s.heap.objs.size<=T':=by
   have:=lt;simp only[Heap.size_after_update] at this;exact this
  refine k h' T' oT' _ ts' _ [e,T] ⟨λb hb=>?_,λb o q n1 n2=>kp b o ((oth b λz=>n2 (by simp[z])).trans q) n1 λz=>n2 (by simp[z]),λb o q m=>?_,λb o q=>?_⟩ lt' ge ((Xf _ _).trans hc) ((Xe _ _).trans Mu) (yO vR _) (by simp[hsz]) gT' dT' z3' z4'
  ·have hb':b=e\/b=T:=by simpa using hb
   rcases hb' with rfl|rfl
   ·exact⟨x.new,x.un,oe,vs,he,vR⟩
   ·exact⟨nT,uT,oT,ts,gT,dT⟩
  ·exact sl b o ((oth b λz=>by subst z;exact Ij b o ts q (by rw[gT] at q;cases q;exact dT) m).trans q) m
  ·by_cases z:b=e
   ·subst z;exact⟨_,ge⟩
   ·by_cases y:b=T
    ·subst y;exact⟨_,kp b _ sT (Ij b oT ts gT dT) z⟩
    ·by_cases m:b∈frs (env::outer)
     ·obtain⟨w,q'⟩:=sl b o ((oth b y).trans q) m;exact⟨_,q'⟩
     ·exact⟨o,kp b o ((oth b y).trans q) m z⟩
theorem zhV(he:s.heap.get? e=some oe)(hd:oe.data=.fields vs)(h1:vs[1]?=some (.ref T))(gT:s.heap.get? T=some oT)(dT:oT.data=.fields ts)(z3:3<ts.size)
  (k:∀h',(∀b o,b≠T->s.heap.get? b=some o->h'.get? b=some o)->h'.get? T=some (oT.mapFields (·.setIfInBounds 3 Value.none))->Q () {s with heap:=h'}):wpAny M A (setFlight (.ref e) none) Q E s:=by
 unfold setFlight;refine aA (mH he hd h1 ?_);rw[if_pos (show (Value.ref T != Value.none)=true from by simp)];exact Gx gT dT z3 (k _ (λb o n q=>(wu _ _ n.symm).trans q) (Af _ gT (K9 (yO dT _))))
theorem zgn(pB:A.frames=some (env::outer))(hl:s.heap.FunFrames base (env::outer))(hf:env.frame=some L)(x:Exc h0 H s.heap e C dx)
  (qN:∀b,s.heap.objs.size<=b->H b=none) (h0s:∀b o,h0.get? b=some o->∃o',s.heap.get? b=some o')
  (k:∀h' ch,QZ h0 H (frs (env::outer)) s.heap h' ch->Exc h0 H h' e C dx->Q () {s with heap:=h'}) :
  wpAny M A (noteFrame (.ref e) env) (λ_ s₁=>wpAny M A (setFlight (.ref e) none) Q E s₁) E s:=by
 have ele:∃o,s.heap.get? e=some o:=let ⟨oe,_,_,he,_⟩:=x.ob;⟨oe,he⟩;refine zh2 pB hl hf x λh' T oT oe ts vs ch t lt ge hc Mu vR h1 gT dT z3 z4=>?_;have neT:T≠e:=λz=>by
  obtain⟨o,q⟩:=ele;exact absurd (fZ (bQ q) (z▸lt)) (pJ _)
 refine zhV (s:={s with heap:=h'}) ge vR h1 gT dT z3 λh2 kp gT2=>?_;have nT:∀b o,s.heap.get? b=some o->b≠T:=λb o q z=>absurd (fZ (bQ q) (z▸lt)) (pJ _);refine k h2 ch ⟨t.rec_,λb o q n1 n2=>kp b o (nT b o q) (t.keep b o q n1 n2),λb o q m=>?_,λb o q=>?_⟩ ⟨x.new,x.un,oe,vs,.ref T,kp e oe neT.symm ge,hc,Mu,vR,h1,.inr ⟨T,_,_,rfl,?_,qN T lt,neT,gT2,yO dT _,by simp[z3]⟩⟩
 ·obtain⟨sl,q'⟩:=t.slot b o q m;exact⟨sl,kp b _ (nT b o q) q'⟩
 ·obtain⟨o',q'⟩:=t.there b o q;exact⟨o',kp b o' (nT b o q) q'⟩
 ·cases z:h0.get? T with
  |none=>rfl
  |some o=>
   obtain⟨o',q⟩:=h0s T o z;exact absurd rfl (nT T o' q)
end
noncomputable abbrev XS:=St->Value->Option Addr->Hp->Prop
def Sub(h0 h:Heap):Prop:=∀b o,h0.get? b=some o->∃o',h.get? b=some o'
theorem Sub.none{h0 h:Heap}(x:Sub h0 h){b:Addr}(e:h.get? b=none):h0.get? b=none:=by
 cases q:h0.get? b with
 |none=>rfl
 |some o=>
  obtain⟨o',z⟩:=x b o q;rw[e] at z;cases z
theorem Exc.older{h0 h1:Heap}{H:Hp}{h:Heap}{e C:Addr}{dx:Option Addr}(x:Exc h1 H h e C dx)(y:Sub h0 h1):Exc h0 H h e C dx:=by
 obtain⟨oe,vs,hd,a,b,c,d,f,tb⟩:=x.ob;refine⟨y.none x.new,x.un,oe,vs,hd,a,b,c,d,f,?_⟩;rcases tb with z|⟨T,oT,ts,z1,z2,z3⟩
 ·exact .inl z
 ·exact .inr ⟨T,oT,ts,z1,y.none z2,z3⟩
section
variable {X:Cx}{ao:List (Addr×Obj)}{Z:St}{H:Hp}{s:Shared}{h0 h':Heap}{ch fr:List Addr}
theorem iM.tbd{P:Program}{w:World}{h:Heap}(x:iM P w H h)(t:QZ h0 H fr h h' ch)(hf:∀b∈fr,H b=none):iM P w H h':=λa o e=>by
 have st:∀b u,(b=a\/H b=some (.own a))->h.get? b=some u->h'.get? b=some u:=λb u z q=>by
  have nb:H b≠none:=by
   rcases z with z|z
   ·rw[z,e];simp
   ·rw[z];simp
  exact t.keep b u q (λm=>nb (hf b m)) λm=>nb (t.rec_ b m).2.1
 exact(x a o e).stay st (λ_ z=>z) λ_ _ z=>z
end
def Raises(X:Cx)(EX:XS):Prop:=
 ∀(ao:List (Addr×Obj)) (Z:St) (H:Hp) (s:Shared) (h0:Heap) (e C:Addr) (dx:Option Addr),Inv X ao Z H s->(∀b o,X.s₀.heap.get? b=some o->b∉X.ex->∃o',h0.get? b=some o')->
  (∀p∈X.pn++ao,∃o,h0.get? p.1=some o)->Sub h0 s.heap->Exc h0 H s.heap e C dx->EX Z (.ref C) dx H->X.xe (.ref e) s
noncomputable def fu(P:Program)(w:World):rR:=λouter H s E e s'=>
 ∃(a C:Addr) (dx:Option Addr) (H':Hp),e=.ref a/\s'.os=s.os/\AllBare s'.gens/\Un (frs outer) [] H H' s.heap s'.heap/\iM P w H' s'.heap/\Exc s.heap H' s'.heap a C dx/\E (.ref C) dx H'
theorem zfp{P:Program}{w:World}{K:W.Frag}{mg:Str->Option Value}{base:Heap}{N:List Str}{qual:Str}{scope:Scope}{f:Addr}{cd:Value}{A:Around}{outer:List Env}{s:Shared}{H:Hp}{E:XK}{cm:Bool} :
  Raises (dH (fu P w) P w K mg base N qual scope f cd A outer s H E cm) (λ_ C dx H'=>E C dx H'):=by
 intro ao Z H1 s1 h0 e C dx I hs hp h01 x ex;have I0:Inv (dH (fu P w) P w K mg base N qual scope f cd A outer s H E cm) [] Z H1 s1:=I.jM λp z=>absurd z Zaa;show wpAny (model P w) (A.deeper (envOfC qual scope s.heap.objs.size f cd)) (leaving (envOfC qual scope s.heap.objs.size f cd) (.ref e)) _ _ s1;unfold leaving;have hsub:Sub s.heap h0:=λb o q=>hs b o q (by show b∉([]:List Addr);simp);refine aA (zgn (base:=base) (outer:=outer) (L:=s.heap.objs.size) I0.ok.frames I0.stack rfl x (λb z=>I0.hok.fresh z) h01 λh' ch t x'=>?_);have fin:∀b o,s.heap.get? b=some o->b∉ch:=λb o q m=>by
  have z:=hsub.none (t.rec_ b m).1;rw[q] at z;cases z
 have nL:∀b o,s.heap.get? b=some o->b∉frs outer->b∉frs (envOfC qual scope s.heap.objs.size f cd::outer):=λb o q n m=>by
  have m':b∈s.heap.objs.size::frs outer:=m;rcases jA.mp m' with z|z
  ·exact absurd (bQ q) (by rw[z];exact pJ _)
  ·exact n z
 refine⟨e,C,dx,H1,rfl,I0.os,I0.bare,⟨λb o q n hb _=>?_,λb o q n hb _=>?_,λb o q n _=>I0.base.free b o q n (by show b∉([]:List Addr);simp),λb o q _=>?_,I0.base.tups,I0.base.iW,I0.base.jB⟩,I0.hok.tbd t I0.mO,x'.older hsub,ex⟩
 ·exact t.keep b o (I0.base.keep b o q n hb (by show b∉([]:List Addr);simp)) (nL b o q hb) (fin b o q)
 ·obtain⟨sl,q1⟩:=I0.base.slot b o q n hb (by show b∉([]:List Addr);simp);obtain⟨sl',q2⟩:=t.slot b _ q1 (show b∈s.heap.objs.size::frs outer from gU _ hb);exact⟨sl',q2⟩
 ·obtain⟨o',q1⟩:=I0.base.there b o q (by show b∉([]:List Addr);simp);exact t.there b o' q1
section
variable {X:Cx}{cm:Bool}{k:Nat}{f C:Addr}{fd:FuncData}{ps:List Str}{sp:Sp}{EX:XS}{x m:Str}{p pos apos:Pos}{e o:Expr}{es:List Expr}{ta:TE}{t:TA}
theorem Raises.pass(R:Raises X EX)(I:Inv X ao Z H s)(h:fu X.prog X.w X.stack H s (EX Z) v s'):X.xe v s':=by
 obtain⟨a,C,dx,H',rfl,os,bare,un,hok,x,q⟩:=h;have aq:Sub s.heap s'.heap:=λb o z=>un.there b o z Zaa;refine R ao Z H' s' s.heap a C dx (I.call' os un hok bare λb z=>absurd z Zaa) (λb o z n=>I.base.there b o z n) (λp hp=>?_) aq x q;exact⟨p.2,(I.pin p hp).1⟩
noncomputable def Bu(sp:Sp)(EX:XS)(t:TA):TE:=λZ H Q=>t Z H λvs H1=>sp vs H1 Q (EX Z)
theorem zi9(F:cF X.prog X.w X.K X.mg X.base (fu X.prog X.w) cm k f fd ps sp)(i_:cm=true->X.aj=true)(hr:bx k X.A)(hb:Binds X.K fd ps [])(R:Raises X EX)
  (I:Inv X ao Z H s) (r:Vals vs us) (h:sp vs H Q (EX Z)):wpAny (model X.prog X.w) X.A (call (.ref f) us) (EP X ao Z Q) X.xe s:=by
 have hl:us.length=ps.length:=by rw[<-r.length];exact F.len _ _ _ _ h
 have hb':=hb s us I.lO (by rw[wA];exact hl);rw[wA] at hb';refine DY (yS (F.run X.A X.stack s H ⟨us,[]⟩ us vs Q (EX Z) (λz=>I.ok.hd (i_ z)) hr I.env0 hb' r h) λr s' hq=>?_);cases r with
 |error v=>exact R.pass I hq
 |ok fl=>
  cases fl with
  |ret u=>exact I.after hq
  |next=>exact False.elim hq
  |brk=>exact False.elim hq
  |cont=>exact False.elim hq
theorem zh4(F:cF X.prog X.w X.K X.mg X.base (fu X.prog X.w) cm k f fd ps sp)(i_:cm=true->X.aj=true)(hr:bx k X.A)(hg:Gl X x)(hm:X.mg x=some (.ref f))(hk:PySem.W.keepIn X.K (.ref f)=true)(hb:Binds X.K fd ps [])(R:Raises X EX)
  (ha:PA X (e::es) t) (rT:(x==("__debug__" : Str))=false:=by decide) (he:starEach (e::es) X.env=(false,eval e X.env)::starEach es X.env:=by rfl) (cT:(backTo pos (starEach es X.env)).any (·.1)=false:=by rfl) :
  PE X (.Call (.Name x p) (e::es) [] pos) (Bu sp EX t):=by
 intro ao s Z H Q I h;refine Ag (P_ I hg hm ?_ rT);exact Pg (h₀:=X.base) I.ok.mod.wF hk (aQ (ha pos ao s Z H _ I h) λus s1 ⟨vs,H1,I1,r,q⟩=>⟨I1.lO,zi9 F i_ hr hb R I1 r q⟩) he cT
end
noncomputable def xG(a C:Addr)(dx:Option Addr):HO:=.ext λh=>∃oe vs,h.get? a=some oe/\oe.cls=.ref C/\oe.dict=dx/\oe.data=.fields vs
section
variable {X:Cx}{ao:List (Addr×Obj)}{Z:St}{H:Hp}{s:Shared}{e:Addr}{o:HO}
theorem Inv.track(I:Inv X ao Z H s)(hn:X.s₀.heap.get? e=none)(un:H e=none)(hp:∀p∈X.pn++ao,p.1≠e)(hL:e≠X.env.locals)(hc:∀x c,X.env.cells.lookup x=some c->c≠e)
  (new:bI X.prog X.w (upd H e o) s.heap e o):Inv X ao Z (upd H e o) s:=by
 have ne:∀b u,H b=some u->b≠e:=λb u q z=>by rw[z,un] at q;cases q
 have n0:∀b u,X.s₀.heap.get? b=some u->b≠e:=λb u q z=>by rw[z,hn] at q;cases q
 refine⟨I.ok,I.os,I.bare,⟨I.base.keep,I.base.slot,λb u q n hx=>?_,I.base.there,λb xs q=>?_,λb u v q=>?_,λb ps q=>?_⟩,I.loc,I.cell,?_,λx c q=>?_,λp q=>?_,λb u q=>?_,I.len⟩
 ·rw[bT (n0 b u q)];exact I.base.free b u q n hx
 ·have z:=I.base.tups b xs q;rw[bT (ne b _ z)];exact z
 ·have z:=I.base.iW b u v q;rw[bT (ne b _ z)];exact z
 ·obtain⟨m,z,g⟩:=I.base.jB b ps q;exact⟨m,by rw[bT (ne b _ z)];exact z,g.mono λb o u q=>by rw[bT (ne b _ q)];exact q⟩
 ·rw[bT hL.symm];exact I.free
 ·rw[bT (hc x c q)];exact I.gb x c q
 ·obtain⟨a1,a2,a3⟩:=I.pin p q;exact⟨a1,by rw[bT (hp p q)];exact a2,a3⟩
 ·by_cases z:b=e
  ·subst z;rw[iB] at q;cases q;exact new
  ·rw[bT z] at q;exact(I.hok b u q).stay (λ_ _ _ r=>r) (λc r=>by rw[bT (ne c _ r)];exact r) λc xs r=>by rw[bT (ne c _ r)];exact r
noncomputable def Cx.seen(X:Cx)(A:Around)(aj:Bool)(pn:List (Addr×Obj))(E:Value->Shared->Prop):Cx:={X with A:=A,aj:=aj,pn:=pn,xe:=E}
theorem Inv.seen(I:Inv X ao Z H s)(hA:A.frames=X.A.frames)(hc:c=true->A.handled=none)(hp:∀p∈pn++ps,p∈X.pn++ao):Inv (X.seen A c pn E) ps Z H s:=
 ⟨⟨I.ok.mod,I.ok.kind,I.ok.glob,I.ok.blt,I.ok.above,I.ok.inj,I.ok.has,I.ok.cab,hc,hA.trans I.ok.frames,I.ok.stk,I.ok.Wg,I.ok.bs,I.ok.wK,I.ok.ug,I.ok.wL,I.ok.jC,I.ok.zc⟩,I.os,I.bare,I.base,I.loc,I.cell,I.free,I.gb,λp z=>I.pin p (hp p z),I.hok,I.len⟩
theorem Inv.Bv(I:Inv (X.seen A c pn E) ps Z H s)(hA:X.A.frames=A.frames)(hc:X.aj=true->X.A.handled=none)(hp:∀p∈X.pn++ao,p∈pn++ps):Inv X ao Z H s:=
 ⟨⟨I.ok.mod,I.ok.kind,I.ok.glob,I.ok.blt,I.ok.above,I.ok.inj,I.ok.has,I.ok.cab,hc,hA.trans I.ok.frames,I.ok.stk,I.ok.Wg,I.ok.bs,I.ok.wK,I.ok.ug,I.ok.wL,I.ok.jC,I.ok.zc⟩,I.os,I.bare,I.base,I.loc,I.cell,I.free,I.gb,λp z=>I.pin p (hp p z),I.hok,I.len⟩
end
end L2
namespace L2
open PySem PySem.Spec PyProof.Rows PySem.W Builtin.ObjectAttr
section
variable {prog:Program}{w:World}{A:Around}{E:Value->Shared->Prop}{s:Shared}{K:Frag}{x C:Addr}{ox:Obj}{od:Option Obj}{name:Str}{tk:Tok}
theorem zjE(XI:K.In s.heap)(I:InstAt s.heap x ox C od)(hf:findObj K C od name=some r)
  (h:match r with|.value v=>Q (.done (.ret v)) s|.bind g a=>wpAny (model prog w) A (call g [a,.ref x,.ref C]) (λv s'=>Q (.done (.ret v)) s') E s|.missing=>False) :
  wpAny (model prog w) A (Builtin.«object.__getattribute__» ⟨[.ref x,.str name tk],[]⟩) Q E s:=by
 obtain⟨hh,g,d,t,os⟩:=s;have L0:=I.type (M:=model prog w);have L1:=looks_find (M:=model prog w) XI I hf;unfold Builtin.«object.__getattribute__»;refine aA (DX (a:=(Value.ref x,[Value.str name tk])) (by rfl) ?_);refine aA (DX (a:=name) (by rfl) ?_);refine aA (L0.at (aA (L1.at ?_)));cases r with
 |value v=>exact aP h
 |bind g a=>
  show wpAny _ _ (holding [a] (call g [a,.ref x,.ref C]) >>= ret) _ _ _;exact aA (pK (f9 h (λv s' z=>aP z) λ_ _ z=>z))
 |missing=>exact h.elim
theorem zgF(XI:K.In s.heap)(I:InstAt s.heap x ox C od)(hb:mroIn K C (.type "BaseException")=some true)(hf:findObj K C od name=some r)
  (h:match r with|.value v=>R (.ok (.ret v)) s|.bind g a=>wpAny (model prog w) A.in1 (call g [a,.ref x,.ref C]) (λv s'=>R (.ok (.ret v)) s') (λe s'=>R (.error e) s') s|.missing=>False) :
  codeAny (model prog w) A (.call (.builtin "BaseException.__getattribute__") ⟨[.ref x,.str name tk],[]⟩) R s:=by
 have hk:builtinKind "BaseException.__getattribute__"=some .slot:=by decide +kernel
 have Bw:splitId "BaseException.__getattribute__"=some ("BaseException","__getattribute__"):=by decide +kernel
 have ha:=F.args_bexc_ga (.ref x) (.str name tk);refine codeAny_call_builtin F.attr_ValueError.ga.plain F.entry_bexc_ga ?_;have fin:wpAny (model prog w) A.in1 (Builtin.«object.__getattribute__» ⟨[.ref x,.str name tk],[]⟩) (λfin s'=>match fin with|.done f=>R (.ok f) s'|.again c'=>c'.quiet=true/\codeAny (model prog w) A c' R s') (λe s'=>R (.error e) s') s:=by
  refine zjE XI I hf ?_;cases r with
  |value v=>exact h
  |bind g a=>exact h
  |missing=>exact h.elim
 have chk:∀Q:Unit->Shared->Prop,Q () s->wpAny (model prog w) A.in1 (checkBuiltinCall "BaseException.__getattribute__" ⟨[.ref x,.str name tk],[]⟩) Q (λe s'=>R (.error e) s') s:=λQ hq=>by
  obtain⟨hh,g,d,t,os⟩:=s;have L0:=I.type (M:=model prog w);have L1:=looks_mroIn (M:=model prog w) XI hb;have LI:Looks (model prog w) hh (isInstance (.ref x) (.type "BaseException")) true:=L0.andThen L1;simp only[checkBuiltinCall,hk,Bw];refine aA ?_
  repeat (first|with_reducible exact hq|with_reducible refine LI.at ?_|wp_step)
 exact chk _ fin
theorem bexc_get?(XI:K.In s.heap)(I:InstAt s.heap x ox C od)(hb:mroIn K C (.type "BaseException")=some true)(hga:findIn K (.ref C) "__getattribute__"=some (some (.builtin "BaseException.__getattribute__")))
  (hgn:findIn K (.ref C) "__getattr__"=some none) (hf:findObj K C od name=some r)
  (h:match r with|.value v=>wpAny (model prog w) A (handedOut v) (λu s'=>Q (some u) s') (λ_ _=>False) {s with toks:=s.toks+1}|.bind g a=>wpAny (model prog w) A.in1 (call g [a,.ref x,.ref C]) (λv s'=>wpAny (model prog w) A (handedOut v) (λu s''=>Q (some u) s'') (λ_ _=>False) s') (λ_ _=>False) {s with toks:=s.toks+1}|.missing=>False) :
  wpAny (model prog w) A (getAttr? (.ref x) name) Q E s:=by
 obtain⟨hh,g,d,t,os⟩:=s;have L0:=I.type (M:=model prog w);have L1:=looks_findIn (M:=model prog w) XI hga;have L2:=looks_findIn (M:=model prog w) XI hgn;have Mv:(Value.builtin "BaseException.__getattribute__"==Value.builtin "object.__getattribute__")=false:=by decide +kernel
 unfold getAttr? getAttrBy? getAttrBy;refine aA (wpAny_mkText (aA (DW (pK (aA (L0.at (aA (L1.at ?_))))))));show wpAny _ _ (if (onTheHeap (.ref C)&&(Value.builtin "BaseException.__getattribute__"==Value.builtin "object.__getattribute__"))=true then _ else getAttrByItsOwn _ _ _ _ _ _) _ _ _;rw[Mv,Bool.and_false,if_neg Ro];unfold getAttrByItsOwn hookBefore callGetattribute boundAndCalled;refine aA (L2.at ?_);refine aA (DW (pK (aA (DX (F.attr_ValueError.ga.bind (.ref x)) ?_))));refine DY (zgF XI I hb hf ?_);cases r with
 |value v=>exact f9 h (λv s'' hv=>aP hv) (λ_ _ z=>z.elim)
 |bind g a=>exact f9 h (λv s' hv=>f9 hv (λu s'' z=>aP z) λ_ _ z=>z.elim) (λ_ _ z=>z.elim)
 |missing=>exact h.elim
end
structure XC(K:Frag)(C:Addr):Prop where
 ga:findIn K (.ref C) "__getattribute__"=some (some (.builtin "BaseException.__getattribute__"))
 gn:findIn K (.ref C) "__getattr__"=some none
 cl:findIn K (.ref C) "__class__"=some (some (.builtin "object.__class__"))
 mb:mroIn K C (.type "BaseException")=some true
 mo:mroIn K C (.type "object")=some true
 cd:(clsIn K C).isSome=true
 dg:specialIn K (.builtin "object.__class__") "__get__"=some (some (.builtin "getset_descriptor.__get__"))
 dt:takesIn K (.builtin "object.__class__")=some true
theorem zgL{K:Frag}{C:Addr}{od:Option Obj}{name:Str}{a g:Value}(hc:(clsIn K C).isSome=true)(ha:findIn K (.ref C) name=some (some a))(hg:specialIn K a "__get__"=some (some g))(ht:takesIn K a=some true):findObj K C od name=some (.bind g a):=by
 obtain⟨cd,z⟩:=Oz.mp hc;simp only[findObj,z,ha,hg,ht,Option.bind_some]
theorem Xh{K:Frag}{e C:Addr}(c:XC K C):KitX K (.ref e) (.ref C) (λh=>∃ox od,InstAt h e ox C od) where
 ty:=λ_ _ _ ⟨_,_,I⟩=>I.type
 it:=λ_ _ XI _=>by
  have q:=c.cd;unfold clsIn at q;split at q
  ·rename_i c' d' cd' sl' lk;intro A' Q' E' s' k z;unfold isType loadHead;exact aA (wpAny_loadPart (k _ _ (XI _ _ lk)) (aP z))
  ·cases q
 ne:=λh tp dd its n sl XI htp=>by
  refine Bool.eq_false_iff.mpr λz=>?_;have ee:C=tp:=Value.ref.inj (nR.mp z);subst ee;have q:=c.cd;unfold clsIn at q;split at q
  ·rename_i c' d' cd' sl' lk;have y:=(XI _ _ lk).symm.trans htp;cases y
  ·cases q
 ca:=λ{prog w A E Q s} XI ⟨ox,od,I⟩ k=>by
  have hf:findObj K C od "__class__"=some (.bind (.builtin "getset_descriptor.__get__") (.builtin "object.__class__")):=zgL c.cd c.cl c.dg c.dt;refine bexc_get? XI I c.mb c.ga c.gn hf ?_;exact DY (class_get (s:={s with toks:=s.toks+1}) (ox:=ox) (od:=od) XI I c.mo (handed_on rfl k))
end L2
namespace L2
open PySem PySem.Spec PyProof.Rows
theorem zfk:∀(names:List (Str×NameKind)) (cs:List (Str×Addr)),(∀x∈names,x.2=.free->∃c,env.cells.lookup x.1=some c)->(∀x c,cs.lookup x=some c->env.cells.lookup x=some c)->
  ∃cl,(forIn names cs λx r=>(do
    if x.2==.free then
     let a <-cellOf env x.1
     pure (ForInStep.yield ((x.1,a)::r))
    else pure (ForInStep.yield r)):Sem (List (Str×Addr)))=pure cl/\(∀x c,cl.lookup x=some c->env.cells.lookup x=some c)/\(∀x c,cs.lookup x=some c->cl.lookup x=some c)/\∀x∈names,x.2=.free->∃c,cl.lookup x.1=some c:=by
 intro names
 induction names with
 |nil=>intro cs _ h;exact⟨cs,rfl,h,λ_ _ q=>q,λx z=>nomatch z⟩
 |cons y r ih=>
  intro cs h1 h2;obtain⟨n,k⟩:=y;by_cases hk:k=.free
  ·subst hk;obtain⟨c,hc⟩:=h1 (n,.free) lg rfl;have hc:env.cells.lookup n=some c:=hc;have h3:∀x d,((n,c)::cs).lookup x=some d->env.cells.lookup x=some d:=λx d q=>by
    rw[pH] at q;by_cases z:x=n
    ·subst z;simp at q;subst q;exact hc
    ·have z':(x==n)=false:=by simpa using z
     rw[z'] at q;exact h2 x d q
   obtain⟨cl,e,a,b,d⟩:=ih ((n,c)::cs) (λx z=>h1 x (gU _ z)) h3;have hco:cellOf env n=pure c:=by
    unfold cellOf;rw[hc]
   refine⟨cl,?_,a,λx q z=>?_,λx z q=>?_⟩
   ·rw[DR];simp only[DN,if_true,hco];exact e
   ·by_cases y:x=n
    ·subst y;have z1:=h2 x q z;rw[hc] at z1;cases z1;exact b x c Zaa
    ·have y':(x==n)=false:=by simpa using y
     exact b x q (by rw[pH,y'];exact z)
   ·rcases jA.mp z with z|z
    ·subst z;exact⟨c,b n c Zaa⟩
    ·exact d x z q
  ·have hb:(k==NameKind.free)=false:=by simpa using hk
   obtain⟨cl,e,a,b,d⟩:=ih cs (λx z=>h1 x (gU _ z)) h2;refine⟨cl,?_,a,b,λx z q=>?_⟩
   ·rw[DR];simp only[hb,rG,nU];exact e
   ·rcases jA.mp z with z|z
    ·subst z;exact absurd q hk
    ·exact d x z q
theorem ze2(h:∀x∈scope.names,x.2=.free->∃c,env.cells.lookup x.1=some c):∃cl,closureFor scope env=pure cl/\(∀x c,cl.lookup x=some c->env.cells.lookup x=some c)/\∀x∈scope.names,x.2=.free->∃c,cl.lookup x.1=some c:=by
 obtain⟨cl,e,a,_,d⟩:=zfk scope.names [] h (λx c q=>by cases q);refine⟨cl,?_,a,d⟩;unfold closureFor;have e':=e;simp only[pure_bind,bind_pure] at e' ⊢;exact e'
theorem Q0{env:Env}{k:NameKind}:∀{names:List (Str×NameKind)} {x:Str},(names.map λ(n,k)=>if (k==NameKind.free&&env.scope.kind==.function&&env.kindOf n==some .cell) then (n,NameKind.cell) else (n,k)).lookup x=some k->
  names.lookup x=some k\/(k=.cell/\names.lookup x=some .free)
 |[],x,h=>by simp at h
 |(n,q)::r,x,h=>by
  rw[jk,pH] at h;rw[pH];have hd:∀c:Bool,(if c=true then (n,NameKind.cell) else (n,q)).1=n:=λc=>by cases c<;>rfl
  rw[hd] at h;by_cases z:x=n
  ·subst z;simp only[DN] at h ⊢;split at h
   ·rename_i y;simp only[eG,nR] at y;cases h;exact .inr ⟨rfl,by rw[y.1.1]⟩
   ·cases h;exact .inl rfl
  ·have z':(x==n)=false:=by simpa using z
   simp only[z'] at h ⊢;exact Q0 h
theorem Mw{env:Env}:∀{names:List (Str×NameKind)} {x:Str},names.lookup x=some .free->
  (names.map λ(n,k)=>if (k==NameKind.free&&env.scope.kind==.function&&env.kindOf n==some .cell) then (n,NameKind.cell) else (n,k)).lookup x=some .cell \/
  (names.map λ(n,k)=>if (k==NameKind.free&&env.scope.kind==.function&&env.kindOf n==some .cell) then (n,NameKind.cell) else (n,k)).lookup x=some .free
 |[],x,h=>by simp at h
 |(n,q)::r,x,h=>by
  rw[pH] at h;rw[jk,pH];have hd:∀c:Bool,(if c=true then (n,NameKind.cell) else (n,q)).1=n:=λc=>by cases c<;>rfl
  rw[hd];by_cases z:x=n
  ·subst z;simp only[DN] at h ⊢;cases h
   split
   ·exact .inl rfl
   ·exact .inr rfl
  ·have z':(x==n)=false:=by simpa using z
   simp only[z'] at h ⊢;exact Mw h
structure oA(n:Nat)(h1:Heap)(names:List (Str×NameKind))(cl fB:List (Str×Addr)):Prop where
 d1:∀x c,fB.lookup x=some c->(cl.lookup x=some c/\(x,NameKind.cell)∉names)\/((x,NameKind.cell)∈names/\n<c/\h1.IsCell c none)
 d2:∀x y c,n<c->fB.lookup x=some c->fB.lookup y=some c->x=y
 d3:∀x,names.lookup x=some .cell->∃c,fB.lookup x=some c
 d4:∀x c,(x,NameKind.cell)∉names->cl.lookup x=some c->fB.lookup x=some c
theorem cc:(NameKind.cell==NameKind.cell)=true:=by decide
theorem Ik:∀(names:List (Str×NameKind)) (h:Heap) (b:Addr) (o:Obj),h.get? b=some o->(pushCells h names).get? b=some o
 |[],h,b,o,e=>e
 |(x,k)::r,h,b,o,e=>by
  rw[pushCells]
  split
  ·exact Ik r _ b o (cD _ e)
  ·exact Ik r h b o e
theorem Q5:∀(names:List (Str×NameKind)) (h:Heap) (acc:List (Str×Addr)) (x:Str) (c:Addr),(cellsFrom h.objs.size names acc).lookup x=some c->
  (acc.lookup x=some c/\(x,NameKind.cell)∉names)\/((x,NameKind.cell)∈names/\h.objs.size<=c/\(pushCells h names).IsCell c none)
 |[],h,acc,x,c,e=>.inl ⟨e,by simp⟩
 |(y,k)::r,h,acc,x,c,e=>by
  rw[cellsFrom] at e;rw[pushCells];by_cases hk:k=.cell
  ·subst hk;rw[if_pos cc] at e ⊢;have sz:(h.push {cls:=Value.type "cell",data:=Data.cell none}).objs.size=h.objs.size+1:=by unfold Heap.push;simp
   rw[<-sz] at e;rcases Q5 r _ _ x c e with ⟨a,b⟩|⟨a,b,d⟩
   ·rw[pH] at a;by_cases z:x=y
    ·subst z;simp at a;subst a;exact .inr ⟨lg,cj _,_,Ik r _ _ _ (eF _ rfl),rfl⟩
    ·have z':(x==y)=false:=by simpa using z
     rw[z'] at a;exact .inl ⟨a,by simp[z,b]⟩
   ·exact .inr ⟨gU _ a,by lia,d⟩
  ·have hb:(k==NameKind.cell)=false:=by simpa using hk
   rw[if_neg (by rw[hb];decide)] at e ⊢;rcases Q5 r _ _ x c e with ⟨a,b⟩|⟨a,b,d⟩
   ·exact .inl ⟨a,by simp[b];intro _ q;exact hk q.symm⟩
   ·exact .inr ⟨gU _ a,b,d⟩
theorem Q6:∀(names:List (Str×NameKind)) (n:Nat) (acc:List (Str×Addr)) (x y:Str) (c:Addr),(∀u v,acc.lookup u=some c->acc.lookup v=some c->u=v)->(∀u a,acc.lookup u=some a->a<n\/a≠c)->(cellsFrom n names acc).lookup x=some c->(cellsFrom n names acc).lookup y=some c->x=y
 |[],n,acc,x,y,c,h,_,e1,e2=>h x y e1 e2
 |(z,k)::r,n,acc,x,y,c,h,hl,e1,e2=>by
  rw[cellsFrom] at e1 e2;by_cases hk:k=.cell
  ·subst hk;rw[if_pos cc] at e1 e2;refine Q6 r (n+1) _ x y c (λu v a b=>?_) (λu a q=>?_) e1 e2
   ·rw[pH] at a b;by_cases u1:u=z
    ·by_cases v1:v=z
     ·rw[u1,v1]
     ·have v':(v==z)=false:=by simpa using v1
      subst u1;simp at a;rw[v'] at b;subst a;have b:acc.lookup v=some n:=b;rcases hl v n b with q|q
      ·exact absurd q (pJ _)
      ·exact absurd rfl q
    ·have u':(u==z)=false:=by simpa using u1
     rw[u'] at a;have a:acc.lookup u=some c:=a;by_cases v1:v=z
     ·subst v1;simp at b;subst b;rcases hl u n a with q|q
      ·exact absurd q (pJ _)
      ·exact absurd rfl q
     ·have v':(v==z)=false:=by simpa using v1
      rw[v'] at b;exact h u v a b
   ·rw[pH] at q;by_cases u1:u=z
    ·subst u1;simp at q;subst q;exact .inl (Gs _)
    ·have u':(u==z)=false:=by simpa using u1
     rw[u'] at q;exact(hl u a q).imp (λq=>tL q) id
  ·have hb:(k==NameKind.cell)=false:=by simpa using hk
   rw[if_neg (by rw[hb];decide)] at e1 e2;exact Q6 r n acc x y c h hl e1 e2
theorem Q7:∀(names:List (Str×NameKind)) (n:Nat) (acc:List (Str×Addr)) (x:Str) (c:Addr),(x,NameKind.cell)∉names->acc.lookup x=some c->(cellsFrom n names acc).lookup x=some c
 |[],n,acc,x,c,_,e=>e
 |(z,k)::r,n,acc,x,c,h,e=>by
  rw[cellsFrom];have hr:(x,NameKind.cell)∉r:=λq=>h (gU _ q);by_cases hk:k=.cell
  ·subst hk;rw[if_pos cc];refine Q7 r (n+1) _ x c hr ?_;have:x≠z:=λq=>h (by rw[q];exact lg);have z':(x==z)=false:=by simpa using this
   rw[pH,z'];exact e
  ·have hb:(k==NameKind.cell)=false:=by simpa using hk
   rw[if_neg (by rw[hb];decide)];exact Q7 r n acc x c hr e
theorem Q8:∀(names:List (Str×NameKind)) (acc:List (Str×Addr)) (s:Shared) (Q:List (Str×Addr)->Shared->Prop),
  Q (cellsFrom s.heap.objs.size names acc) {s with heap:=pushCells s.heap names}->
  wpAny M A (forIn names acc λx (cells:List (Str×Addr))=>match x with
   |(name,kind)=>if (kind==NameKind.cell)=true then do
     let a <-alloc {cls:=Value.type "cell",data:=Data.cell none}
     pure (ForInStep.yield ((name,a)::cells))
    else pure (ForInStep.yield cells)) Q E s
 |[],acc,s,Q,h=>by
  rw[Lp];exact aP h
 |(z,k)::r,acc,s,Q,h=>by
  rw[DR];rw[cellsFrom,pushCells] at h;by_cases hk:k=.cell
  ·subst hk;rw[if_pos cc,if_pos cc] at h;refine aA ?_;dsimp only;rw[if_pos cc];refine aA (wpAny_alloc (aP ?_));refine Q8 r _ _ Q ?_;have sz:(s.heap.push {cls:=Value.type "cell",data:=Data.cell none}).objs.size=s.heap.objs.size+1:=by unfold Heap.push;simp
   rw[sz];exact h
  ·have hb:(k==NameKind.cell)=false:=by simpa using hk
   rw[if_neg (by rw[hb];decide),if_neg (by rw[hb];decide)] at h;refine aA ?_;dsimp only;rw[if_neg (by rw[hb];decide)];exact aP (Q8 r _ _ Q h)
theorem Xi(old:∀x c,cl.lookup x=some c->c<s.heap.objs.size)(inj:∀x y c,cl.lookup x=some c->cl.lookup y=some c->x=y)
  (h:∀h1 fB,h1.Ns s.heap.objs.size (λ_=>none)->(∀b o,s.heap.get? b=some o->h1.get? b=some o)->oA s.heap.objs.size h1 scope.names cl fB->Q {scope:=scope,locals:=s.heap.objs.size,globals:=globals,cells:=fB,qual:=qual,func:=none,code:=env.code,frame:=env.frame,builtins:=env.builtins} {s with heap:=h1}) :
  wpAny M A (newFunctionEnv scope globals cl [] qual none .none (some env)) Q E s:=by
 unfold newFunctionEnv;refine aA (wpAny_alloc ?_);refine aA ?_;refine Q8 scope.names cl _ _ ?_;dsimp only;rw[Lp];refine aA (aP (aP ?_));have sz:(s.heap.push {cls:=Value.type (if (some env).isSome=true then "dict" else "frame"),data:=Data.dict #[]}).objs.size=s.heap.objs.size+1:=by unfold Heap.push;simp
 refine h _ _ ?_ (λb o e=>Ik _ _ _ _ (cD _ e)) ⟨λx c e=>?_,λx y c hc e1 e2=>?_,λx e=>?_,λx c hx e=>Q7 _ _ _ x c hx e⟩
 ·refine⟨_,#[],_,Ik _ _ _ _ (eF _ rfl),rfl,?_,λ_=>rfl⟩;intro e he;simp at he
 ·rcases Q5 _ _ _ x c e with ⟨a,b⟩|⟨a,b,d⟩
  ·exact .inl ⟨a,b⟩
  ·rw[sz] at b;exact .inr ⟨a,by lia,d⟩
 ·exact Q6 _ _ _ x y c (λu v a b=>inj u v c a b) (λu a q=>.inl (by rw[sz];exact tL (old u a q))) e1 e2
 ·have:=K8 scope.names (s.heap.push {cls:=Value.type (if (some env).isSome=true then "dict" else "frame"),data:=Data.dict #[]}).objs.size cl (.inl e);exact Oz.mp this
noncomputable def Cx.blk(X:Cx)(scope:Scope)(cl:List (Str×Addr))(N:List Str)(C:Addr)(s3:Shared)(H3:Hp)(fp:List Addr)(ao:List (Addr×Obj)):Cx where
 prog:=X.prog
 w:=X.w
 K:=X.K
 mg:=X.mg
 base:=X.base
 A:=X.A
 N:=N
 s₀:=s3
 H₀:=H3
 env:=compEnvC scope cl C X.env
 outer:=X.stack
 stack:=X.stack
 ex:=fp
 fn:=λx=>scope.names.lookup x==some .cell
 aj:=X.aj
 pn:=X.pn++ao
 xe:=λ_ _=>False
structure b_(sc scope:Scope):Prop where
 kind:scope.kind=.function
 Xj:∀y∈scope.names,y.2=.cell->scope.names.lookup y.1=some .cell
 free:∀y∈scope.names,y.2=.free->sc.names.lookup y.1=some .cell\/sc.names.lookup y.1=some .free
 loc:∀y∈scope.names,y.2=.local->scope.names.lookup y.1=some .local
section
variable {X:Cx}{ao:List (Addr×Obj)}{Z:St}{H:Hp}{s:Shared}{scope:Scope}{cl:List (Str×Addr)}{N:List Str}{fp:List Addr}{ZY:St}
theorem Xk{h1:Heap}{t:Nat}{fB:List (Str×Addr)}(I:Inv X ao Z H s)(B:b_ X.env.scope scope)(c1:∀x c,cl.lookup x=some c->X.env.cells.lookup x=some c)(c2:∀x∈scope.names,x.2=.free->∃c,cl.lookup x.1=some c)
  (f:∀b∈fp,fL X ao H b) (fo:∀b∈fp,∃o,s.heap.get? b=some o) (hn:h1.Ns s.heap.objs.size (λ_=>none)) (kp:∀b o,s.heap.get? b=some o->h1.get? b=some o) (CN:oA s.heap.objs.size h1 scope.names cl fB)
  (hl:ZY.length=N.length) (hZ:∀(i:Nat) (x:Str) (v:V),N[i]?=some x->ZY[i]?=some (some v)->scope.names.lookup x=some .free/\∃j:Nat,X.N[j]?=some x/\Z[j]?=some (some v)) :
  Inv (X.blk scope fB N s.heap.objs.size s H fp ao) [] ZY H {s with heap:=h1,toks:=t}:=by
 have lt:∀b o,s.heap.get? b=some o->b≠s.heap.objs.size:=λb o q=>cY (bQ q);have Xl:∀b,b≠X.env.locals->b∉X.fs->b∉frs X.stack:=λb a c z=>(jA.mp (I.jU b z)).elim a c;have mem_of:∀x k,scope.names.lookup x=some k->(x,k)∈scope.names:=λx k q=>Dw q;have old:∀x c,cl.lookup x=some c->c<s.heap.objs.size:=λx c q=>by
  obtain⟨v,o,q1,q2⟩:=I.cell x c (c1 x c q);exact bQ q1
 have Xm:∀x,scope.names.lookup x=some .free->(x,NameKind.cell)∉scope.names:=λx q z=>by
  have:=B.Xj _ z rfl;have this:scope.names.lookup x=some .cell:=this;rw[q] at this;cases this
 refine⟨⟨I.ok.mod,B.kind,I.ok.glob,I.ok.blt,cj _,λx y c a b=>?_,λx hx=>?_,λx c z q=>?_,I.ok.hd,I.ok.frames,.inl rfl,λb hb=>?_,I.bs,jQ I.ok.wK I.sz,λb o q hb=>?_,λb hb=>Xl b (f b hb).2.1 (f b hb).2.2.1,I.stack,⟨I.mO,I.Az⟩⟩,
  rfl,I.bare,Un.kept kp,⟨_,hn,λi x v e1 e2 e3=>?_⟩,λx c q=>?_,I.hok.fresh (cj _),λx c q=>?_,λp hp=>?_,I.hok.kept kp,hl⟩
 ·by_cases hc:s.heap.objs.size<c
  ·exact CN.d2 x y c hc a b
  ·rcases CN.d1 x c a with ⟨a1,_⟩|⟨_,a1,_⟩
   ·rcases CN.d1 y c b with ⟨b1,_⟩|⟨_,b1,_⟩
    ·exact I.ok.inj x y c (c1 x c a1) (c1 y c b1)
    ·exact absurd b1 hc
   ·exact absurd a1 hc
 ·have hx:(relabel scope X.env).names.lookup x=some .cell\/(relabel scope X.env).names.lookup x=some .free:=hx;have fr:scope.names.lookup x=some .cell\/scope.names.lookup x=some .free:=by
   rcases hx with hx|hx
   ·rcases Q0 hx with z|⟨_,z⟩
    ·exact .inl z
    ·exact .inr z
   ·rcases Q0 hx with z|⟨z,_⟩
    ·exact .inr z
    ·cases z
  rcases fr with fr|fr
  ·exact CN.d3 x fr
  ·obtain⟨c,hc⟩:=c2 (x,.free) (mem_of x _ fr) rfl;exact⟨c,CN.d4 x c (Xm x fr) hc⟩
 ·rcases CN.d1 x c q with ⟨_,q1⟩|⟨_,q1,_⟩
  ·have z:(scope.names.lookup x==some NameKind.cell)=true:=z;exact absurd (mem_of x _ (by simpa using z)) q1
  ·exact rM q1
 ·obtain⟨o,q⟩:=fo b hb;refine⟨lt b o q,λx c z=>?_⟩;rcases CN.d1 x c z with ⟨q1,_⟩|⟨_,q1,_⟩
  ·exact(f b hb).2.2.2.2.1 x c (c1 x c q1)
  ·exact λe=>absurd (bQ q) (by rw[<-e];exact D_.mpr (rM q1))
 ·obtain⟨_,_,_,z,_⟩:=f b hb;rcases z with z|z
  ·exact I.ok.ug b o q z
  ·exact absurd (fZ (bQ q) (jQ I.ok.wK z)) (pJ _)
 ·obtain⟨fr,j,hj,hv⟩:=hZ i x v e1 e2;have hk:=B.free (x,.free) (mem_of x _ fr) rfl;obtain⟨m,hm,hlk⟩:=I.loc;obtain⟨u,r,l⟩:=hlk j x v hj hv (hk.elim (λz=>.inr (.inl z)) λz=>.inr (.inr z));obtain⟨c',lE⟩:=c2 (x,.free) (mem_of x _ fr) rfl;have lE:cl.lookup x=some c':=lE;refine⟨u,r,.inr ⟨Mw fr,c',CN.d4 x c' (Xm x fr) lE,?_⟩⟩;rcases l with ⟨k1,_⟩|⟨_,c,k2,oc,k3,k4⟩
  ·have k1:X.env.scope.names.lookup x=some .local:=k1;rcases hk with hk|hk
   ·have hk:X.env.scope.names.lookup x=some .cell:=hk;rw[k1] at hk;cases hk
   ·have hk:X.env.scope.names.lookup x=some .free:=hk;rw[k1] at hk;cases hk
  ·have e:=c1 x c' lE;rw[k2] at e;cases e;exact⟨oc,kp _ oc k3,k4⟩
 ·rcases CN.d1 x c q with ⟨q1,_⟩|⟨_,_,q1⟩
  ·obtain⟨v,o,q1,q2⟩:=I.cell x c (c1 x c q1);exact⟨v,o,kp c o q1,q2⟩
  ·exact⟨none,q1⟩
 ·rcases CN.d1 x c q with ⟨q1,_⟩|⟨_,q1,_⟩
  ·exact I.gb x c (c1 x c q1)
  ·exact I.hok.fresh (rM q1)
 ·have hp:p∈X.pn++ao:=by
   have z:p∈(X.pn++ao)++[]:=hp;simpa using z
  obtain⟨a1,a2,a3,a4,a5⟩:=I.pin p hp;exact⟨kp _ _ a1,a2,lt _ _ a1,Xl _ a3 a4,a5⟩
theorem Xn(I:Inv X ao Z H s)(f:∀b∈fp,fL X ao H b)(aZ:Inv (X.blk scope cl N s.heap.objs.size s H fp ao) [] Z' H' s'):Inv X ao Z H' s':=
 I.call' (ch:=fp) aZ.os aZ.base aZ.hok aZ.bare λb hb=>by
  obtain⟨_,a2,_,a4,a5,a6⟩:=f b hb;exact⟨a4.imp id λz=>Du z,a2,a5,a6⟩
theorem Mx{Z':St}{H':Hp}{s':Shared}{h2:Heap}{C:Addr}(aZ:Inv X ao Z H' s')(hC:X.s₀.heap.objs.size<=C)(n1:H' C=none)(n2:C≠X.env.locals)(n3:∀x c,X.env.cells.lookup x=some c->c≠C)(n4:∀p∈X.pn++ao,p.1≠C)
  (sb:Heap.SameBut C s'.heap h2):Inv X ao Z H' {s' with heap:=h2}:=
 aZ.turned (t':=s'.toks) (λb o z q=>(sb.2 b z).trans q) n1 n2 (.inr hC) n3 n4
end
noncomputable abbrev jN(ifs:List Expr)(env:Env):Sem Bool:=forIn ifs true λc r=>if r=true then do let ok <-isTrue c env (eval c env);pure (ForInStep.yield ok) else pure (ForInStep.yield r)
theorem zfZ{prog:Program}{w:World}{A:Around}{R:Result->Shared->Prop}{s:Shared}{elt target iter:Expr}{ifs:List Expr}{scope:Scope}{pos:Pos}{it acc:Value}{env:Env}(V:Nat->Shared->Prop)
  (turn:∀n s,V n s->wpAny (model prog w) A (pyNext it) (λr s₁=>match r with
   |none=>R (.ok .next) s₁
   |some v=>wpAny (model prog w) A (letOwnedTupleGo target it v) (λ_ s₂=>wpAny (model prog w) A (assign target env v) (λ_ s₃=>
     wpAny (model prog w) A (jN ifs env) (λok s₄=>
      if ok=true then wpAny (model prog w) A (eval elt env) (λx s₅=>wpAny (model prog w) A (call (.builtin "list.append") [acc,x]) (λ_ s₆=>∃m,m<n/\V m s₆) (λ_ _=>False) s₅) (λ_ _=>False) s₄
      else ∃m,m<n/\V m s₄) (λ_ _=>False) s₃) (λ_ _=>False) s₂) (λ_ _=>False) s₁) (λ_ _=>False) s)
  (n:Nat) (h:V n s):codeAny (model prog w) A (.compLoop (.ListComp elt [⟨target,iter,ifs,0⟩] scope pos) 0 it acc env) R s:=by
 refine codeAny_loop rfl V (λn s hV=>?_) n h;show wpAny _ A ((compTurn (.ListComp elt [⟨target,iter,ifs,0⟩] scope pos) 0 it acc env).onRaise (λx=>do noteFrame x env;theTreesLotGoes x)) _ _ s;refine wpAny_noted ?_;rw[compTurn_list];refine aA (tZ (aA (f9 (turn n s hV) (λr s₁ h₁=>?_) λ_ _ z=>z.elim)));cases r with
 |none=>exact aP h₁
 |some v=>
  refine aA (f9 h₁ (λ_ s₂ h₂=>?_) λ_ _ z=>z.elim);refine aA (f9 h₂ (λ_ s₃ h₃=>aA (f9 h₃ (λok s₄ h₄=>?_) λ_ _ z=>z.elim)) λ_ _ z=>z.elim);cases ok with
  |true=>
   simp only[if_true] at h₄ ⊢;exact aA (aA (f9 h₄ (λx s₅ h₅=>aA (f9 h₅ (λ_ s₆ h₆=>aP (aP ⟨rfl,h₆⟩)) λ_ _ z=>z.elim)) λ_ _ z=>z.elim))
  |false=>
   simp only[rG,nU] at h₄ ⊢;exact aP ⟨rfl,h₄⟩
def Ep(X:Cx)(ifs:List Expr)(t:TT):Prop:=
 ∀(ao:List (Addr×Obj)) (s:Shared) (Z:St) (H:Hp) (Q:Bool->Hp->Prop),Inv X ao Z H s->t Z H Q->wpAny (model X.prog X.w) X.A (jN ifs X.env) (TP X ao Z Q) X.xe s
noncomputable def Q9:TT:=λ_ H Q=>Q true H
theorem ziY:Ep X [] Q9:=λ_ _ _ H _ I h=>wpAny_tests_nil ⟨H,I,h⟩
theorem zjV(h:PT X c t):Ep X [c] t:=λao s Z H Q I hq=>wpAny_tests_one (h ao s Z H Q I hq)
def Il(ZY:St->St)(g:TG)(tt:TT)(te:TE)(aZ:It)(Z:St)(H:Hp)(Q:VK):Prop:=∀D,H D=none->∃W:Nat->Nat->St->Hp->Prop,(∃m,W 0 m (ZY Z) (upd H D (.lst [])))/\∀i m Z' H',W i m Z' H'->
 (aZ.stop i H'/\Q (.ref D) H')\/(aZ.go i H'/\∃N:St->Hp->Prop,(∀Z2 H2,N Z2 H2->∃m',m'<m/\W (i+1) m' Z2 H2)/\∀x H2,aZ.ur i H' x H2->g x Z' H2 λZ3 H3=>tt Z3 H3 λok H4=>
  if ok=true then te Z3 H4 λy H5=>∃ys,H5 D=some (.lst ys)/\ys.length<sizeLine/\N Z3 (upd H5 D (.lst (ys++[y]))) else N Z3 H4)
section
variable {X:Cx}{elt tg iter:Expr}{ifs:List Expr}{scope:Scope}{pos:Pos}{N:List Str}{ZY:St->St}{wi:TI}{g:TG}{tt:TT}{te:TE}
structure Parts(X:Cx)(elt tg:Expr)(ifs:List Expr)(scope:Scope)(N:List Str)(g:TG)(tt:TT)(te:TE):Prop where
 tgt:∀cl C s3 H3 fp ao,PG (X.blk scope cl N C s3 H3 fp ao) tg g
 Im:∀cl C s3 H3 fp ao,Ep (X.blk scope cl N C s3 H3 fp ao) ifs tt
 el:∀cl C s3 H3 fp ao,PE (X.blk scope cl N C s3 H3 fp ao) elt te
theorem Xo(hc:X.aj=true)(B:b_ X.env.scope scope)(P:Parts X elt tg ifs scope N g tt te)(hl:∀Z,(ZY Z).length=N.length)
  (hZ:∀(Z:St) (i:Nat) (x:Str) (v:V),N[i]?=some x->(ZY Z)[i]?=some (some v)->scope.names.lookup x=some .free/\∃j:Nat,X.N[j]?=some x/\Z[j]?=some (some v))
  {ao:List (Addr×Obj)} {s:Shared} {Z:St} {H:Hp} {Q:VK} {it:Addr} {fp:List Addr} {tn:Nat->Heap->Prop} {aZ:It} (I:Inv X ao Z H s) (T:Turn X.prog X.w X.K tg aZ fp it tn) (st:tn 0 s.heap) (f:∀b∈fp,fL X ao H b) (h:Il ZY g tt te aZ Z H Q)
  {cl:List (Str×Addr)} (c1:∀x c,cl.lookup x=some c->X.env.cells.lookup x=some c) (c2:∀x∈scope.names,x.2=.free->∃c,cl.lookup x.1=some c) {R:Value->Addr->Result->Shared->Prop} {E:Value->Shared->Prop}
  (k:∀D C s' H',Inv X ao Z H' s'->X.s₀.heap.objs.size<=C->H' C=none->C≠X.env.locals->(∀x c,X.env.cells.lookup x=some c->c≠C)->(∀p∈X.pn++ao,p.1≠C)->(∃m,s'.heap.Ns C m)->Q (.ref D) H'->R (.ref D) C (.ok .next) s') :
  wpAny (model X.prog X.w) X.A (newList []) (λacc s₃=>wpAny (model X.prog X.w) X.A (newFunctionEnv scope X.env.globals cl [] X.env.qual none .none (some X.env)) (λcenv s₄=>
   codeAny (model X.prog X.w) X.A (.compStart (.ListComp elt [⟨tg,iter,ifs,0⟩] scope pos) 0 (.ref it) acc {cenv with scope:=relabel scope X.env}) (R acc cenv.locals) s₄) E s₃) E s:=by
 refine tK ?_;have hD:H s.heap.objs.size=none:=I.hok.fresh (cj _);have I3:Inv X ao Z (upd H s.heap.objs.size (.lst [])) {s with heap:=s.heap.push {cls:=.type "list",dict:=none,data:=.seq ([]:List Value).toArray}}:=
  I.laid (t':=s.toks) (λb u q=>cD _ q) (cj _) ⟨rN _,[],0,.nil,eF _ rfl⟩
 have f3:∀b∈fp,fL X ao (upd H s.heap.objs.size (.lst [])) b:=λb hb=>by
  obtain⟨a1,a2⟩:=f b hb;obtain⟨o,q,_⟩:=T.obj 0 _ st b hb;exact⟨by rw[bT (cY (bQ q))];exact a1,a2⟩
 have st3:tn 0 (s.heap.push {cls:=.type "list",dict:=none,data:=.seq ([]:List Value).toArray}):=T.keep _ _ _ st λb hb o q=>cD _ q;obtain⟨W,⟨m0,w0⟩,turn⟩:=h s.heap.objs.size hD;generalize Q_:({s with heap:=s.heap.push {cls:=.type "list",dict:=none,data:=.seq ([]:List Value).toArray}}:Shared)=s3 at *;have pZ:tn 0 s3.heap:=by rw[<-Q_];exact st3
 generalize hH3:upd H s.heap.objs.size (.lst [])=H3 at *;refine Xi (λx c q=>by obtain⟨v,o,q1,_⟩:=I3.cell x c (c1 x c q);exact bQ q1) (λx y c a b=>I3.ok.inj x y c (c1 x c a) (c1 y c b)) λh1 fB hn kp CN=>?_;have BJ:Inv (X.blk scope fB N s3.heap.objs.size s3 H3 fp ao) [] (ZY Z) H3 {s3 with heap:=h1}:=
  Xk (t:=s3.toks) I3 B c1 c2 f3 (λb hb=>let ⟨o,q,_⟩:=T.obj 0 _ pZ b hb;⟨o,q⟩) hn kp CN (hl Z) (hZ Z)
 have Io:tn 0 h1:=T.keep _ _ _ pZ λb hb o q=>kp b o q;have fY:∀{H':Hp},(∀b∈fp,H' b=none)->∀b∈fp,fL (X.blk scope fB N s3.heap.objs.size s3 H3 fp ao) [] H' b:=λ{H'} z b hb=>by
  obtain⟨a1,a2,a3,a4,a5,a6⟩:=f3 b hb;obtain⟨o,q,_⟩:=T.obj 0 _ pZ b hb;refine⟨z b hb,cY (bQ q),λy=>(jA.mp (I3.jU b y)).elim a2 a3,.inl hb,λx c y=>?_,λp hp=>a6 p ?_⟩
  ·rcases CN.d1 x c y with ⟨q1,_⟩|⟨_,q1,_⟩
   ·exact a5 x c (c1 x c q1)
   ·exact λe=>absurd (bQ q) (by rw[<-e];exact D_.mpr (rM q1))
  have y:p∈(X.pn++ao)++[]:=hp;simpa using y
 have loop:codeAny (model X.prog X.w) X.A (.compLoop (.ListComp elt [⟨tg,iter,ifs,0⟩] scope pos) 0 (.ref it) (.ref s.heap.objs.size) (compEnvC scope fB s3.heap.objs.size X.env)) (R (.ref s.heap.objs.size) s3.heap.objs.size) {s3 with heap:=h1}:=by
  refine zfZ (λn s'=>∃i Z' H',Inv (X.blk scope fB N s3.heap.objs.size s3 H3 fp ao) [] Z' H' s'/\tn i s'.heap/\(∀b∈fp,H' b=none)/\W i n Z' H') ?_ m0 ⟨0,ZY Z,H3,BJ,Io,λb hb=>(f3 b hb).1,w0⟩;rintro n s5 ⟨i,Z5,H5,jD,tM,vQ,w5⟩;rcases turn i n Z5 H5 w5 with ⟨stop,q⟩|⟨go,Nx,hN,step⟩
  ·refine aQ (T.done (X.blk scope fB N s3.heap.objs.size s3 H3 fp ao) rfl rfl rfl hc i [] s5 Z5 H5 _ jD (fY vQ) tM stop) λr s6 ⟨hr,mU⟩=>?_;subst hr;have JX:=Xn I3 f3 mU;refine k s.heap.objs.size s3.heap.objs.size s6 H5 JX I3.sz mU.free (pL I3.lt) (λx c y z=>?_) (λp hp z=>?_) ?_ q
   ·obtain⟨v,qc⟩:=I3.cell x c y;exact absurd qc.lt (by rw[z];exact pJ _)
   ·exact absurd (bQ (I3.pin p hp).1) (by rw[z];exact pJ _)
   ·obtain⟨m,hm,_⟩:=mU.loc;exact⟨m,hm⟩
  ·refine aQ (T.item (X.blk scope fB N s3.heap.objs.size s3 H3 fp ao) rfl rfl rfl hc i [] s5 Z5 H5 _ jD (fY vQ) tM go) λr s6 hx=>vN hx λu hr h6=>?_;subst hr;refine aQ h6 λ_ s7 ⟨x,H7,uE,r7,y7,uF,Ip⟩=>?_;have oE:=uE.pinned (fY Ip) (T.obj _ _ uF);refine aQ (P.tgt fB s3.heap.objs.size s3 H3 fp ao _ s7 Z5 H7 x u _ oE r7 (step x H7 y7)) λ_ s8 ⟨Z8,H8,uG,q8⟩=>?_;refine aQ (P.Im fB s3.heap.objs.size s3 H3 fp ao _ s8 Z8 H8 _ uG q8) λok s9 hx=>vN hx λH9 uH q9=>?_;have again:∀{H':Hp} {s':Shared},Inv (X.blk scope fB N s3.heap.objs.size s3 H3 fp ao) ([]++iY fp s7.heap) Z8 H' s'->Nx Z8 H'->∃m,m<n/\∃i Z' H',Inv (X.blk scope fB N s3.heap.objs.size s3 H3 fp ao) [] Z' H' s'/\tn i s'.heap/\(∀b∈fp,H' b=none)/\W i m Z' H':=λ{H' s'} eO n'=>by
    obtain⟨m',hm,w'⟩:=hN Z8 H' n';refine⟨m',hm,i+1,Z8,H',eO.bZ,T.keep _ _ _ uF λb hb o e=>(eO.pin (b,o) (k_ _ (k_ _ (zm hb e)))).1,λb hb=>?_,w'⟩;obtain⟨o,e,d⟩:=T.obj _ _ uF b hb;exact(eO.pin (b,o) (k_ _ (k_ _ (zm hb e)))).2.1
   cases ok with
   |false=>
    rw[if_neg Ro] at q9 ⊢;exact again uH q9
   |true=>
    rw[if_pos rfl] at q9 ⊢;refine aQ (P.el fB s3.heap.objs.size s3 H3 fp ao _ s9 Z8 H9 _ uH q9) λv Mz ⟨y,Ra,uI,r10,ys,BK,hz,Rb⟩=>?_;refine aQ (QS (X:=(X.blk scope fB N s3.heap.objs.size s3 H3 fp ao)) _ Mz Z8 Ra (.ref s.heap.objs.size) [y] (.ref s.heap.objs.size) [v] (λ_ H'=>Nx Z8 H') uI rfl (.cons r10 .nil) ⟨s.heap.objs.size,ys,y,rfl,rfl,BK,hz,Rb⟩) λ_ Xp hx=>eE hx λ_ Xq oF _ Rf=>again oF Rf
 exact codeAny_compStart_list loop (T.self _ 0 _ _ _ Io loop)
end
noncomputable def uJ(wi:TI)(ZY:St->St)(g:TG)(tt:TT)(te:TE):TE:=λZ H Q=>wi Z H λaZ H1=>Il ZY g tt te aZ Z H1 Q
section
variable {X:Cx}{elt tg iter:Expr}{ifs:List Expr}{scope:Scope}{pos spos py:Pos}{N:List Str}{ZY:St->St}{wi:TI}{g:TG}{tt:TT}{te:TE}{i:Nat}{y:Str}
theorem MF(I:Inv X ao Z H s)(B:b_ X.env.scope scope):∃cl,closureFor scope X.env=pure cl/\(∀x c,cl.lookup x=some c->X.env.cells.lookup x=some c)/\∀x∈scope.names,x.2=.free->∃c,cl.lookup x.1=some c:=
 ze2 λx hx hf=>I.ok.has x.1 (B.free x hx hf)
theorem zjb(hc:X.aj=true)(B:b_ X.env.scope scope)(hi:PI X tg iter wi)(P:Parts X elt tg ifs scope N g tt te)(hl:∀Z,(ZY Z).length=N.length)
  (hZ:∀(Z:St) (i:Nat) (x:Str) (v:V),N[i]?=some x->(ZY Z)[i]?=some (some v)->scope.names.lookup x=some .free/\∃j:Nat,X.N[j]?=some x/\Z[j]?=some (some v))
  (hs:∀x,foldedSetIterable iter X.env x=pure x:=by intro _;rfl):PE X (.ListComp elt [⟨tg,iter,ifs,0⟩] scope pos) (uJ wi ZY g tt te):=by
 intro ao s Z H Q I h;obtain⟨cl,oG,c1,c2⟩:=MF I B;rw[eval_ListComp];refine K5 (use:=none) rfl hs oG B.kind B.loc (aQ (hi ao s Z H _ I h) λxv s1 h1=>aQ h1 λitv s2 h2=>?_);obtain⟨it,fp,tn,aZ,H2,e,I2,T,st2,f2,hq⟩:=h2;subst e;exact Xo hc B P hl hZ I2 T st2 f2 hq c1 c2 (R:=λacc C=>compPost (model X.prog X.w) X.A X.xe none (EP X ao Z Q) acc C) λD C s' H' eO a b c d e ⟨m,hm⟩ q=>⟨m,hm,λh' sb=>⟨.ref D,H',Mx (Z':=Z) eO a b c d e sb,rfl,q⟩⟩
theorem ze5(hc:X.aj=true)(hN:X.N.Nodup)(rY:X.N[i]?=some y)(hx:Loc X.env.scope y)(hf:X.fn y=true\/X.env.scope.names.lookup y=some .local)(B:b_ X.env.scope scope)(hi:PI X tg iter wi)(P:Parts X elt tg ifs scope N g tt te)(hl:∀Z,(ZY Z).length=N.length)
  (hZ:∀(Z:St) (i:Nat) (x:Str) (v:V),N[i]?=some x->(ZY Z)[i]?=some (some v)->scope.names.lookup x=some .free/\∃j:Nat,X.N[j]?=some x/\Z[j]?=some (some v))
  (uK:swapsWith (.ListComp elt [⟨tg,iter,ifs,0⟩] scope pos) (some (.Name y py)) spos.line X.env=pure true) (hs:∀x,foldedSetIterable iter X.env x=pure x:=by intro _;rfl) :
  PS X (.Assign [.Name y py] (.ListComp elt [⟨tg,iter,ifs,0⟩] scope pos) spos) (wN (uJ wi ZY g tt te) (dN i)):=by
 intro ao s Z H D I h;obtain⟨cl,oG,c1,c2⟩:=MF I B;rw[exec_Assign_Name_used _ _ _ _ uK];refine aA (tZ (aA ?_));show wpAny _ X.A (do let _ <-comprehension (.ListComp elt [⟨tg,iter,ifs,0⟩] scope pos) scope X.env _ (newList []) false (eval iter X.env) (some (assign (.Name y py) X.env))) _ _ s;refine aA (K5 (use:=some (assign (.Name y py) X.env)) rfl hs oG B.kind B.loc (aQ (hi ao s Z H _ I h) λxv s1 h1=>aQ h1 λitv s2 h2=>?_));obtain⟨it,fp,tn,aZ,H2,e,I2,T,st2,f2,hq⟩:=h2;subst e;refine Xo hc B P hl hZ I2 T st2 f2 hq c1 c2 (R:=λacc C=>compPost (model X.prog X.w) X.A X.xe (some (assign (.Name y py) X.env)) _ acc C) λD' C s' H' eO a b c d e ⟨m,hm⟩ q=>?_;show wpAny _ _ (assign (.Name y py) X.env (.ref D')) _ _ s';refine wpAny_assign_Name (PK (v:=.ref D') eO hN rY hx rfl (λs5 jD ⟨ad,sb,Rg⟩=>?_) hf);have nC:C≠ad:=by
  rcases Rg with z|z
  ·rw[z];exact c
  ·exact(d y ad z).symm
 obtain⟨ol,es,ep,e1,r1⟩:=hm;refine⟨m,⟨ol,es,ep,(sb.2 C nC).trans e1,r1⟩,λh' Rh=>aP (aP ⟨_,H',Mx (Z':=Z) jD a b c d e Rh,q⟩)⟩
end
theorem zdZ(elt target iter:Expr)(ifs:List Expr)(g₁:Comprehension)(scope:Scope)(pos:Pos)(it acc:Value)(env:Env) :
  compTurn (.ListComp elt [g₁,⟨target,iter,ifs,0⟩] scope pos) 1 it acc env=(do
   standAt iter.pos
   match <-pyNext it with
   |none=>pure (.done .next)
   |some v=>
    letOwnedTupleGo target it v
    assign target env v
    let mut ok:=true
    for c in ifs do
     if ok then ok <-isTrue c env (eval c env)
    if ok then
     (do let _ <-call (.builtin "list.append") [acc,<-eval elt env])
    again (.compLoop (.ListComp elt [g₁,⟨target,iter,ifs,0⟩] scope pos) 1 it acc env)):=by rfl
theorem zdj(elt target iter target₂ iter₂:Expr)(ifs ifs₂:List Expr)(scope:Scope)(pos:Pos)(it acc:Value)(env:Env) :
  compTurn (.ListComp elt [⟨target,iter,ifs,0⟩,⟨target₂,iter₂,ifs₂,0⟩] scope pos) 0 it acc env=(do
   standAt iter.pos
   match <-pyNext it with
   |none=>pure (.done .next)
   |some v=>
    letOwnedTupleGo target it v
    assign target env v
    let mut ok:=true
    for c in ifs do
     if ok then ok <-isTrue c env (eval c env)
    if ok then
     let x <-eval iter₂ env
     standAt iter₂.pos
     let x <-foldedSetIterable iter₂ env x
     let _ <-runOwn (.compStart (.ListComp elt [⟨target,iter,ifs,0⟩,⟨target₂,iter₂,ifs₂,0⟩] scope pos) 1 (<-holding [x] (pyIter x)) acc env) env
     again (.compLoop (.ListComp elt [⟨target,iter,ifs,0⟩,⟨target₂,iter₂,ifs₂,0⟩] scope pos) 0 it acc env)
    else
     again (.compLoop (.ListComp elt [⟨target,iter,ifs,0⟩,⟨target₂,iter₂,ifs₂,0⟩] scope pos) 0 it acc env)):=by rfl
theorem ziV(V:Nat->Shared->Prop)
  (turn:∀n s,V n s->wpAny (model prog w) A (pyNext it) (λr s₁=>match r with
   |none=>R (.ok .next) s₁
   |some v=>wpAny (model prog w) A (letOwnedTupleGo target it v) (λ_ s₂=>wpAny (model prog w) A (assign target env v) (λ_ s₃=>
     wpAny (model prog w) A (jN ifs env) (λok s₄=>
      if ok=true then wpAny (model prog w) A (eval elt env) (λx s₅=>wpAny (model prog w) A (call (.builtin "list.append") [acc,x]) (λ_ s₆=>∃m,m<n/\V m s₆) (λ_ _=>False) s₅) (λ_ _=>False) s₄
      else ∃m,m<n/\V m s₄) (λ_ _=>False) s₃) (λ_ _=>False) s₂) (λ_ _=>False) s₁) (λ_ _=>False) s)
  (n:Nat) (h:V n s):codeAny (model prog w) A (.compLoop (.ListComp elt [g₁,⟨target,iter,ifs,0⟩] scope pos) 1 it acc env) R s:=by
 refine codeAny_loop rfl V (λn s hV=>?_) n h;show wpAny _ A ((compTurn (.ListComp elt [g₁,⟨target,iter,ifs,0⟩] scope pos) 1 it acc env).onRaise (λx=>do noteFrame x env;theTreesLotGoes x)) _ _ s;refine wpAny_noted ?_;rw[zdZ];refine aA (tZ (aA (f9 (turn n s hV) (λr s₁ h₁=>?_) λ_ _ z=>z.elim)));cases r with
 |none=>exact aP h₁
 |some v=>
  refine aA (f9 h₁ (λ_ s₂ h₂=>?_) λ_ _ z=>z.elim);refine aA (f9 h₂ (λ_ s₃ h₃=>aA (f9 h₃ (λok s₄ h₄=>?_) λ_ _ z=>z.elim)) λ_ _ z=>z.elim);cases ok with
  |true=>
   simp only[if_true] at h₄ ⊢;exact aA (aA (f9 h₄ (λx s₅ h₅=>aA (f9 h₅ (λ_ s₆ h₆=>aP (aP ⟨rfl,h₆⟩)) λ_ _ z=>z.elim)) λ_ _ z=>z.elim))
  |false=>
   simp only[rG,nU] at h₄ ⊢;exact aP ⟨rfl,h₄⟩
theorem zg8{prog:Program}{w:World}{A:Around}{R:Result->Shared->Prop}{s:Shared}{elt target iter target₂ iter₂:Expr}{ifs ifs₂:List Expr}{scope:Scope}{pos:Pos}{it acc:Value}{env:Env}(V:Nat->Shared->Prop)(hs:∀x,foldedSetIterable iter₂ env x=pure x)
  (turn:∀n s,V n s->wpAny (model prog w) A (pyNext it) (λr s₁=>match r with
   |none=>R (.ok .next) s₁
   |some v=>wpAny (model prog w) A (letOwnedTupleGo target it v) (λ_ s₂=>wpAny (model prog w) A (assign target env v) (λ_ s₃=>
     wpAny (model prog w) A (jN ifs env) (λok s₄=>
      if ok=true then wpAny (model prog w) A (eval iter₂ env) (λx s₅=>wpAny (model prog w) A (pyIter x) (λit₂ s₆=>codeAny (model prog w) A (.compStart (.ListComp elt [⟨target,iter,ifs,0⟩,⟨target₂,iter₂,ifs₂,0⟩] scope pos) 1 it₂ acc env) (λr s₇=>r=.ok .next/\∃m,m<n/\V m s₇) s₆) (λ_ _=>False) s₅) (λ_ _=>False) s₄
      else ∃m,m<n/\V m s₄) (λ_ _=>False) s₃) (λ_ _=>False) s₂) (λ_ _=>False) s₁) (λ_ _=>False) s)
  (n:Nat) (h:V n s):codeAny (model prog w) A (.compLoop (.ListComp elt [⟨target,iter,ifs,0⟩,⟨target₂,iter₂,ifs₂,0⟩] scope pos) 0 it acc env) R s:=by
 refine codeAny_loop rfl V (λn s hV=>?_) n h;show wpAny _ A ((compTurn (.ListComp elt [⟨target,iter,ifs,0⟩,⟨target₂,iter₂,ifs₂,0⟩] scope pos) 0 it acc env).onRaise (λx=>do noteFrame x env;theTreesLotGoes x)) _ _ s;refine wpAny_noted ?_;rw[zdj];refine aA (tZ (aA (f9 (turn n s hV) (λr s₁ h₁=>?_) λ_ _ z=>z.elim)));cases r with
 |none=>exact aP h₁
 |some v=>
  refine aA (f9 h₁ (λ_ s₂ h₂=>?_) λ_ _ z=>z.elim);refine aA (f9 h₂ (λ_ s₃ h₃=>aA (f9 h₃ (λok s₄ h₄=>?_) λ_ _ z=>z.elim)) λ_ _ z=>z.elim);cases ok with
  |true=>
   simp only[if_true] at h₄ ⊢;refine aA (f9 h₄ (λx s₅ h₅=>aA (tZ (aA (DX (hs x) (aA (pK (f9 h₅ (λit₂ s₆ h₆=>aA (wpAny_runOwn (yS h₆ λr s₇ h₇=>?_))) λ_ _ z=>z.elim))))))) λ_ _ z=>z.elim);obtain⟨rfl,h₇⟩:=h₇;exact aP ⟨rfl,h₇⟩
  |false=>
   simp only[rG,nU] at h₄ ⊢;exact aP ⟨rfl,h₄⟩
theorem za2
  (h0:codeAny (model prog w) A (.compLoop (.ListComp elt [g₁,⟨target,iter,ifs,0⟩] scope pos) 1 it acc env) R s)
  (h:wpAny (model prog w) A (pyIter it) (λit' s'=>codeAny (model prog w) A (.compLoop (.ListComp elt [g₁,⟨target,iter,ifs,0⟩] scope pos) 1 it' acc env) R s') (λ_ _=>False) s) :
  codeAny (model prog w) A (.compStart (.ListComp elt [g₁,⟨target,iter,ifs,0⟩] scope pos) 1 it acc env) R s:=by
 refine codeAny_of_tree ?_;show wpAny _ _ ((compStart (.ListComp elt [g₁,⟨target,iter,ifs,0⟩] scope pos) 1 it acc env).onRaise (λx=>do noteFrame x env;standAt theWindowsPlace)) _ _ s;refine wpAny_notedAt ?_;unfold compStart;show wpAny _ _ (ask >>= _) _ _ s;refine aA (wpAny_askSetting (wpAny_ite ?_))
 split
 ·first
   |exact aA (aP (aP (And.intro rfl h0)))
   |exact aP (And.intro rfl h0)
 ·first
   |exact aA (yV (aA (tZ (aA (f9 h (λit' s' h'=>aP (And.intro rfl h')) λ_ _ x=>x.elim)))))
   |(refine aA (yV ?_);show wpAny _ _ (standAt iter.pos >>= _) _ _ s;exact aA (tZ (aA (f9 h (λit' s' h'=>aP (And.intro rfl h')) λ_ _ x=>x.elim))))
def Ri(g:TG)(tt:TT)(te:TE)(D:Addr)(aZ:It)(Z:St)(H:Hp)(Nx:St->Hp->Prop):Prop:=∃W:Nat->Nat->St->Hp->Prop,(∃m,W 0 m Z H)/\∀i m Z' H',W i m Z' H'->
 (aZ.stop i H'/\Nx Z' H')\/(aZ.go i H'/\∃N:St->Hp->Prop,(∀Z2 H2,N Z2 H2->∃m',m'<m/\W (i+1) m' Z2 H2)/\∀x H2,aZ.ur i H' x H2->g x Z' H2 λZ3 H3=>tt Z3 H3 λok H4=>
  if ok=true then te Z3 H4 λy H5=>∃ys,H5 D=some (.lst ys)/\ys.length<sizeLine/\N Z3 (upd H5 D (.lst (ys++[y]))) else N Z3 H4)
theorem zjy{Y:Cx}{elt tg iter:Expr}{ifs:List Expr}{g₁:Comprehension}{scope:Scope}{pos:Pos}{g:TG}{tt:TT}{te:TE}(hc:Y.aj=true)(MJ:Y.xe=λ_ _=>False)(tgt:PG Y tg g)(Im:Ep Y ifs tt)(el:PE Y elt te)
  {ao:List (Addr×Obj)} {s:Shared} {Z:St} {H:Hp} {D it:Addr} {fp:List Addr} {tn:Nat->Heap->Prop} {aZ:It} {Nx:St->Hp->Prop} (I:Inv Y ao Z H s) (T:Turn Y.prog Y.w Y.K tg aZ fp it tn) (st:tn 0 s.heap) (f:∀b∈fp,fL Y ao H b) (h:Ri g tt te D aZ Z H Nx)
  {R:Result->Shared->Prop} (k:∀s' Z' H',Inv Y ao Z' H' s'->Nx Z' H'->R (.ok .next) s') :
  codeAny (model Y.prog Y.w) Y.A (.compStart (.ListComp elt [g₁,⟨tg,iter,ifs,0⟩] scope pos) 1 (.ref it) (.ref D) Y.env) R s:=by
 obtain⟨W,⟨m0,w0⟩,turn⟩:=h;have fY:∀{H':Hp},(∀b∈fp,H' b=none)->∀b∈fp,fL Y ao H' b:=λ{H'} z b hb=>⟨z b hb,(f b hb).2⟩;have loop:codeAny (model Y.prog Y.w) Y.A (.compLoop (.ListComp elt [g₁,⟨tg,iter,ifs,0⟩] scope pos) 1 (.ref it) (.ref D) Y.env) R s:=by
  refine ziV (λn s'=>∃i Z' H',Inv Y ao Z' H' s'/\tn i s'.heap/\(∀b∈fp,H' b=none)/\W i n Z' H') ?_ m0 ⟨0,Z,H,I,st,λb hb=>(f b hb).1,w0⟩;rintro n s5 ⟨i,Z5,H5,jD,tM,vQ,w5⟩;rcases turn i n Z5 H5 w5 with ⟨stop,q⟩|⟨go,Nn,hN,step⟩
  ·refine aQ (T.done Y rfl rfl rfl hc i ao s5 Z5 H5 _ jD (fY vQ) tM stop) λr s6 ⟨hr,mU⟩=>?_;subst hr;exact k s6 Z5 H5 mU q
  ·refine aQ (T.item Y rfl rfl rfl hc i ao s5 Z5 H5 _ jD (fY vQ) tM go) λr s6 ⟨u,hr,h6⟩=>?_;subst hr;refine aQ h6 λ_ s7 ⟨x,H7,uE,r7,y7,uF,Ip⟩=>?_;have oE:=uE.pinned (fY Ip) (T.obj _ _ uF);have a1:=tgt _ s7 Z5 H7 x u _ oE r7 (step x H7 y7);rw[MJ] at a1;refine aQ a1 λ_ s8 ⟨Z8,H8,uG,q8⟩=>?_;have a2:=Im _ s8 Z8 H8 _ uG q8;rw[MJ] at a2;refine aQ a2 λok s9 ⟨H9,uH,q9⟩=>?_;have again:∀{H':Hp} {s':Shared},Inv Y (ao++iY fp s7.heap) Z8 H' s'->Nn Z8 H'->∃m,m<n/\∃i Z' H',Inv Y ao Z' H' s'/\tn i s'.heap/\(∀b∈fp,H' b=none)/\W i m Z' H':=λ{H' s'} eO n'=>by
    obtain⟨m',hm,w'⟩:=hN Z8 H' n';refine⟨m',hm,i+1,Z8,H',eO.bZ,T.keep _ _ _ uF λb hb o e=>(eO.pin (b,o) (k_ _ (k_ _ (zm hb e)))).1,λb hb=>?_,w'⟩;obtain⟨o,e,d⟩:=T.obj _ _ uF b hb;exact(eO.pin (b,o) (k_ _ (k_ _ (zm hb e)))).2.1
   cases ok with
   |false=>
    rw[if_neg Ro] at q9 ⊢;exact again uH q9
   |true=>
    rw[if_pos rfl] at q9 ⊢;have a3:=el _ s9 Z8 H9 _ uH q9;rw[MJ] at a3;refine aQ a3 λv Mz ⟨y,Ra,uI,r10,ys,BK,hz,Rb⟩=>?_;have a4:=QS (X:=Y) _ Mz Z8 Ra (.ref D) [y] (.ref D) [v] (λ_ H'=>Nn Z8 H') uI rfl (.cons r10 .nil) ⟨D,ys,y,rfl,rfl,BK,hz,Rb⟩;rw[MJ] at a4;exact aQ a4 λ_ Xp ⟨_,Xq,oF,_,Rf⟩=>again oF Rf
 exact za2 loop (T.self _ 0 _ _ _ st loop)
def zu(ZY:St->St)(g₁:TG)(wi₂:TI)(g:TG)(tt:TT)(te:TE)(aZ:It)(Z:St)(H:Hp)(Q:VK):Prop:=∀D,H D=none->∃W:Nat->Nat->St->Hp->Prop,(∃m,W 0 m (ZY Z) (upd H D (.lst [])))/\∀i m Z' H',W i m Z' H'->
 (aZ.stop i H'/\Q (.ref D) H')\/(aZ.go i H'/\∃N:St->Hp->Prop,(∀Z2 H2,N Z2 H2->∃m',m'<m/\W (i+1) m' Z2 H2)/\∀x H2,aZ.ur i H' x H2->g₁ x Z' H2 λZ3 H3=>wi₂ Z3 H3 λaZ₂ H5=>Ri g tt te D aZ₂ Z3 H5 N)
section
variable {X:Cx}{elt tg iter tg₂ iter₂:Expr}{ifs₂:List Expr}{scope:Scope}{pos spos py:Pos}{N:List Str}{ZY:St->St}{wi wi₂:TI}{g g₁:TG}{tt:TT}{te:TE}{i:Nat}{y:Str}
structure jY(X:Cx)(elt tg tg₂ iter₂:Expr)(ifs₂:List Expr)(scope:Scope)(N:List Str)(g₁:TG)(wi₂:TI)(g:TG)(tt:TT)(te:TE):Prop where
 tgt₁:∀cl C s3 H3 fp ao,PG (X.blk scope cl N C s3 H3 fp ao) tg g₁
 it:∀cl C s3 H3 fp ao,PI (X.blk scope cl N C s3 H3 fp ao) tg₂ iter₂ wi₂
 tgt:∀cl C s3 H3 fp ao,PG (X.blk scope cl N C s3 H3 fp ao) tg₂ g
 Im:∀cl C s3 H3 fp ao,Ep (X.blk scope cl N C s3 H3 fp ao) ifs₂ tt
 el:∀cl C s3 H3 fp ao,PE (X.blk scope cl N C s3 H3 fp ao) elt te
theorem Xr(hc:X.aj=true)(B:b_ X.env.scope scope)(P:jY X elt tg tg₂ iter₂ ifs₂ scope N g₁ wi₂ g tt te)(hs₂:∀env x,foldedSetIterable iter₂ env x=pure x)(hl:∀Z,(ZY Z).length=N.length)
  (hZ:∀(Z:St) (i:Nat) (x:Str) (v:V),N[i]?=some x->(ZY Z)[i]?=some (some v)->scope.names.lookup x=some .free/\∃j:Nat,X.N[j]?=some x/\Z[j]?=some (some v))
  {ao:List (Addr×Obj)} {s:Shared} {Z:St} {H:Hp} {Q:VK} {it:Addr} {fp:List Addr} {tn:Nat->Heap->Prop} {aZ:It} (I:Inv X ao Z H s) (T:Turn X.prog X.w X.K tg aZ fp it tn) (st:tn 0 s.heap) (f:∀b∈fp,fL X ao H b) (h:zu ZY g₁ wi₂ g tt te aZ Z H Q)
  {cl:List (Str×Addr)} (c1:∀x c,cl.lookup x=some c->X.env.cells.lookup x=some c) (c2:∀x∈scope.names,x.2=.free->∃c,cl.lookup x.1=some c) {R:Value->Addr->Result->Shared->Prop} {E:Value->Shared->Prop}
  (k:∀D C s' H',Inv X ao Z H' s'->X.s₀.heap.objs.size<=C->H' C=none->C≠X.env.locals->(∀x c,X.env.cells.lookup x=some c->c≠C)->(∀p∈X.pn++ao,p.1≠C)->(∃m,s'.heap.Ns C m)->Q (.ref D) H'->R (.ref D) C (.ok .next) s') :
  wpAny (model X.prog X.w) X.A (newList []) (λacc s₃=>wpAny (model X.prog X.w) X.A (newFunctionEnv scope X.env.globals cl [] X.env.qual none .none (some X.env)) (λcenv s₄=>
   codeAny (model X.prog X.w) X.A (.compStart (.ListComp elt [⟨tg,iter,[],0⟩,⟨tg₂,iter₂,ifs₂,0⟩] scope pos) 0 (.ref it) acc {cenv with scope:=relabel scope X.env}) (R acc cenv.locals) s₄) E s₃) E s:=by
 refine tK ?_;have hD:H s.heap.objs.size=none:=I.hok.fresh (cj _);have I3:Inv X ao Z (upd H s.heap.objs.size (.lst [])) {s with heap:=s.heap.push {cls:=.type "list",dict:=none,data:=.seq ([]:List Value).toArray}}:=
  I.laid (t':=s.toks) (λb u q=>cD _ q) (cj _) ⟨rN _,[],0,.nil,eF _ rfl⟩
 have f3:∀b∈fp,fL X ao (upd H s.heap.objs.size (.lst [])) b:=λb hb=>by
  obtain⟨a1,a2⟩:=f b hb;obtain⟨o,q,_⟩:=T.obj 0 _ st b hb;exact⟨by rw[bT (cY (bQ q))];exact a1,a2⟩
 have st3:tn 0 (s.heap.push {cls:=.type "list",dict:=none,data:=.seq ([]:List Value).toArray}):=T.keep _ _ _ st λb hb o q=>cD _ q;obtain⟨W,⟨m0,w0⟩,turn⟩:=h s.heap.objs.size hD;generalize Q_:({s with heap:=s.heap.push {cls:=.type "list",dict:=none,data:=.seq ([]:List Value).toArray}}:Shared)=s3 at *;have pZ:tn 0 s3.heap:=by rw[<-Q_];exact st3
 generalize hH3:upd H s.heap.objs.size (.lst [])=H3 at *;refine Xi (λx c q=>by obtain⟨v,o,q1,_⟩:=I3.cell x c (c1 x c q);exact bQ q1) (λx y c a b=>I3.ok.inj x y c (c1 x c a) (c1 y c b)) λh1 fB hn kp CN=>?_;have BJ:Inv (X.blk scope fB N s3.heap.objs.size s3 H3 fp ao) [] (ZY Z) H3 {s3 with heap:=h1}:=
  Xk (t:=s3.toks) I3 B c1 c2 f3 (λb hb=>let ⟨o,q,_⟩:=T.obj 0 _ pZ b hb;⟨o,q⟩) hn kp CN (hl Z) (hZ Z)
 have Io:tn 0 h1:=T.keep _ _ _ pZ λb hb o q=>kp b o q;have fY:∀{H':Hp},(∀b∈fp,H' b=none)->∀b∈fp,fL (X.blk scope fB N s3.heap.objs.size s3 H3 fp ao) [] H' b:=λ{H'} z b hb=>by
  obtain⟨a1,a2,a3,a4,a5,a6⟩:=f3 b hb;obtain⟨o,q,_⟩:=T.obj 0 _ pZ b hb;refine⟨z b hb,cY (bQ q),λy=>(jA.mp (I3.jU b y)).elim a2 a3,.inl hb,λx c y=>?_,λp hp=>a6 p ?_⟩
  ·rcases CN.d1 x c y with ⟨q1,_⟩|⟨_,q1,_⟩
   ·exact a5 x c (c1 x c q1)
   ·exact λe=>absurd (bQ q) (by rw[<-e];exact D_.mpr (rM q1))
  have y:p∈(X.pn++ao)++[]:=hp;simpa using y
 have loop:codeAny (model X.prog X.w) X.A (.compLoop (.ListComp elt [⟨tg,iter,[],0⟩,⟨tg₂,iter₂,ifs₂,0⟩] scope pos) 0 (.ref it) (.ref s.heap.objs.size) (compEnvC scope fB s3.heap.objs.size X.env)) (R (.ref s.heap.objs.size) s3.heap.objs.size) {s3 with heap:=h1}:=by
  refine zg8 (λn s'=>∃i Z' H',Inv (X.blk scope fB N s3.heap.objs.size s3 H3 fp ao) [] Z' H' s'/\tn i s'.heap/\(∀b∈fp,H' b=none)/\W i n Z' H') (hs₂ _) ?_ m0 ⟨0,ZY Z,H3,BJ,Io,λb hb=>(f3 b hb).1,w0⟩;rintro n s5 ⟨i,Z5,H5,jD,tM,vQ,w5⟩;rcases turn i n Z5 H5 w5 with ⟨stop,q⟩|⟨go,Nx,hN,step⟩
  ·refine aQ (T.done (X.blk scope fB N s3.heap.objs.size s3 H3 fp ao) rfl rfl rfl hc i [] s5 Z5 H5 _ jD (fY vQ) tM stop) λr s6 ⟨hr,mU⟩=>?_;subst hr;have JX:=Xn I3 f3 mU;refine k s.heap.objs.size s3.heap.objs.size s6 H5 JX I3.sz mU.free (pL I3.lt) (λx c y z=>?_) (λp hp z=>?_) ?_ q
   ·obtain⟨v,qc⟩:=I3.cell x c y;exact absurd qc.lt (by rw[z];exact pJ _)
   ·exact absurd (bQ (I3.pin p hp).1) (by rw[z];exact pJ _)
   ·obtain⟨m,hm,_⟩:=mU.loc;exact⟨m,hm⟩
  ·refine aQ (T.item (X.blk scope fB N s3.heap.objs.size s3 H3 fp ao) rfl rfl rfl hc i [] s5 Z5 H5 _ jD (fY vQ) tM go) λr s6 ⟨u,hr,h6⟩=>?_;subst hr;refine aQ h6 λ_ s7 ⟨x,H7,uE,r7,y7,uF,Ip⟩=>?_;have oE:=uE.pinned (fY Ip) (T.obj _ _ uF);refine aQ (P.tgt₁ fB s3.heap.objs.size s3 H3 fp ao _ s7 Z5 H7 x u _ oE r7 (step x H7 y7)) λ_ s8 ⟨Z8,H8,uG,q8⟩=>?_;refine aQ (wpAny_tests_nil (env:=compEnvC scope fB s3.heap.objs.size X.env) (Q:=λok s'=>ok=true/\s'=s8) ⟨rfl,rfl⟩) λok s9 ⟨e9,e9'⟩=>?_;subst e9 e9';rw[if_pos rfl];refine aQ (P.it fB s3.heap.objs.size s3 H3 fp ao _ s9 Z8 H8 _ uG q8) λxv Mz h10=>aQ h10 λitv Xp h11=>?_;obtain⟨it₂,fp₂,tn₂,aZ₂,Xq,Rj,oF,T₂,st₂,f₂,hq⟩:=h11;subst Rj;refine zjy (Y:=X.blk scope fB N s3.heap.objs.size s3 H3 fp ao) hc rfl (P.tgt fB s3.heap.objs.size s3 H3 fp ao) (P.Im fB s3.heap.objs.size s3 H3 fp ao) (P.el fB s3.heap.objs.size s3 H3 fp ao) oF T₂ st₂ f₂ hq λs' Z' H' eO n'=>⟨rfl,?_⟩;obtain⟨m',hm,w'⟩:=hN Z' H' n';refine⟨m',hm,i+1,Z',H',eO.bZ,T.keep _ _ _ uF λb hb o e=>(eO.pin (b,o) (k_ _ (k_ _ (zm hb e)))).1,λb hb=>?_,w'⟩;obtain⟨o,e,d⟩:=T.obj _ _ uF b hb;exact(eO.pin (b,o) (k_ _ (k_ _ (zm hb e)))).2.1
 exact codeAny_compStart_list loop (T.self _ 0 _ _ _ Io loop)
noncomputable def p7(wi:TI)(ZY:St->St)(g₁:TG)(wi₂:TI)(g:TG)(tt:TT)(te:TE):TE:=λZ H Q=>wi Z H λaZ H1=>zu ZY g₁ wi₂ g tt te aZ Z H1 Q
theorem zhP(hc:X.aj=true)(B:b_ X.env.scope scope)(hi:PI X tg iter wi)(P:jY X elt tg tg₂ iter₂ ifs₂ scope N g₁ wi₂ g tt te)(hs₂:∀env x,foldedSetIterable iter₂ env x=pure x)(hl:∀Z,(ZY Z).length=N.length)
  (hZ:∀(Z:St) (i:Nat) (x:Str) (v:V),N[i]?=some x->(ZY Z)[i]?=some (some v)->scope.names.lookup x=some .free/\∃j:Nat,X.N[j]?=some x/\Z[j]?=some (some v))
  (hs:∀x,foldedSetIterable iter X.env x=pure x:=by intro _;rfl):PE X (.ListComp elt [⟨tg,iter,[],0⟩,⟨tg₂,iter₂,ifs₂,0⟩] scope pos) (p7 wi ZY g₁ wi₂ g tt te):=by
 intro ao s Z H Q I h;obtain⟨cl,oG,c1,c2⟩:=MF I B;rw[eval_ListComp];refine K5 (use:=none) rfl hs oG B.kind B.loc (aQ (hi ao s Z H _ I h) λxv s1 h1=>aQ h1 λitv s2 h2=>?_);obtain⟨it,fp,tn,aZ,H2,e,I2,T,st2,f2,hq⟩:=h2;subst e;exact Xr hc B P hs₂ hl hZ I2 T st2 f2 hq c1 c2 (R:=λacc C=>compPost (model X.prog X.w) X.A X.xe none (EP X ao Z Q) acc C) λD C s' H' eO a b c d e ⟨m,hm⟩ q=>⟨m,hm,λh' sb=>⟨.ref D,H',Mx (Z':=Z) eO a b c d e sb,rfl,q⟩⟩
theorem zeb(hc:X.aj=true)(hN:X.N.Nodup)(rY:X.N[i]?=some y)(hx:Loc X.env.scope y)(hf:X.fn y=true\/X.env.scope.names.lookup y=some .local)(B:b_ X.env.scope scope)(hi:PI X tg iter wi)(P:jY X elt tg tg₂ iter₂ ifs₂ scope N g₁ wi₂ g tt te)(hs₂:∀env x,foldedSetIterable iter₂ env x=pure x)(hl:∀Z,(ZY Z).length=N.length)
  (hZ:∀(Z:St) (i:Nat) (x:Str) (v:V),N[i]?=some x->(ZY Z)[i]?=some (some v)->scope.names.lookup x=some .free/\∃j:Nat,X.N[j]?=some x/\Z[j]?=some (some v))
  (uK:swapsWith (.ListComp elt [⟨tg,iter,[],0⟩,⟨tg₂,iter₂,ifs₂,0⟩] scope pos) (some (.Name y py)) spos.line X.env=pure true) (hs:∀x,foldedSetIterable iter X.env x=pure x:=by intro _;rfl) :
  PS X (.Assign [.Name y py] (.ListComp elt [⟨tg,iter,[],0⟩,⟨tg₂,iter₂,ifs₂,0⟩] scope pos) spos) (wN (p7 wi ZY g₁ wi₂ g tt te) (dN i)):=by
 intro ao s Z H D I h;obtain⟨cl,oG,c1,c2⟩:=MF I B;rw[exec_Assign_Name_used _ _ _ _ uK];refine aA (tZ (aA ?_));show wpAny _ X.A (do let _ <-comprehension (.ListComp elt [⟨tg,iter,[],0⟩,⟨tg₂,iter₂,ifs₂,0⟩] scope pos) scope X.env _ (newList []) false (eval iter X.env) (some (assign (.Name y py) X.env))) _ _ s;refine aA (K5 (use:=some (assign (.Name y py) X.env)) rfl hs oG B.kind B.loc (aQ (hi ao s Z H _ I h) λxv s1 h1=>aQ h1 λitv s2 h2=>?_));obtain⟨it,fp,tn,aZ,H2,e,I2,T,st2,f2,hq⟩:=h2;subst e;refine Xr hc B P hs₂ hl hZ I2 T st2 f2 hq c1 c2 (R:=λacc C=>compPost (model X.prog X.w) X.A X.xe (some (assign (.Name y py) X.env)) _ acc C) λD' C s' H' eO a b c d e ⟨m,hm⟩ q=>?_;show wpAny _ _ (assign (.Name y py) X.env (.ref D')) _ _ s';refine wpAny_assign_Name (PK (v:=.ref D') eO hN rY hx rfl (λs5 jD ⟨ad,sb,Rg⟩=>?_) hf);have nC:C≠ad:=by
  rcases Rg with z|z
  ·rw[z];exact c
  ·exact(d y ad z).symm
 obtain⟨ol,es,ep,e1,r1⟩:=hm;refine⟨m,⟨ol,es,ep,(sb.2 C nC).trans e1,r1⟩,λh' Rh=>aP (aP ⟨_,H',Mx (Z':=Z) jD a b c d e Rh,q⟩)⟩
end
end L2
namespace L2
open PySem PySem.Spec PyProof.Rows PySem.W
noncomputable def bF{α:Type}(lt:Nat->Nat->Option Bool):KasT α->Option α
 |.ret a=>some a
 |.ask i j k=>match lt i j with
  |some b=>bF lt (k b)
  |none=>none
theorem Rm{α:Type}{lt:Nat->Nat->Option Bool}{cmp:Nat->Nat->(Bool->Shared->Prop)->Shared->Prop}{Q:α->Shared->Prop}{s:Shared}(hc:∀i j b C,lt i j=some b->C b s->cmp i j C s){a:α}(q:Q a s):∀{t:KasT α},bF lt t=some a->t.kasWp cmp Q s
 |.ret a',h=>by
  unfold bF at h;cases h;exact q
 |.ask i j k,h=>by
  unfold bF at h;cases e:lt i j with
  |none=>rw[e] at h;cases h
  |some b=>
   rw[e] at h;exact hc i j b _ e (Rm hc q h)
noncomputable def dI(vs:List Value)(p:Array Nat):Array Value:=if vs.length<2 then vs.toArray else List.toArray (p.toList.map λi=>vs.getD i Value.none)
section
variable {prog:Program}{w:World}{A:Around}{E:Value->Shared->Prop}{s:Shared}{κ:SortKind}{lt:Nat->Nat->Option Bool}{p:Array Nat}
theorem zcH{a:Addr}{vs:List Value}{n:Nat}{P:PySem.Fin->Shared->Prop}(ho:s.heap.get? a=some (seqObj "list" vs.toArray n))(nM:vs.length<64)
  (hk:2<=vs.length->∀(s':Shared) (Q:SortKind->Shared->Prop),(∀b o,b≠a->s.heap.get? b=some o->s'.heap.get? b=some o)->Q κ s'->wpAny (model prog w) A (keyKind' vs.toArray) Q E s')
  (cJ:2<=vs.length->∀(s':Shared) i j b C,(∀b o,b≠a->s.heap.get? b=some o->s'.heap.get? b=some o)->lt i j=some b->C b s'->kas_ask prog w A κ vs i j C s') (hr:2<=vs.length->bF lt (kas_sort vs.length)=some p) (Ir:2<=vs.length->p.size=vs.length)
  (h:P (.done (.ret .none)) {s with heap:=sortedHeap s.heap a vs (dI vs p)}) :
  wpAny (model prog w) A (Builtin.«list.sort» ⟨[.ref a],[]⟩) P E s:=by
 rw[list_sort_plain];have ha:a<s.heap.objs.size:=bQ ho;refine aA (listItems_at ho rfl ?_);refine aA (Aq ho rfl ?_ (by rw[fH,vL];lia) (rN _));obtain⟨e1,BL⟩ : ∃e1,(s.heap.update a (Obj.mapSeq λ_=>#[])).get? a=some (seqObj "list" #[] e1):=⟨_,get?_update_seq ho (λ_=>#[])⟩;refine aA (seqEpoch_at BL rfl ?_);refine aA (wpAny_newTuple ?_ (by show vs.length<=_;rw[vL];lia));refine aA (Gy ?_ (rN _));refine pK ?_;have keep:∀b o,b≠a->s.heap.get? b=some o->(((s.heap.update a (Obj.mapSeq λ_=>(#[]:Array Value))).push (seqObj "tuple" vs.toArray 0)).push (seqObj "list" #[] 0)).get? b=some o:=λb o nb e=>
  cD _ (cD _ ((yM _ _ _ _ nb).trans e))
 have MK:(((s.heap.update a (Obj.mapSeq λ_=>(#[]:Array Value))).push (seqObj "tuple" vs.toArray 0)).push (seqObj "list" #[] 0)).get? a=some (seqObj "list" #[] e1):=by
  rw[DK _ _ _ (by rw[size_push',Gu];exact cY (tL ha)),DK _ _ _ (by rw[Gu];exact cY ha)];exact BL
 show wpAny (model prog w) A _ P E {s with heap:=((s.heap.update a (Obj.mapSeq λ_=>#[])).push (seqObj "tuple" vs.toArray 0)).push (seqObj "list" #[] 0)};dsimp only;have hsz:vs.toArray.size=vs.length:=by simp
 by_cases h2:vs.toArray.size<2
 ·rw[if_pos h2,if_pos h2];refine aA (aP ?_);rw[StateT.run_pure];refine aA (aP ?_);dsimp only;refine aA (seqEpoch_at MK rfl ?_);refine aA (Aq MK rfl ?_ (rN _) (by rw[Array.size_map];show (pairsOf vs).size<=_;rw[pairsOf_size,vL];lia));simp only[Pk,rG,nU];have e:((vs.toArray.zip vs.toArray).map (·.2))=dI vs p:=by
   unfold dI;rw[if_pos (by rw[hsz] at h2;exact h2)];apply Array.toList_inj.mp;simp[List.map_snd_zip]
  refine aP ?_;have h':=h;rw[<-e] at h';exact h'
 ·rw[if_neg h2,if_neg h2];have lR:2<=vs.length:=by lia
  refine aA (hk lR _ _ keep ?_);refine aA (f9 (kat_run (κ:=κ) (ks:=vs) (vs:=vs) (G:=λp' s'=>p'=p/\s'={s with heap:=((s.heap.update a (Obj.mapSeq λ_=>#[])).push (seqObj "tuple" vs.toArray 0)).push (seqObj "list" #[] 0)})
   (Q:=λst' s'=>arrOf st'=p.map (kas_item (vs.toArray.zip vs.toArray))/\failedOf st'=none/\s'={s with heap:=((s.heap.update a (Obj.mapSeq λ_=>#[])).push (seqObj "tuple" vs.toArray 0)).push (seqObj "list" #[] 0)})
   rfl lR nM (λp' st' s' a1 a2 a3 a4=>⟨by rw[a2,a4.1],a3,a4.2⟩) (Rm (λi j b C hl hC=>cJ lR _ i j b C keep hl hC) ⟨rfl,rfl⟩ (hr lR))) ?_ λ_ _ e=>e)
  rintro⟨⟨⟩,st'⟩ s' ⟨Er,hf,rfl⟩;dsimp only;have hout:=kat_snds (ks:=vs) (vs:=vs) rfl Er;have e:List.toArray (p.toList.map λi=>vs.getD i Value.none)=dI vs p:=by
   unfold dI;rw[if_neg gV]
  rw[hout,e];have Xu:(dI vs p).size=vs.length:=by rw[<-e,fH,fW,pG,Ir lR]
  refine aA (seqEpoch_at MK rfl ?_);refine aA (Aq MK rfl ?_ (rN _) (by rw[Xu,vL];lia));rw[hf];simp only[Pk,rG,nU];exact aP h
theorem Rn(hl:s.heap.IsList l vs.toArray)(nM:vs.length<64)
  (hk:2<=vs.length->∀(s':Shared) (Q:SortKind->Shared->Prop) E,(∀b o,s.heap.get? b=some o->s'.heap.get? b=some o)->Q κ s'->wpAny (model prog w) A.in1.in1 (keyKind' vs.toArray) Q E s')
  (cJ:2<=vs.length->∀(s':Shared) i j b C,(∀b o,s.heap.get? b=some o->s'.heap.get? b=some o)->lt i j=some b->C b s'->kas_ask prog w A.in1.in1 κ vs i j C s') (hr:2<=vs.length->bF lt (kas_sort vs.length)=some p) (Ir:2<=vs.length->p.size=vs.length)
  (h:Q (.ref (s.heap.objs.size+1)) {s with heap:=sortedAll s.heap vs (dI vs p)}) :
  wpAny (model prog w) A (call (.builtin "sorted") [.ref l]) Q E s:=by
 refine Calls.call_function_entry kind_sorted plain_sorted entry_sorted (args_sorted1 _) ?_;unfold Builtin.«sorted»;refine aA (m:=checkCount "sorted" 1 1 _) (aP ?_);refine aA (collect_list hl ?_ (by rw[vL];lia));refine aA (Gy ?_ (by rw[vL];lia));have hsz:((s.heap.push (seqObj "list" #[] 0)).update s.heap.objs.size (Obj.mapSeq (·++vs.toArray))).objs.size=s.heap.objs.size+1:=by
  rw[Gu,size_push']
 have Bb:(((s.heap.push (seqObj "list" #[] 0)).update s.heap.objs.size (Obj.mapSeq (·++vs.toArray))).push (seqObj "list" vs.toArray 0)).get? (s.heap.objs.size+1)=some (seqObj "list" vs.toArray 0):=by
  rw[<-hsz];exact eF _ rfl
 have keep:∀b o,s.heap.get? b=some o->(((s.heap.push (seqObj "list" #[] 0)).update s.heap.objs.size (Obj.mapSeq (·++vs.toArray))).push (seqObj "list" vs.toArray 0)).get? b=some o:=λb o q=>by
  have cJ:b<s.heap.objs.size:=bQ q;rw[DK _ _ _ (by rw[hsz];exact cY (tL cJ)),yM _ _ _ _ (cY cJ),DK _ _ _ (cY cJ)];exact q
 show wpAny _ _ _ _ _ {s with heap:=((s.heap.push (seqObj "list" #[] 0)).update s.heap.objs.size (Obj.mapSeq (·++vs.toArray))).push (seqObj "list" vs.toArray 0)};rw[hsz];have nn:∀b o,s.heap.get? b=some o->b≠s.heap.objs.size+1:=λb o e=>cY (tL (bQ e));refine aA (pK (yQ slot_list_sort ⟨_,Bb,rfl⟩ entry_list_sort (zcH (κ:=κ) (lt:=lt) (p:=p) Bb nM (λh2 s' Q' k q=>hk h2 s' Q' _ (λb o e=>k b o (nn b o e) (keep b o e)) q) (λh2 s' i j b C k e q=>cJ h2 s' i j b C (λb o e=>k b o (nn b o e) (keep b o e)) e q) hr Ir ⟨_,rfl,?_⟩) (args_list_sort _)));exact aP ⟨_,rfl,h⟩
end
noncomputable def lF:List V->List V->Option Bool
 |[],ys=>some (decide (0<ys.length))
 |_::_,[]=>some false
 |.int x::xs,.int y::ys=>if x=y then lF xs ys else some (decide (x<y))
 |_::_,_::_=>none
theorem zlD{prog:Program}{w:World}{A:Around}{s:Shared}{fin:Bool}{C:Bool->Shared->Prop}{b:Bool}:∀{us ws:List V} {its jts:List Value} {i:Nat},Vals us its->Vals ws jts->lF us ws=some b->fin=decide (us.length<ws.length)->C b s->KatLex prog w A true fin C (its.zip jts) i s:=by
 intro us ws its jts i r1
 induction r1 generalizing ws jts i with
 |nil=>
  intro _ h hf hc;rw[List.zip_nil_left];unfold lF at h;cases h;rw[hf];exact kat_nil hc
 |@cons x u us its rx ri ih=>
  intro r2 h hf hc;cases r2 with
  |nil=>
   rw[List.zip_nil_right];unfold lF at h;cases h;rw[hf];exact kat_nil (by simpa using hc)
  |@cons y v ws jts ry rj=>
   rw[Gp];cases x with
   |int a=>
    cases y with
    |int c=>
     obtain⟨t,rfl⟩:=rx;obtain⟨t',rfl⟩:=ry;unfold lF at h;refine kat_cons (wpAny_eqBool_int ?_);by_cases e:a=c
     ·rw[if_pos e] at h;subst e;rw[DN];exact kat_yes (ih rj h (by rw[hf];simp) hc)
     ·rw[if_neg e] at h;cases h;rw[show (a==c)=false by simpa using e];refine kat_no ?_;by_cases hi:i=0
      ·subst hi;exact oneLt_int hc
      ·rw[show (true&&i==0)=false by simpa using hi];exact kat_one _ _ (wpAny_lt_int hc)
    |_=>cases h
   |_=>cases y<;>cases h
def uL(K:W.Frag)(H:Hp)(ys:List V)(lt:Nat->Nat->Option Bool):Prop:=
 ((∀v∈ys,∃i,v=V.int i)/\∀i j b,lt i j=some b->∃x y,ys[i]?=some (.int x)/\ys[j]?=some (.int y)/\b=decide (x<y)) \/
 ((∀v∈ys,∃a i r,v=.ref a/\gK K H a (.int i::r))/\∀i j b,lt i j=some b->∃a c us ws,ys[i]?=some (.ref a)/\ys[j]?=some (.ref c)/\gK K H a us/\gK K H c ws/\lF us ws=some b)
noncomputable def fQ(ys:List V)(p:Array Nat):List V:=if ys.length<2 then ys else p.toList.map λi=>ys.getD i .non
theorem Xw(r:Vals ys its):∀l:List Nat,Vals (l.map λi=>ys.getD i .non) (l.map λi=>its.getD i Value.none)
 |[]=>.nil
 |i::l=>by
  refine .cons ?_ (Xw r l);cases e:ys[i]? with
  |some y=>
   obtain⟨u,e1,e2⟩:=r.get e;show RelV (ys.getD i .non) (its.getD i Value.none);rw[mD,mD,e,e1];exact e2
  |none=>
   have e1:its[i]?=none:=by rw[qG] at e ⊢;rw[<-r.length];exact e
   show RelV (ys.getD i .non) (its.getD i Value.none);rw[mD,mD,e,e1];rfl
theorem Xx{ys:List V}{its:List Value}(r:Vals ys its)(p:Array Nat):Vals (fQ ys p) (dI its p).toList:=by
 unfold fQ dI;rw[r.length];by_cases h:its.length<2
 ·rw[if_pos h,if_pos h];exact r
 ·rw[if_neg h,if_neg h];exact Xw r p.toList
theorem zhl{ys:List V}{its:List Value}(r:Vals ys its):∀u∈its,∃v∈ys,RelV v u:=by
 induction r with
 |nil=>intro u hu;cases hu
 |cons h t ih=>
  intro u hu;rcases jA.mp hu with rfl|hu
  ·exact⟨_,lg,h⟩
  ·obtain⟨v,a,b⟩:=ih u hu;exact⟨v,gU _ a,b⟩
section
variable {X:Cx}
theorem Xy{prog:Program}{w:World}{A:Around}{E:Value->Shared->Prop}{s:Shared}{its:List Value}{Q:SortKind->Shared->Prop}(h2:2<=its.length)(hi:∀u∈its,∃i t,u=Value.int i t)(q:Q oneType' s):wpAny (model prog w) A (keyKind' its.toArray) Q E s:=
 kas_kind (T:=.type "int") h2 (λv hv=>by obtain⟨i,t,rfl⟩:=hi v hv;exact .of_pure rfl) Ro Ro q
theorem zi1{K:W.Frag}{ao:List (Addr×Obj)}{s:Shared}{Z:St}{H:Hp}(I:Inv X ao Z H s){h':Heap}(k:∀b o,s.heap.get? b=some o->h'.get? b=some o):∀{ys:List V} {its:List Value},Vals ys its->(∀v∈ys,∃a i r,v=.ref a/\gK X.K H a (.int i::r))->∃fs:List Value,fs.length=its.length/\(∀f∈fs,∃i t,f=Value.int i t)/\KatTups h' its fs:=by
 intro ys its r0
 induction r0 with
 |nil=>exact λ_=>⟨[],rfl,(λf hf=>by cases hf),trivial⟩
 |@cons v u ys its r rs ih=>
  intro h;obtain⟨a,i,r',rfl,hq⟩:=h _ lg;obtain⟨fs,l,hf,kt⟩:=ih λv hv=>h v (gU _ hv);obtain⟨its',rv,⟨o,ho,hc,n,hd⟩,_⟩:=I.tuple hq;cases (show u=Value.ref a from r);cases rv with
  |cons ri rr=>
   obtain⟨t,rfl⟩:=ri;refine⟨Value.int i t::fs,by simp[l],λf hf'=>?_,KatTups.cons (k _ _ ho) hc hd Zaa kt⟩;rcases jA.mp hf' with rfl|z
   ·exact⟨i,t,rfl⟩
   ·exact hf f z
theorem zf8{prog:Program}{w:World}{A:Around}{E:Value->Shared->Prop}{s:Shared}{its fs:List Value}{Q:SortKind->Shared->Prop}(h2:2<=its.length)(hl:fs.length=its.length)(hi:∀u∈fs,∃i t,u=Value.int i t)(kt:KatTups s.heap its fs)(q:Q (tuples' true) s):wpAny (model prog w) A (keyKind' its.toArray) Q E s:=
 kat_kind (T:=.type "int") kt gV (λv hv=>by obtain⟨i,t,rfl⟩:=hi v hv;exact .of_pure rfl) Ro q
theorem Et{its:List Value}{i:Nat}{u:Value}(h:its[i]?=some u):its.getD i Value.none=u:=by rw[mD,h];rfl
theorem zd5:cZ X (.builtin "sorted") (λxs H Q=>∃l ys lt p,xs=[.ref l]/\cR X.K H l ys/\ys.length<64/\(2<=ys.length->uL X.K H ys lt/\bF lt (kas_sort ys.length)=some p/\p.size=ys.length)/\∀r,H r=none->Q (.ref r) (upd H r (.lst (fQ ys p)))):=by
 intro ao s Z H xs us Q I r h;obtain⟨l,ys,lt,p,rfl,hq,nM,hs,q⟩:=h;obtain⟨u,rfl,rx⟩:=vals1 r;cases rx;obtain⟨its,rv,pl,hz⟩:=I.list hq;have hlen:=rv.length;have fin:EP X ao Z Q (.ref (s.heap.objs.size+1)) {s with heap:=sortedAll s.heap its (dI its p)}:=by
  obtain⟨e,he⟩:=sortedAll_at s.heap its (dI its p);have hn:H (s.heap.objs.size+1)=none:=I.hok.fresh (wC _);refine⟨.ref (s.heap.objs.size+1),_,I.laid (t':=s.toks) (λb u q=>sortedAll_old q) (wC _) (show bI X.prog X.w _ _ _ (.lst (fQ ys p)) from ⟨?_,(dI its p).toList,e,Xx rv p,by rw[O_];exact he⟩),rfl,q _ hn⟩;unfold fQ;by_cases h2:ys.length<2
  ·rw[if_pos h2];exact hz
  ·rw[if_neg h2,fW,pG,(hs gV).2.2];exact hz
 by_cases h2:2<=ys.length
 ·obtain⟨hS,hr,hp⟩:=hs h2;rcases hS with ⟨hI,cJ⟩|⟨hT,cJ⟩
  ·refine Rn (κ:=oneType') (lt:=lt) (p:=p) pl.isList gV (λlR s' Q' E' k q'=>Xy lR (λu hu=>?_) q') (λ_ s' i j b C k e hC=>?_) (λ_=>by rw[<-hlen];exact hr) (λ_=>by lia) fin
   ·obtain⟨v,hv,rr⟩:=zhl rv u hu;obtain⟨i,rfl⟩:=hI v hv;obtain⟨t,rfl⟩:=rr;exact⟨i,t,rfl⟩
   ·obtain⟨x,y,e1,e2,rfl⟩:=cJ i j b e;obtain⟨u1,f1,g1⟩:=rv.get e1;obtain⟨u2,f2,g2⟩:=rv.get e2;obtain⟨t1,rfl⟩:=g1;obtain⟨t2,rfl⟩:=g2;show wpAny _ _ (keyLt' oneType' (its.getD i Value.none) (its.getD j Value.none)) C _ s';rw[Et f1,Et f2];exact kat_lt_int hC
  ·refine Rn (κ:=tuples' true) (lt:=lt) (p:=p) pl.isList gV (λlR s' Q' E' k q'=>?_) (λ_ s' i j b C k e hC=>?_) (λ_=>by rw[<-hlen];exact hr) (λ_=>by lia) fin
   ·obtain⟨fs,l1,hf,kt⟩:=zi1 (K:=X.K) I k rv hT;exact zf8 lR l1 hf kt q'
   ·obtain⟨a,c,us,ws,e1,e2,q1,q2,e3⟩:=cJ i j b e;obtain⟨u1,f1,g1⟩:=rv.get e1;obtain⟨u2,f2,g2⟩:=rv.get e2;cases (show u1=Value.ref a from g1);cases (show u2=Value.ref c from g2);obtain⟨i1,r1,⟨o1,BL,hc1,n1,hd1⟩,_⟩:=I.tuple q1;obtain⟨i2,r2,⟨o2,pU,nJ,n2,hd2⟩,_⟩:=I.tuple q2;show wpAny _ _ (keyLt' (tuples' true) (its.getD i Value.none) (its.getD j Value.none)) C _ s';rw[Et f1,Et f2];refine kat_lt (k _ _ BL) hd1 (k _ _ pU) hd2 (zlD r1 r2 e3 ?_ hC);rw[r1.length,r2.length];simp
 ·exact Rn (κ:=oneType') (lt:=lt) (p:=p) pl.isList gV (λlR=>absurd lR gV) (λlR=>absurd lR gV) (λlR=>absurd lR gV) (λlR=>absurd lR gV) fin
end
end L2
namespace L2
open PySem PySem.Spec PyProof.Rows PySem.W PySem.Calls
theorem Xz{α:Type}:∀{l:List (Str×α)} {f:Str} {u:α},(l.map (·.1)).Nodup->(f,u)∈l->l.lookup f=some u
 |(g,v)::r,f,u,hn,hm=>by
  rw[jk,wB] at hn;rw[pH];rcases jA.mp hm with e|hm
  ·cases e;simp
  ·have:f≠g:=λz=>hn.1 (by rw[<-z];exact qI.mpr ⟨(f,u),hm,rfl⟩);rw[show (f==g)=false by simpa using this];exact Xz hn.2 hm
theorem zkb{α:Type}{fs:List Str}{us:List α}{i:Nat}{f:Str}{u:α}(h1:fs[i]?=some f)(h2:us[i]?=some u):(f,u)∈fs.zip us:=by
 refine gJ (i:=i) ?_;exact(List.getElem?_zip_eq_some (z:=(f,u))).mpr ⟨h1,h2⟩
structure XF(K:Frag)(C:Addr)(f:Str):Prop where
 ga:findIn K (.ref C) "__getattribute__"=some (some (.builtin "BaseException.__getattribute__"))
 gn:findIn K (.ref C) "__getattr__"=some none
 mb:mroIn K C (.type "BaseException")=some true
 no:findIn K (.ref C) f=some none
 hd:hasDictIn K C=true
end L2
namespace L2
open PySem PySem.Spec PyProof.Rows
section
variable {X:Cx}{ao:List (Addr×Obj)}{Z:St}{H:Hp}{s:Shared}{h':Heap}
theorem Inv.lU{t':Nat}{ch:List Addr}{a:Addr}{o:HO}(I:Inv X ao Z H s)(k:∀b u,b∉ch->s.heap.get? b=some u->h'.get? b=some u)(hf:∀b∈ch,fL X ao H b)(ha:s.heap.objs.size<=a)(new:bI X.prog X.w (upd H a o) h' a o) :
  Inv X ao Z (upd H a o) {s with heap:=h',toks:=t'}:=by
 have zj:∀b u,H b=some u->b∉ch:=λb u e z=>by rw[(hf b z).1] at e;cases e
 have hn:H a=none:=I.hok.fresh ha;have na:∀b u,H b=some u->b≠a:=λb u e z=>by rw[z,hn] at e;cases e
 have la:∀b u,s.heap.get? b=some u->b≠a:=λb u e=>cY (fZ (bQ e) ha);refine I.step (g':=s.gens) (d':=s.drawn) (ch:=ch) (λb hb=>?_) (λb o _ _ hc e _=>k b o hc e) (λb o _ _ hc e _=>⟨o.slots,k b o hc e⟩) (λb o' _ e n=>by rw[bT (la b o' e)];exact n)
  (λb o hc e=>⟨o,k b o hc e⟩) (λb xs e=>by rw[bT (na b _ e)];exact e) (λb o u e=>by rw[bT (na b _ e)];exact e) (λb ps e=>⟨#[],by rw[bT (na b _ e),e];simp,.nil⟩) (λm hm=>?_) (λb u e=>?_) I.bare
 ·obtain⟨f0,f1,f2,f3,f4,f5⟩:=hf b hb;exact⟨f3.imp id λz=>Du z,f1,f4,f5⟩
 ·obtain⟨o,es,ep,ho,r⟩:=hm;exact⟨o,es,ep,k _ o (λz=>(hf _ z).2.1 rfl) ho,r⟩
 ·by_cases z:b=a
  ·subst z;rw[iB] at e;cases e;exact new
  ·rw[bT z] at e;refine(I.hok b u e).stay (λc v hc q=>k c v ?_ q) (λc q=>by rw[bT (na c _ q)];exact q) λc _ q=>by rw[bT (na c _ q)];exact q
   rcases hc with y|y
   ·rw[y];exact zj b u e
   ·exact zj c _ y
theorem Inv.qT{t':Nat}{ch:List Addr}(I:Inv X ao Z H s)(k:∀b u,b∉ch->s.heap.get? b=some u->h'.get? b=some u)(hf:∀b∈ch,fL X ao H b):Inv X ao Z H {s with heap:=h',toks:=t'}:=by
 have zj:∀b u,H b=some u->b∉ch:=λb u e z=>by rw[(hf b z).1] at e;cases e
 refine I.step (g':=s.gens) (d':=s.drawn) (ch:=ch) (λb hb=>?_) (λb o _ _ hc e _=>k b o hc e) (λb o _ _ hc e _=>⟨o.slots,k b o hc e⟩) (λ_ _ _ _ n=>n)
  (λb o hc e=>⟨o,k b o hc e⟩) (λ_ _ e=>e) (λ_ _ _ e=>e) (λb ps e=>⟨#[],by rw[e];simp,.nil⟩) (λm hm=>?_) (λb u e=>?_) I.bare
 ·obtain⟨f0,f1,f2,f3,f4,f5⟩:=hf b hb;exact⟨f3.imp id λz=>Du z,f1,f4,f5⟩
 ·obtain⟨o,es,ep,ho,r⟩:=hm;exact⟨o,es,ep,k _ o (λz=>(hf _ z).2.1 rfl) ho,r⟩
 ·refine(I.hok b u e).stay (λc v hc q=>k c v ?_ q) (λ_ q=>q) λ_ _ q=>q;rcases hc with y|y
  ·rw[y];exact zj b u e
  ·exact zj c _ y
end
structure lV(prog:Program)(w:World)(it src:Addr)(st:Nat->Heap->Prop)(its:Array Value):Prop where
 item:∀(A:Around) (E:Value->Shared->Prop) (s:Shared) (i:Nat) (x:Value) (Q:Value->Shared->Prop),st i s.heap->its[i]?=some x->(∀h',st (i+1) h'->Heap.SameBut it s.heap h'->Q x {s with heap:=h'})->wpAny (model prog w) A (Builtin.SmallTypes.nextOf (.ref it)) Q E s
 fin:∀(A:Around) (E:Value->Shared->Prop) (s:Shared) (i:Nat) (Q:Value->Shared->Prop),A.handled=none->st i s.heap->its[i]?=none->(∀h' e,Heap.ExtBut it s.heap h'->(∃o,h'.get? e=some o/\o.cls=.type "StopIteration")->E (.ref e) {s with heap:=h'})->wpAny (model prog w) A (Builtin.SmallTypes.nextOf (.ref it)) Q E s
 keep:∀i h h',st i h->(∀b o,b=it\/b=src->h.get? b=some o->h'.get? b=some o)->st i h'
theorem lV.list(tO:l≠it):lV prog w it l (λi h=>h.IsListIter it l i/\h.IsList l its) its where
 item:=λA E s i x Q ⟨h1,h2⟩ hx q=>wpAny_nextOf_list_item h1 h2 hx λh' a sb=>q h' ⟨a,h2.at λo e=>(sb.2 l tO).trans e⟩ sb
 fin:=λA E s i Q hh ⟨h1,h2⟩ hx q=>wpAny_nextOf_list_end hh h1 h2 hx q
 keep:=λi h h' ⟨h1,h2⟩ k=>⟨h1.at λo e=>k it o (.inl rfl) e,h2.at λo e=>k l o (.inr rfl) e⟩
theorem XD(l:Addr):¬((Value.ref l==Value.none)=true):=λz=>by cases (show false=true from z)
theorem IsTupleIter.at'{h h':Heap}{it l:Addr}{i:Nat}(x:h.IsTupleIter it l i)(k:∀o,h.get? it=some o->h'.get? it=some o):h'.IsTupleIter it l i:=by
 obtain⟨o,e,r⟩:=x;exact⟨o,k o e,r⟩
theorem IsTuple.at'{h h':Heap}{l:Addr}{xs:Array Value}(x:h.IsTuple l xs)(k:∀o,h.get? l=some o->h'.get? l=some o):h'.IsTuple l xs:=by
 obtain⟨o,e,r⟩:=x;exact⟨o,k o e,r⟩
section
variable {prog:Program}{w:World}{A:Around}{E:Value->Shared->Prop}{s:Shared}{it l:Addr}{i:Nat}{its:Array Value}
theorem zfv{x:Value}{Q:Value->Shared->Prop}(hi:s.heap.IsTupleIter it l i)(hl:s.heap.IsTuple l its)(hx:its[i]?=some x)(q:∀h',h'.IsTupleIter it l (i+1)->Heap.SameBut it s.heap h'->Q x {s with heap:=h'}) :
  wpAny (model prog w) A (Builtin.SmallTypes.nextOf (.ref it)) Q E s:=by
 obtain⟨oi,ei,ci,di⟩:=id hi;obtain⟨ol,el,_,nl,dl⟩:=hl;unfold Builtin.SmallTypes.nextOf;refine aA (Ae (name:=Str.ofString "__next__") hi.typeIs K4 (yQ K4 hi.typeIs F.entry_tuple_iterator_next ?_ (F.args_tuple_iterator_next_1 _)));show wpAny _ A.in1 (field (.ref it) 0 >>= _) _ E s;refine aA (mH ei di (x:=.ref l) rfl ?_);show wpAny _ A.in1 (if (Value.ref l==Value.none)=true then _ else _) _ E s;rw[if_neg (XD l)];show wpAny _ A.in1 (field (.ref it) 1 >>= _) _ E s;refine aA (mH ei di (x:=.int i 0) rfl ?_);show wpAny _ A.in1 (seqItems? (.ref l) >>= _) _ E s;refine aA (rK el dl ?_);simp only[rJ,hx];refine aA (Gx ei di Zaa (aP ⟨x,rfl,aP (q _ ⟨_,Af _ ei (K9 (yO di _)),(Obj.cls_mapFields ..).trans ci,?_⟩ (Heap.SameBut.update ..))⟩));rw[yO di];simp[rawInt]
theorem zgO{Q:Value->Shared->Prop}(hh:A.handled=none)(hi:s.heap.IsTupleIter it l i)(hl:s.heap.IsTuple l its)(hx:its[i]?=none)(q:∀h' e,Heap.ExtBut it s.heap h'->(∃o,h'.get? e=some o/\o.cls=.type "StopIteration")->E (.ref e) {s with heap:=h'}) :
  wpAny (model prog w) A (Builtin.SmallTypes.nextOf (.ref it)) Q E s:=by
 obtain⟨oi,ei,ci,di⟩:=id hi;obtain⟨ol,el,_,nl,dl⟩:=hl;unfold Builtin.SmallTypes.nextOf;refine aA (Ae (name:=Str.ofString "__next__") hi.typeIs K4 (yQ K4 hi.typeIs F.entry_tuple_iterator_next ?_ (F.args_tuple_iterator_next_1 _)));show wpAny _ A.in1 (field (.ref it) 0 >>= _) _ E s;refine aA (mH ei di (x:=.ref l) rfl ?_);show wpAny _ A.in1 (if (Value.ref l==Value.none)=true then _ else _) _ E s;rw[if_neg (XD l)];show wpAny _ A.in1 (field (.ref it) 1 >>= _) _ E s;refine aA (mH ei di (x:=.int i 0) rfl ?_);show wpAny _ A.in1 (seqItems? (.ref l) >>= _) _ E s;refine aA (rK el dl ?_);simp only[rJ,hx];refine aA (yV (aA (Gx ei di Zaa ?_)));show wpAny _ A.in1 (newExc (.type "StopIteration") [] >>= _) _ E _;refine aA ?_;simp only[newExc,newTuple];refine aA (tK (aA (m:=firstArgMember _ _) (DX (a:=Value.none) (by first|rfl|(simp only[firstArgMember];rfl)) (tK ?_ (by size_fits)))) (by size_fits));simp only[raiseNew];refine aA (wpAny_handled ?_);rw[show A.in1.handled=none from hh];exact aA (aP (wpAny_throw (q _ _ (((Heap.SameBut.update ..).extBut.push _).push _) ⟨_,eF _ rfl,rfl⟩)))
end
theorem lV.tuple{prog:Program}{w:World}{it l:Addr}{its:Array Value}(tO:l≠it):lV prog w it l (λi h=>h.IsTupleIter it l i/\h.IsTuple l its) its where
 item:=λA E s i x Q ⟨h1,h2⟩ hx q=>zfv h1 h2 hx λh' a sb=>q h' ⟨a,IsTuple.at' h2 λo e=>(sb.2 l tO).trans e⟩ sb
 fin:=λA E s i Q hh ⟨h1,h2⟩ hx q=>zgO hh h1 h2 hx q
 keep:=λi h h' ⟨h1,h2⟩ k=>⟨IsTupleIter.at' h1 λo e=>k it o (.inl rfl) e,IsTuple.at' h2 λo e=>k l o (.inr rfl) e⟩
structure mV(z TI TO i1 i2 l1 l2:Addr):Prop where
 zs:z≠TI/\z≠TO/\z≠i1/\z≠i2/\z≠l1/\z≠l2
 os:TO≠TI/\TO≠i1/\TO≠i2/\TO≠l1/\TO≠l2
 is:TI≠i1/\TI≠i2/\i1≠i2/\i1≠l1/\i1≠l2/\i2≠l1/\i2≠l2
section
variable {prog:Program}{w:World}{A:Around}{E:Value->Shared->Prop}{s:Shared}{z TI TO i1 i2 l1 l2:Addr}{st1 st2:Nat->Heap->Prop}{xs ys:Array Value}{k:Nat}{a b:Value}
theorem zg9(N1:lV prog w i1 l1 st1 xs)(N2:lV prog w i2 l2 st2 ys)(D:mV z TI TO i1 i2 l1 l2)(hz:IsZip s.heap z TI TO .none)(Rp:IsPair s.heap TI (.ref i1) (.ref i2))(Rq:IsPair s.heap TO a b)
  (h1:st1 k s.heap) (h2:st2 k s.heap) (hx:xs[k]?=some x) (hy:ys[k]?=some y)
  (q:∀h',IsZip h' z TI TO (rawInt s.heap.objs.size)->IsPair h' TO x y->st1 (k+1) h'->st2 (k+1) h'->IsPair h' s.heap.objs.size x y->h'.objs.size=s.heap.objs.size+1->(∀c o,c≠z->c≠TO->c≠i1->c≠i2->s.heap.get? c=some o->h'.get? c=some o)->Q (some (.ref s.heap.objs.size)) {s with heap:=h'}) :
  wpAny (model prog w) A (pyNext (.ref z)) Q E s:=by
 obtain⟨⟨z1,z2,z3,z4,z5,z6⟩,⟨t1,t2,t3,t4,t5⟩,⟨j1,j2,j3,j4,j5,j6,j7⟩⟩:=D;have hT:s.TypeIs (.ref z) "zip":=⟨_,hz,rfl⟩;unfold pyNext;refine aA (DW (Ae (name:=Str.ofString "__next__") hT Lj (yQ Lj hT F.entry_zip_next ?_ (F.args_zip_next_1 _))));show wpAny _ A.in1 (field (.ref z) 2 >>= _) _ _ s;refine aA (mH hz rfl (x:=.bool false) rfl ?_);show wpAny _ A.in1 (field (.ref z) 3 >>= _) _ _ s;refine aA (mH hz rfl (x:=.ref TI) rfl (aA (rK Rp rfl ?_)));show wpAny _ A.in1 (Builtin.SmallTypes.ownedTupleIsFree (.ref z) >>= _) _ _ s;refine aA ?_;unfold Builtin.SmallTypes.ownedTupleIsFree;refine aA (mH hz rfl (x:=.none) rfl (aP ?_));simp only[if_true];refine aA (yV (aA (mH hz rfl (x:=.ref TO) rfl (aA (Dy hz Zaa λha za sa=>aA ?_)))))
 replace za:IsZip ha z TI TO .ellipsis:=za
 simp only[List.zipIdx_cons,List.zipIdx_nil,DR,Lp];refine aA (aA (wpAny_onRaise ?_));show wpAny _ A.in1 (Builtin.SmallTypes.nextOf (.ref i1) >>= _) _ _ _;refine aA (N1.item _ _ {s with heap:=ha} k x _ (N1.keep _ _ _ h1 λc o hc e=>sa.extBut c o (by rcases hc with rfl|rfl;exact z3.symm;exact z5.symm) e) hx λhb XH sb=>aP ?_);have tb:IsPair hb TO a b:=sb.extBut _ _ t2 (sa.extBut _ _ z2.symm Rq);refine aA (rK tb rfl (aA (Pa tb λhc tc sc=>aA (yU (aP ?_)))))
 replace tc:IsPair hc TO x b:=tc
 refine aA (aA (wpAny_onRaise ?_));show wpAny _ A.in1 (Builtin.SmallTypes.nextOf (.ref i2) >>= _) _ _ _;have k2:st2 k hc:=N2.keep _ _ _ h2 λc o lE e=>by
  rcases lE with rfl|rfl
  ·exact sc.extBut _ _ t3.symm (sb.extBut _ _ j3.symm (sa.extBut _ _ z4.symm e))
  ·exact sc.extBut _ _ t5.symm (sb.extBut _ _ j5.symm (sa.extBut _ _ z6.symm e))
 have k1:st1 (k+1) hc:=N1.keep _ _ _ XH λc o lE e=>by
  rcases lE with rfl|rfl
  ·exact sc.extBut _ _ t2.symm e
  ·exact sc.extBut _ _ t4.symm e
 refine aA (N2.item _ _ {s with heap:=hc} k y _ k2 hy λhd sd2 sd=>aP ?_);have td:IsPair hd TO x b:=sd.extBut _ _ t3 tc;refine aA (rK td rfl (aA (Pa td λhe te se=>aA (yU (aP (aP ?_))))))
 replace te:IsPair he TO x y:=te
 refine aA (rK te rfl (aA (wpAny_newTuple ?_)));have size:he.objs.size=s.heap.objs.size:=by rw[se.1,sd.1,sc.1,sb.1,sa.1]
 have ze:IsZip he z TI TO .ellipsis:=se.extBut _ _ z2 (sd.extBut _ _ z4 (sc.extBut _ _ z2 (sb.extBut _ _ z3 za)));have kept:∀c o,c≠z->c≠TO->c≠i1->c≠i2->s.heap.get? c=some o->he.get? c=some o:=λc o c1 c2 c3 c4 e=>se.extBut _ _ c2 (sd.extBut _ _ c4 (sc.extBut _ _ c2 (sb.extBut _ _ c3 (sa.extBut _ _ c1 e))));have e1:st1 (k+1) he:=N1.keep _ _ _ k1 λc o lE e=>by
  rcases lE with rfl|rfl
  ·exact se.extBut _ _ t2.symm (sd.extBut _ _ j3 e)
  ·exact se.extBut _ _ t4.symm (sd.extBut _ _ j6.symm e)
 have e2:st2 (k+1) he:=N2.keep _ _ _ sd2 λc o lE e=>by
  rcases lE with rfl|rfl
  ·exact se.extBut _ _ t3.symm e
  ·exact se.extBut _ _ t5.symm e
 show wpAny _ A.in1 (Builtin.SmallTypes.ownedTupleHandOut (.ref z) (.ref he.objs.size) >>= _) _ _ _;refine aA ?_;unfold Builtin.SmallTypes.ownedTupleHandOut;have zf:IsZip (he.push {cls:=.type "tuple",data:=.seq #[x,y]}) z TI TO .ellipsis:=cD _ ze;refine aA (Dy zf Zaa λhg zg sg=>Dy zg Zaa λhh zh sh=>aP ⟨_,rfl,aP ?_⟩)
 replace zh:IsZip hh z TI TO (rawInt he.objs.size):=zh
 have up:∀c o,c≠z->he.get? c=some o->hh.get? c=some o:=λc o c1 e=>sh.extBut _ _ c1 (sg.extBut _ _ c1 (cD _ e));have lz:z<he.objs.size:=bQ ze;have tn:IsPair hh he.objs.size x y:=sh.extBut _ _ (pL lz) (sg.extBut _ _ (pL lz) (eF _ rfl));have sz:hh.objs.size=he.objs.size+1:=by rw[sh.1,sg.1,vK]
 rw[size] at zh tn sz;show Q (some (.ref he.objs.size)) _;rw[size];exact q hh zh (up _ _ z2.symm te) (N1.keep _ _ _ e1 λc o lE e=>up c o (by rcases lE with rfl|rfl;exact z3.symm;exact z5.symm) e) (N2.keep _ _ _ e2 λc o lE e=>up c o (by rcases lE with rfl|rfl;exact z4.symm;exact z6.symm) e) tn sz λc o c1 c2 c3 c4 e=>up c o c1 (kept c o c1 c2 c3 c4 e)
theorem ziQ(hn:A.handled=none)(N1:lV prog w i1 l1 st1 xs)(N2:lV prog w i2 l2 st2 ys)(D:mV z TI TO i1 i2 l1 l2)(hz:IsZip s.heap z TI TO .none)(Rp:IsPair s.heap TI (.ref i1) (.ref i2))(Rq:IsPair s.heap TO a b)
  (h1:st1 k s.heap) (h2:st2 k s.heap) (hx:xs[k]?=none\/ys[k]?=none) (q:∀h',(∀c o,c≠z->c≠TO->c≠i1->c≠i2->s.heap.get? c=some o->h'.get? c=some o)->Q none {s with heap:=h'}):wpAny (model prog w) A (pyNext (.ref z)) Q E s:=by
 obtain⟨⟨z1,z2,z3,z4,z5,z6⟩,⟨t1,t2,t3,t4,t5⟩,⟨j1,j2,j3,j4,j5,j6,j7⟩⟩:=D;have hT:s.TypeIs (.ref z) "zip":=⟨_,hz,rfl⟩;have stop:∀(h':Heap) (e:Addr),(∀c o,c≠z->c≠TO->c≠i1->c≠i2->s.heap.get? c=some o->h'.get? c=some o)->(∃o,h'.get? e=some o/\o.cls=.type "StopIteration")->
   wpAny (model prog w) A (do if <-isInstance (.ref e) (.type "StopIteration") then pure none else throw (.ref e):Sem (Option Value)) Q E {s with heap:=h'}:=λh' e kp ⟨o,ho,hc⟩=>
  aA (Li (T:="StopIteration") (b:=true) ⟨o,ho,hc⟩ isSubtype_stop (aP (q h' kp)))
 unfold pyNext;refine aA (DW (Ae (name:=Str.ofString "__next__") hT Lj (yQ Lj hT F.entry_zip_next ?_ (F.args_zip_next_1 _))));show wpAny _ A.in1 (field (.ref z) 2 >>= _) _ _ s;refine aA (mH hz rfl (x:=.bool false) rfl ?_);show wpAny _ A.in1 (field (.ref z) 3 >>= _) _ _ s;refine aA (mH hz rfl (x:=.ref TI) rfl (aA (rK Rp rfl ?_)));show wpAny _ A.in1 (Builtin.SmallTypes.ownedTupleIsFree (.ref z) >>= _) _ _ s;refine aA ?_;unfold Builtin.SmallTypes.ownedTupleIsFree;refine aA (mH hz rfl (x:=.none) rfl (aP ?_));simp only[if_true];refine aA (yV (aA (mH hz rfl (x:=.ref TO) rfl (aA (Dy hz Zaa λha za sa=>aA ?_)))))
 replace za:IsZip ha z TI TO .ellipsis:=za
 simp only[List.zipIdx_cons,List.zipIdx_nil,DR,Lp];refine aA (aA (wpAny_onRaise ?_));show wpAny _ A.in1 (Builtin.SmallTypes.nextOf (.ref i1) >>= _) _ _ _;have ka:st1 k ha:=N1.keep _ _ _ h1 λc o hc e=>sa.extBut c o (by rcases hc with rfl|rfl;exact z3.symm;exact z5.symm) e;cases ex:xs[k]? with
 |none=>
  refine aA (N1.fin _ _ {s with heap:=ha} k _ hn ka ex λhb e sb se=>?_);obtain⟨oe,ho,hc⟩:=se;have zb:IsZip hb z TI TO .ellipsis:=sb _ _ z3 za;have ne:e≠z:=λy=>by subst y;rw[zb] at ho;cases ho;simp at hc
  exact Dy zb Zaa λhd _ sd=>stop hd e (λc o c1 _ c3 _ y=>sd.extBut _ _ c1 (sb _ _ c3 (sa.extBut _ _ c1 y))) ⟨oe,sd.extBut _ _ ne ho,hc⟩
 |some x=>
  have ey:ys[k]?=none:=by
   rcases hx with y|y
   ·rw[ex] at y;cases y
   ·exact y
  refine aA (N1.item _ _ {s with heap:=ha} k x _ ka ex λhb XH sb=>aP ?_);have tb:IsPair hb TO a b:=sb.extBut _ _ t2 (sa.extBut _ _ z2.symm Rq);refine aA (rK tb rfl (aA (Pa tb λhc tc sc=>aA (yU (aP ?_)))));refine aA (aA (wpAny_onRaise ?_));show wpAny _ A.in1 (Builtin.SmallTypes.nextOf (.ref i2) >>= _) _ _ _;have k2:st2 k hc:=N2.keep _ _ _ h2 λc o lE e=>by
   rcases lE with rfl|rfl
   ·exact sc.extBut _ _ t3.symm (sb.extBut _ _ j3.symm (sa.extBut _ _ z4.symm e))
   ·exact sc.extBut _ _ t5.symm (sb.extBut _ _ j5.symm (sa.extBut _ _ z6.symm e))
  refine aA (N2.fin _ _ {s with heap:=hc} k _ hn k2 ey λhd e sd se=>?_);obtain⟨oe,ho,oG⟩:=se;have zd:IsZip hd z TI TO .ellipsis:=sd _ _ z4 (sc.extBut _ _ z2 (sb.extBut _ _ z3 za));have ne:e≠z:=λy=>by subst y;rw[zd] at ho;cases ho;simp at oG
  exact Dy zd Zaa λhf _ sf=>stop hf e (λc o c1 c2 c3 c4 y=>sf.extBut _ _ c1 (sd _ _ c4 (sc.extBut _ _ c2 (sb.extBut _ _ c3 (sa.extBut _ _ c1 y))))) ⟨oe,sf.extBut _ _ ne ho,oG⟩
end
noncomputable def Ck:Bool->Heap->Addr->Array Value->Prop
 |true,h,l,xs=>h.IsList l xs
 |false,h,l,xs=>h.IsTuple l xs
noncomputable def Rk:Bool->Addr->Addr->Nat->Heap->Prop
 |true,it,l,i,h=>h.IsListIter it l i
 |false,it,l,i,h=>h.IsTupleIter it l i
noncomputable def Sk:Bool->W.Frag->Hp->Addr->List V->Prop
 |true,K,H,l,xs=>cR K H l xs
 |false,K,H,l,xs=>gK K H l xs
noncomputable def gD:Bool->Addr->Obj
 |true,l=>{cls:=.type "list_iterator",data:=.fields #[.ref l,.int 0 0]}
 |false,l=>{cls:=.type "tuple_iterator",data:=.fields #[.ref l,.int 0 0]}
theorem lV.of(kd:Bool)(tO:l≠it):lV prog w it l (λi h=>Rk kd it l i h/\Ck kd h l its) its:=by
 cases kd
 ·exact lV.tuple tO
 ·exact lV.list tO
theorem Ck.keep(x:Ck kd h l xs)(k:∀o,h.get? l=some o->h'.get? l=some o):Ck kd h' l xs:=by
 cases kd
 ·exact IsTuple.at' x k
 ·exact Heap.IsList.at x k
theorem Rk.keep(x:Rk kd it l i h)(k:∀o,h.get? it=some o->h'.get? it=some o):Rk kd it l i h':=by
 cases kd
 ·exact IsTupleIter.at' x k
 ·exact Heap.IsListIter.at x k
theorem Rk.obj(x:Rk kd it l i h):∃o,h.get? it=some o/\∀v,o.data≠.cell v:=by
 cases kd
 ·obtain⟨o,e,c,d⟩:=x;exact⟨o,e,λv z=>by rw[d] at z;cases z⟩
 ·obtain⟨o,e,c,d⟩:=x;exact⟨o,e,λv z=>by rw[d] at z;cases z⟩
theorem Ck.lt(x:Ck kd h l xs):l<h.objs.size:=by
 cases kd
 ·obtain⟨o,e,_⟩:=x;exact bQ e
 ·obtain⟨o,e,_⟩:=x;exact bQ e
section
variable {prog:Program}{w:World}{A:Around}{E:Value->Shared->Prop}{s:Shared}
theorem MN(c:Ck kd s.heap l xs)(q:Q (.ref s.heap.objs.size) {s with heap:=s.heap.push (gD kd l)}):wpAny (model prog w) A (pyIter (.ref l)) Q E s:=by
 cases kd
 ·exact wpAny_pyIter_tuple c q
 ·exact Ld c q
end
noncomputable def zH(h:Heap)(k1 k2:Bool)(l1 l2:Addr):Heap:=((((h.push (gD k1 l1)).push (gD k2 l2)).push {cls:=.type "tuple",data:=.seq #[.ref h.objs.size,.ref (h.push (gD k1 l1)).objs.size]}).push {cls:=.type "tuple",data:=.seq #[.none,.none]}).push
 {cls:=.type "zip",data:=.fields #[.none,.bool false,.bool false,.ref ((h.push (gD k1 l1)).push (gD k2 l2)).objs.size,.ref (((h.push (gD k1 l1)).push (gD k2 l2)).push {cls:=.type "tuple",data:=.seq #[.ref h.objs.size,.ref (h.push (gD k1 l1)).objs.size]}).objs.size]}
theorem zg0(k1 k2:Bool)(l1 l2:Addr)(xs ys:Array Value):Meets (Builtin.«zip.__new__» ⟨[.type "zip",.ref l1,.ref l2],[]⟩) (λ_ R s=>Ck k1 s.heap l1 xs/\Ck k2 s.heap l2 ys /\
   R (.ok (.ret (.ref ((((s.heap.push (gD k1 l1)).push (gD k2 l2)).push {cls:=.type "tuple",data:=.seq #[.ref s.heap.objs.size,.ref (s.heap.push (gD k1 l1)).objs.size]}).push {cls:=.type "tuple",data:=.seq #[.none,.none]}).objs.size))) {s with heap:=zH s.heap k1 k2 l1 l2}):=
 .of_wp λprog w A R s h=>by
  obtain⟨hp,g,d,tk,os⟩:=s;obtain⟨c1,c2,h⟩:=h;have hsub:=sub_zip;have C1:Ck k1 (Shared.heap ⟨hp,g,d,tk,os⟩) l1 xs:=c1;have C2:Ck k2 (Shared.heap ⟨hp.push (gD k1 l1),g,d,tk,os⟩) l2 ys:=c2.keep λo e=>cD _ e
  wp_walk using MN C1,MN C2
  exact⟨_,rfl,h⟩
section
variable {prog:Program}{w:World}{A:Around}{E:Value->Shared->Prop}{s:Shared}
theorem zjr(c1:Ck k1 s.heap l1 xs)(c2:Ck k2 s.heap l2 ys)
  (h:∀h',IsZip h' (s.heap.objs.size+4) (s.heap.objs.size+2) (s.heap.objs.size+3) .none->IsPair h' (s.heap.objs.size+2) (.ref s.heap.objs.size) (.ref (s.heap.objs.size+1))->IsPair h' (s.heap.objs.size+3) .none .none->
   Rk k1 s.heap.objs.size l1 0 h'->Rk k2 (s.heap.objs.size+1) l2 0 h'->(∀c o,s.heap.get? c=some o->h'.get? c=some o)->Q (.ref (s.heap.objs.size+4)) {s with heap:=h'}) :
  wpAny (model prog w) A (call (.type "zip") [.ref l1,.ref l2]) Q E s:=by
 refine callType_new F.called_zip Ro (F.typeCall_zip_2 _ _) (F.newCall_zip_2 _ _) (λobj=>F.args_object_init_3 obj _ _) F.entry_zip_new (zg0 k1 k2 l1 l2 xs ys) ⟨c1,c2,?_⟩;have n1:(s.heap.push (gD k1 l1)).objs.size=s.heap.objs.size+1:=vK ..;have n2:((s.heap.push (gD k1 l1)).push (gD k2 l2)).objs.size=s.heap.objs.size+2:=by rw[vK,n1]
 have fr:∀kd l,(gD kd l).isFreed=false:=λkd l=>by cases kd<;>rfl
 have rk:∀{h:Heap} {a:Addr} {kd:Bool} {l:Addr},h.get? a=some (gD kd l)->Rk kd a l 0 h:=λ{h a kd l} e=>by
  cases kd
  ·exact⟨_,e,rfl,rfl⟩
  ·exact⟨_,e,rfl,rfl⟩
 have o1:(s.heap.push (gD k1 l1)).get? s.heap.objs.size=some (gD k1 l1):=eF _ (fr _ _);have o2:((s.heap.push (gD k1 l1)).push (gD k2 l2)).get? (s.heap.objs.size+1)=some (gD k2 l2):=by
  have:=eF (s.heap.push (gD k1 l1)) (o:=gD k2 l2) (fr _ _);rw[n1] at this;exact this
 generalize hA:(s.heap.push (gD k1 l1)).push (gD k2 l2)=MP at *;have eH:zH s.heap k1 k2 l1 l2=((MP.push {cls:=.type "tuple",data:=.seq #[.ref s.heap.objs.size,.ref (s.heap.objs.size+1)]}).push {cls:=.type "tuple",data:=.seq #[.none,.none]}).push {cls:=.type "zip",data:=.fields #[.none,.bool false,.bool false,.ref (s.heap.objs.size+2),.ref (s.heap.objs.size+3)]}:=by
  unfold zH;rw[hA,n1,n2,vK,n2]
 have n3:(MP.push {cls:=.type "tuple",data:=.seq #[.ref s.heap.objs.size,.ref (s.heap.objs.size+1)]}).objs.size=s.heap.objs.size+3:=by rw[vK,n2]
 have n4:((MP.push {cls:=.type "tuple",data:=.seq #[.ref s.heap.objs.size,.ref (s.heap.objs.size+1)]}).push {cls:=.type "tuple",data:=.seq #[.none,.none]}).objs.size=s.heap.objs.size+4:=by rw[vK,n3]
 rw[n1,n4];have g5:(zH s.heap k1 k2 l1 l2).get? (s.heap.objs.size+4)=some {cls:=.type "zip",data:=.fields #[.none,.bool false,.bool false,.ref (s.heap.objs.size+2),.ref (s.heap.objs.size+3)]}:=by
  rw[eH,<-n4];exact eF _ rfl
 have g4:(zH s.heap k1 k2 l1 l2).get? (s.heap.objs.size+3)=some {cls:=.type "tuple",data:=.seq #[.none,.none]}:=by
  rw[eH,<-n3];exact cD _ (eF _ rfl)
 have g3:(zH s.heap k1 k2 l1 l2).get? (s.heap.objs.size+2)=some {cls:=.type "tuple",data:=.seq #[.ref s.heap.objs.size,.ref (s.heap.objs.size+1)]}:=by
  rw[eH,<-n2];exact cD _ (cD _ (eF _ rfl))
 have up:∀c o,MP.get? c=some o->(zH s.heap k1 k2 l1 l2).get? c=some o:=λc o e=>by rw[eH];exact cD _ (cD _ (cD _ e))
 refine⟨⟨_,g5,rfl⟩,h _ g5 g3 g4 (rk (up _ _ ?_)) (rk (up _ _ o2)) λc o e=>up _ _ ?_⟩
 ·rw[<-hA];exact cD _ o1
 ·rw[<-hA];exact cD _ (cD _ e)
end
noncomputable def Rr(K:W.Frag)(k1 k2:Bool)(l1 l2:Addr):It:=
 ⟨λi H=>∃xs ys x y,Sk k1 K H l1 xs/\Sk k2 K H l2 ys/\xs[i]?=some x/\ys[i]?=some y,
  λi H v H'=>∃a x y,H a=none/\v=.ref a/\H'=upd H a (.tup [x,y])/\(∀xs,Sk k1 K H l1 xs->xs[i]?=some x)/\∀ys,Sk k2 K H l2 ys->ys[i]?=some y,
  λi H=>∃xs ys,Sk k1 K H l1 xs/\Sk k2 K H l2 ys/\(xs.length<=i\/ys.length<=i)⟩
section
variable {X:Cx}{ao:List (Addr×Obj)}{Z:St}{H:Hp}{s:Shared}{kd:Bool}{l:Addr}{xs ys:List V}
theorem Inv.row(I:Inv X ao Z H s)(h:Sk kd X.K H l xs):∃its:List Value,Vals xs its/\Ck kd s.heap l its.toArray:=by
 cases kd
 ·obtain⟨its,rv,p,hz⟩:=I.tuple h;exact⟨its,rv,p⟩
 ·obtain⟨its,rv,p,hz⟩:=I.list h;exact⟨its,rv,p.isList⟩
theorem Inv.mW(I:Inv X ao Z H s)(h:Sk kd X.K H l xs)(h':Sk kd X.K H l ys):xs=ys:=by
 cases kd
 ·exact I.lQ h h'
 ·exact I.n_ h h'
end
theorem zgW{P:Program}{w:World}{K:W.Frag}{elts:List Expr}{kk:Nat}{pos:Pos}{k1 k2:Bool}{l1 l2 z TI TO i1 i2:Addr}(D:mV z TI TO i1 i2 l1 l2) :
  Turn P w K (.Tuple elts kk pos) (Rr K k1 k2 l1 l2) [z,TI,TO,i1,i2] z (λi h=>IsZip h z TI TO .none/\IsPair h TI (.ref i1) (.ref i2)/\(∃a b,IsPair h TO a b)/\Rk k1 i1 l1 i h/\Rk k2 i2 l2 i h) where
 mem:=by simp
 obj:=λi h ⟨a1,a2,⟨p,q,a3⟩,a4,a5⟩ b hb=>by
  have:b=z\/b=TI\/b=TO\/b=i1\/b=i2:=by simpa using hb
  rcases this with rfl|rfl|rfl|rfl|rfl
  ·exact⟨_,a1,λv y=>by cases y⟩
  ·exact⟨_,a2,λv y=>by cases y⟩
  ·exact⟨_,a3,λv y=>by cases y⟩
  ·exact a4.obj
  ·exact a5.obj
 keep:=λi h h' ⟨a1,a2,⟨p,q,a3⟩,a4,a5⟩ k=>⟨k z Zaa _ a1,k TI Zaa _ a2,⟨p,q,k TO Zaa _ a3⟩,a4.keep λo e=>k i1 Zaa o e,a5.keep λo e=>k i2 Zaa o e⟩
 item:=by
  intro X hP hw hK hc i ao s Z H E I hf ⟨a1,a2,⟨p,q,a3⟩,a4,a5⟩ hg;subst hP hw hK;obtain⟨xs,ys,x,y,Eu,Ew,hx,hy⟩:=hg;obtain⟨XJ,M4,c1⟩:=I.row Eu;obtain⟨BP,M5,c2⟩:=I.row Ew;obtain⟨u,hu,ru⟩:=M4.get hx;obtain⟨v,hv,rv⟩:=M5.get hy;have D':=D;obtain⟨⟨z1,z2,z3,z4,z5,z6⟩,⟨t1,t2,t3,t4,t5⟩,⟨j1,j2,j3,j4,j5,j6,j7⟩⟩:=D';refine zg9 (lV.of k1 j4.symm) (lV.of k2 j7.symm) D a1 a2 a3 ⟨a4,c1⟩ ⟨a5,c2⟩ (x:=u) (y:=v) (by simpa using hu) (by simpa using hv) λh1 b1 b2 b3 b4 b5 b6 kp=>?_;refine⟨_,rfl,wpAny_letOwnedTupleGo_zip (s:={s with heap:=h1}) b1 λh2 e2 sb=>?_⟩;have Rt:IsPair h2 s.heap.objs.size u v:=(sb.2 _ (pL (bQ a1))).trans b5;have kk:∀b o,b∉[z,TI,TO,i1,i2]->s.heap.get? b=some o->h2.get? b=some o:=λb o hb e=>(sb.2 b λy=>hb (by simp[y])).trans (kp b o (λy=>hb (by simp[y])) (λy=>hb (by simp[y])) (λy=>hb (by simp[y])) (λy=>hb (by simp[y])) e);have I2:=I.lU (t':=s.toks) (a:=s.heap.objs.size) (o:=.tup [x,y]) kk (λb hb=>hf b hb) (cj _) (show bI X.prog X.w _ h2 _ (.tup [x,y]) from ⟨by show 2<=sizeLine;decide,[u,v],.cons ru (.cons rv .nil),⟨_,Rt,rfl,_,rfl⟩⟩);have hn:H s.heap.objs.size=none:=I.hok.fresh (cj _);refine⟨.ref s.heap.objs.size,_,I2,rfl,⟨_,x,y,hn,rfl,rfl,λzs hz=>by rw[I.mW hz Eu];exact hx,λzs hz=>by rw[I.mW hz Ew];exact hy⟩,⟨e2,(sb.2 _ z1.symm).trans (kp _ _ z1.symm t1.symm j1 j2 a2),⟨_,_,(sb.2 _ z2.symm).trans b2⟩,b3.1.keep λo e=>(sb.2 _ z3.symm).trans e,b4.1.keep λo e=>(sb.2 _ z4.symm).trans e⟩,λb hb=>?_⟩;have nb:b≠s.heap.objs.size:=by
   have:b=z\/b=TI\/b=TO\/b=i1\/b=i2:=by simpa using hb
   rcases this with rfl|rfl|rfl|rfl|rfl
   ·exact cY (bQ a1)
   ·exact cY (bQ a2)
   ·exact cY (bQ a3)
   ·obtain⟨o,e,_⟩:=a4.obj;exact cY (bQ e)
   ·obtain⟨o,e,_⟩:=a5.obj;exact cY (bQ e)
  rw[bT nb];exact(hf b hb).1
 done:=by
  intro X hP hw hK hc i ao s Z H E I hf ⟨a1,a2,⟨p,q,a3⟩,a4,a5⟩ hg;subst hP hw hK;obtain⟨xs,ys,Eu,Ew,hx⟩:=hg;obtain⟨XJ,M4,c1⟩:=I.row Eu;obtain⟨BP,M5,c2⟩:=I.row Ew;have n1:=M4.length;have n2:=M5.length;refine ziQ (I.ok.hd hc) (lV.of k1 D.is.2.2.2.1.symm) (lV.of k2 D.is.2.2.2.2.2.2.symm) D a1 a2 a3 ⟨a4,c1⟩ ⟨a5,c2⟩ ?_ λh' kp=>⟨rfl,I.qT (t':=s.toks) (ch:=[z,TI,TO,i1,i2]) (λb o hb e=>kp b o (λy=>hb (by simp[y])) (λy=>hb (by simp[y])) (λy=>hb (by simp[y])) (λy=>hb (by simp[y])) e) λb hb=>hf b hb⟩;rcases hx with y|y
  ·exact .inl (by simp;lia)
  ·exact .inr (by simp;lia)
 self:=λ_ _ _ _ _ ⟨a1,_⟩ h=>wpAny_pyIter_zip a1 h
section
variable {X:Cx}
noncomputable def Ru(K:W.Frag)(ta:TA):TI:=λZ H R=>ta Z H λvs H1=>∃k1 k2 l1 l2 xs ys,vs=[.ref l1,.ref l2]/\Sk k1 K H1 l1 xs/\Sk k2 K H1 l2 ys/\R (Rr K k1 k2 l1 l2) H1
theorem zhH:bootBuiltins "zip"=some (.type "zip"):=by decide +kernel
theorem zll{a b:Expr}{ta:TA}{p pos tpos:Pos}{elts:List Expr}{kk:Nat}(hg:Gl X "zip")(hm:X.mg "zip"=none)(ha:PA X [a,b] ta)(hs:starEach [a,b] X.env=[(false,eval a X.env),(false,eval b X.env)]:=by rfl)(ux:starEach [b] X.env=[(false,eval b X.env)]:=by rfl) :
  PI X (.Tuple elts kk tpos) (.Call (.Name "zip" p) [a,b] [] pos) (Ru X.K ta):=by
 intro ao s Z H R I h;refine Call_ (vP I hg hm zhH (Ac (aQ (ha pos ao s Z H _ I h) λus s1 ⟨vs,H1,I1,r1,q1⟩=>?_) (by rw[hs,ux]) (by rw[ux];rfl)));obtain⟨k1,k2,l1,l2,xs,ys,e,Eu,Ew,q⟩:=q1;subst e;cases r1 with
 |cons r rr=>
  cases rr with
  |cons r' rr=>
   cases rr;cases r;cases r';obtain⟨XJ,M4,c1⟩:=I1.row Eu;obtain⟨BP,M5,c2⟩:=I1.row Ew;have m1:=c1.lt;have m2:=c2.lt;refine zjr c1 c2 λh' b1 b2 b3 b4 b5 kp=>?_;refine wpAny_pyIter_zip b1 ?_;have ne:∀{u v:Nat},u<v->u≠v:=λh=>cY h;have D:mV (s1.heap.objs.size+4) (s1.heap.objs.size+2) (s1.heap.objs.size+3) s1.heap.objs.size (s1.heap.objs.size+1) l1 l2:=
    ⟨⟨(ne gV).symm,(ne gV).symm,(ne gV).symm,(ne gV).symm,(ne (fZ m1 gV)).symm,(ne (fZ m2 gV)).symm⟩,
     ⟨(ne gV).symm,(ne gV).symm,(ne gV).symm,(ne (fZ m1 gV)).symm,(ne (fZ m2 gV)).symm⟩,
     ⟨(ne gV).symm,(ne gV).symm,ne gV,(ne m1).symm,(ne m2).symm,(ne (fZ m1 gV)).symm,(ne (fZ m2 gV)).symm⟩⟩
   refine⟨s1.heap.objs.size+4,[s1.heap.objs.size+4,s1.heap.objs.size+2,s1.heap.objs.size+3,s1.heap.objs.size,s1.heap.objs.size+1],_,_,H1,rfl,I1.kept (t':=s1.toks) kp,zgW D,⟨b1,b2,⟨_,_,b3⟩,b4,b5⟩,λb hb=>?_,q⟩;have:s1.heap.objs.size<=b:=by
    have:b=s1.heap.objs.size+4\/b=s1.heap.objs.size+2\/b=s1.heap.objs.size+3\/b=s1.heap.objs.size\/b=s1.heap.objs.size+1:=by simpa using hb
    rcases this with rfl|rfl|rfl|rfl|rfl<;>lia
   exact I1.uw this (I1.hok.fresh this)
end
noncomputable def Ite(K:W.Frag)(kd:Bool)(l:Addr):It:=
 ⟨λi H=>∃xs x,Sk kd K H l xs/\xs[i]?=some x,λi H v H'=>∃a x,H a=none/\v=.ref a/\H'=upd H a (.tup [.int i,x])/\∀xs,Sk kd K H l xs->xs[i]?=some x,λi H=>∃xs,Sk kd K H l xs/\xs.length<=i⟩
theorem BR{prog:Program}{w:World}{A:Around}(hh:A.handled=none)(kd:Bool){it l:Addr}(tO:l≠it)(its:Array Value):Draws prog w A it [it,l] its.size (λi v=>its[i]?=some v) (λi h=>Rk kd it l i h/\Ck kd h l its) where
 live:=λ_ _ st=>let ⟨o,e,_⟩:=st.1.obj;⟨o,e⟩
 frame:=λ_ _ _ st k=>⟨st.1.keep λo e=>k it Zaa o e,st.2.keep λo e=>k l Zaa o e⟩
 item:=λi s Q E hi st q=>(lV.of kd tO).item A E s i its[i] Q st (by simp[hi]) λh' a b=>q _ h' s.toks (by simp[hi]) a b
 done:=λs Q E st q=>(lV.of kd tO).fin A E s its.size Q hh st Zaa q
theorem zhk(kd:Bool)(l:Addr)(xs:Array Value):Meets (Builtin.«enumerate.__new__» ⟨[.type "enumerate",.ref l],[]⟩) (λ_ R s=>Ck kd s.heap l xs /\
   R (.ok (.ret (.ref (s.heap.push (gD kd l)).objs.size))) {s with heap:=(s.heap.push (gD kd l)).push {cls:=.type "enumerate",data:=.fields #[.none,.bool false,.ref s.heap.objs.size,rawInt 0,.none,.none]}}):=
 .of_wp λprog w A R s h=>by
  obtain⟨hp,g,d,tk,os⟩:=s;obtain⟨c1,h⟩:=h;have hsub:=sub_enumerate;have C1:Ck kd (Shared.heap ⟨hp,g,d,tk,os⟩) l xs:=c1;obtain⟨ol,el⟩ : ∃o,hp.get? l=some o:=by
   cases kd
   ·obtain⟨o,e,_⟩:=c1;exact⟨o,e⟩
   ·obtain⟨o,e,_⟩:=c1;exact⟨o,e⟩
  wp_walk using K6 el
  refine wpAny_stack_any λst=>aP ?_
  split
  ·rename_i c _ _ _ _ _;cases (c==Value.type "enumerate")<;>(wp_walk using K6 el,MN C1;exact⟨_,rfl,h⟩)
  ·wp_walk using K6 el,MN C1
   exact⟨_,rfl,h⟩
theorem zhw{prog:Program}{w:World}{A:Around}{E:Value->Shared->Prop}{s:Shared}{e it l:Addr}{its:Array Value}{st:Nat->Heap->Prop}{i:Nat}{old:Value}{Q:Option Value->Shared->Prop}(hh:A.handled=none)(N:lV prog w it l st its)(he:IsEnum s.heap e it i old)(Bg:st i s.heap)(hx:its[i]?=none)
  (q:∀h',Heap.ExtBut it s.heap h'->Q none {s with heap:=h'}):wpAny (model prog w) A (pyNext (.ref e)) Q E s:=by
 have ty:s.TypeIs (.ref e) "enumerate":=⟨_,he,rfl⟩;have body:∀{E':Value->Shared->Prop},(∀h' x,Heap.ExtBut it s.heap h'->(∃o,h'.get? x=some o/\o.cls=.type "StopIteration")->E' (.ref x) {s with heap:=h'})->wpAny (model prog w) A.in1 (Builtin.«enumerate.__next__» ⟨[.ref e],[]⟩) (λ_ _=>False) E' s:=λk=>by
  show wpAny _ A.in1 (field (.ref e) 2 >>= _) _ _ _;exact aA (mH he rfl (x:=.ref it) rfl (aA (N.fin A.in1 _ s i _ hh Bg hx k)))
 unfold pyNext;refine aA (DW (Ae (name:=Str.ofString "__next__") ty F.slot_enumerate_next (yQ F.slot_enumerate_next ty F.entry_enumerate_next (f9 (body λh' x a b=>?_) (λ_ _ z=>z.elim) λ_ _ z=>z) (F.args_enumerate_next_1 _))));obtain⟨o,a1,a2⟩:=b;exact aA (Li (T:="StopIteration") (b:=true) ⟨o,a1,a2⟩ isSubtype_stop (aP (q h' a)))
theorem zfC{P:Program}{w:World}{K:W.Frag}{elts:List Expr}{kk:Nat}{pos:Pos}{kd:Bool}{l e it:Addr}(Rw:e≠it)(XM:l≠it)(hle:l≠e) :
  Turn P w K (.Tuple elts kk pos) (Ite K kd l) [e,it] e (λi h=>(∃old,IsEnum h e it i old)/\Rk kd it l i h) where
 mem:=by simp
 obj:=λi h ⟨⟨old,he⟩,st⟩ b hb=>by
  have:b=e\/b=it:=by simpa using hb
  rcases this with rfl|rfl
  ·exact⟨_,he,λv z=>by cases z⟩
  ·exact st.obj
 keep:=λi h h' ⟨⟨old,he⟩,st⟩ k=>⟨⟨old,k e Zaa _ he⟩,st.keep λo e=>k it Zaa o e⟩
 item:=by
  intro X hP hw hK hc i ao s Z H E I hf ⟨⟨old,he⟩,st⟩ hg;subst hP hw hK;obtain⟨xs,x,hq,hx⟩:=hg;obtain⟨its,rv,p⟩:=I.row hq;obtain⟨u,hu,ru⟩:=rv.get hx;have cJ:i<its.toArray.size:=by simpa using (fX.mp hu).1
  refine wpAny_pyNext_enum_itemD (BR (A:=X.A.in1) (I.ok.hd hc) kd XM its.toArray) he ⟨st,p⟩ cJ Rw (by simp[Rw,hle.symm]) λu' h1 tk hP ho Rx hT hsz hk=>?_;have eu:u'=u:=by
   have:its[i]?=some u':=by simpa using hP
   rw[hu] at this;cases this;rfl
  subst eu;refine⟨_,rfl,wpAny_letOwnedTupleGo_enum (s:={s with heap:=h1,toks:=tk+1}) ho λh2 he2 sb=>?_⟩;have Rt:h2.get? s.heap.objs.size=some {cls:=.type "tuple",data:=.seq #[.int i tk,u']}:=(sb.2 _ (pL (bQ he))).trans hT;have kk:∀b o,b∉[e,it]->s.heap.get? b=some o->h2.get? b=some o:=λb o hb q=>(sb.2 b λz=>hb (by simp[z])).trans (hk b o (λz=>hb (by simp[z])) (λz=>hb (by simp[z])) q);have I2:=I.lU (t':=tk+1) (a:=s.heap.objs.size) (o:=.tup [.int i,x]) kk (λb hb=>hf b hb) (cj _) (show bI X.prog X.w _ h2 _ (.tup [.int i,x]) from ⟨by show 2<=sizeLine;decide,[.int i tk,u'],.cons ⟨_,rfl⟩ (.cons ru .nil),⟨_,Rt,rfl,_,rfl⟩⟩);have hn:H s.heap.objs.size=none:=I.hok.fresh (cj _);refine⟨.ref s.heap.objs.size,_,I2,rfl,⟨_,x,hn,rfl,rfl,λys hy=>by rw[I.mW hy hq];exact hx⟩,⟨⟨_,by simpa using he2⟩,Rx.1.keep λo q=>(sb.2 it Rw.symm).trans q⟩,λb hb=>?_⟩;have nb:b≠s.heap.objs.size:=by
   have:b=e\/b=it:=by simpa using hb
   rcases this with rfl|rfl
   ·exact cY (bQ he)
   ·obtain⟨o,q,_⟩:=st.obj;exact cY (bQ q)
  rw[bT nb];exact(hf b hb).1
 done:=by
  intro X hP hw hK hc i ao s Z H E I hf ⟨⟨old,he⟩,st⟩ hg;subst hP hw hK;obtain⟨xs,hq,hx⟩:=hg;obtain⟨its,rv,p⟩:=I.row hq;have hl:=rv.length;exact zhw (I.ok.hd hc) (lV.of kd XM) he ⟨st,p⟩ (by simp;lia) λh' eb=>⟨rfl,I.qT (t':=s.toks) (ch:=[e,it]) (λb o hb q=>eb b o (λz=>hb (by simp[z])) q) λb hb=>hf b hb⟩
 self:=λ_ _ _ _ _ ⟨⟨old,he⟩,_⟩ h=>wpAny_pyIter_enum he h
section
variable {X:Cx}
noncomputable def Iu(K:W.Frag)(ta:TA):TI:=λZ H R=>ta Z H λvs H1=>∃kd l xs,vs=[.ref l]/\Sk kd K H1 l xs/\R (Ite K kd l) H1
theorem zgi:bootBuiltins "enumerate"=some (.type "enumerate"):=by decide +kernel
theorem zja{a:Expr}{ta:TA}{p pos tpos:Pos}{elts:List Expr}{kk:Nat}(hg:Gl X "enumerate")(hm:X.mg "enumerate"=none)(ha:PA X [a] ta)(hs:starEach [a] X.env=[(false,eval a X.env)]:=by rfl):PI X (.Tuple elts kk tpos) (.Call (.Name "enumerate" p) [a] [] pos) (Iu X.K ta):=by
 intro ao s Z H R I h;refine Call_ (vP I hg hm zgi (Ac (aQ (ha pos ao s Z H _ I h) λus s1 ⟨vs,H1,I1,r1,q1⟩=>?_) hs rfl));obtain⟨kd,l,xs,e,hq,q⟩:=q1;subst e;cases r1 with
 |cons r rr=>
  cases rr;cases r;obtain⟨its,rv,p⟩:=I1.row hq;have hl:l<s1.heap.objs.size:=p.lt;refine callType_new F.called_enumerate Ro (F.typeCall_enumerate_1 _) (F.newCall_enumerate_1 _) (λobj=>F.args_object_init_2 obj _) F.entry_enumerate_new (zhk kd l its.toArray) ⟨p,?_⟩;have n1:(s1.heap.push (gD kd l)).objs.size=s1.heap.objs.size+1:=vK ..;have he:IsEnum ((s1.heap.push (gD kd l)).push {cls:=.type "enumerate",data:=.fields #[.none,.bool false,.ref s1.heap.objs.size,rawInt 0,.none,.none]}) (s1.heap.objs.size+1) s1.heap.objs.size 0 .none:=by
   have:=eF (s1.heap.push (gD kd l)) (o:={cls:=.type "enumerate",data:=.fields #[.none,.bool false,.ref s1.heap.objs.size,rawInt 0,.none,.none]}) rfl;rw[n1] at this;exact this
  show _/\_;rw[n1];refine⟨⟨_,he,rfl⟩,wpAny_pyIter_enum (s:={s1 with heap:=(s1.heap.push (gD kd l)).push {cls:=.type "enumerate",data:=.fields #[.none,.bool false,.ref s1.heap.objs.size,rawInt 0,.none,.none]}}) he ?_⟩;have rk:Rk kd s1.heap.objs.size l 0 ((s1.heap.push (gD kd l)).push {cls:=.type "enumerate",data:=.fields #[.none,.bool false,.ref s1.heap.objs.size,rawInt 0,.none,.none]}):=by
   cases kd
   ·exact⟨_,cD _ (eF _ rfl),rfl,rfl⟩
   ·exact⟨_,cD _ (eF _ rfl),rfl,rfl⟩
  refine⟨s1.heap.objs.size+1,[s1.heap.objs.size+1,s1.heap.objs.size],_,_,H1,rfl,I1.kept (t':=s1.toks) λb o x=>cD _ (cD _ x),zfC (kd:=kd) (l:=l) (Nat.succ_ne_self _) (cY hl) (cY (tL hl)),⟨⟨_,he⟩,rk⟩,λb hb=>?_,q⟩;have:s1.heap.objs.size<=b:=by
   have:b=s1.heap.objs.size+1\/b=s1.heap.objs.size:=by simpa using hb
   rcases this with rfl|rfl
   ·exact wC _
   ·exact cj _
  exact I1.uw this (I1.hok.fresh this)
end
end L2
set_option genSizeOf false
set_option genInjectivity false
namespace Mi
open PySem
inductive D where
 |non|bl (b:Bool)|int (i:Int)|str (s:Str)|tup (xs:List D)|fl (xs:List D)|fd (ks vs:List D)|exc (c:Nat) (fs:List D)|ob (c:Nat) (fs:List D)|any
inductive Xv where
 |d (x:D)|l (n:Nat)
inductive Kx where
 |non|int (i:Int)|row (is:List Int)
deriving DecidableEq
inductive SO where
 |lst (xs:List D)
 |dct (kvs:List (List Kx×D))
noncomputable abbrev S:=List SO
inductive Rs (α:Type) where
 |ok (a:α)|er (c:Nat) (fs:List D)
noncomputable abbrev M(α:Type):=S->Option (Rs α×S)
noncomputable def M.ret{α:Type}(a:α):M α:=λs=>some (.ok a,s)
noncomputable def M.bd{α β:Type}(m:M α)(k:α->M β):M β:=λs=>match m s with
 |some (.ok a,s')=>k a s'
 |some (.er c f,s')=>some (.er c f,s')
 |none=>none
noncomputable def M.qt{α:Type}(m:M α):M α:=λs=>match m s with
 |some (.ok a,s')=>some (.ok a,s')
 |_=>none
noncomputable def M.no{α:Type}:M α:=λ_=>none
noncomputable def M.opt{α:Type}:Option α->M α
 |some a=>M.ret a
 |none=>M.no
inductive Rz where
 |dat (d:D)|nw (xs:List D)
inductive Pr where
 |add|aq|mul|fdiv|mod|pow|neg
 |eq|ne|lt|le|gt|ge|inn|nin
 |xH|rZ
 |len|abs|max2|min2|Iv|Iw|su|Ey|xJ|divmod|all|sum|list|tuple|sorted|qU|BW|str1
 |ix|rev|XQ|Iz|mult|zx
 |count|index|repr
inductive Kd where
 |int|bool|str|tuple|list|dict|cls (c:Nat)|sy
mutual
inductive E where
 |c (d:D)
 |v (i:Nat)
 |pr (fz:Bool) (p:Pr) (xs:Es)
 |xK (p q:Pr) (a b c:E)
 |XR (p q r:Pr) (a b c d:E)
 |and (a b:E)
 |or (a b:E)
 |not (a:E)
 |ite (c a b:E)
 |tup (xs:Es)
 |lst (fz:Bool) (xs:Es)
 |BX (k:Str) (i:Int)
 |call (f:Nat) (xs:Es)
 |mX (a:E) (k:Kd)
 |sl (fz:Bool) (a:E) (lo hi:Eo)
 |meth (fz:Bool) (p:Pr) (k:Kd) (o:E) (xs:Es)
 |push (o a:E)
 |pop (o:E)
 |comp (fz:Bool) (elt:E) (tg:List Nat) (it:Wk) (fr:List Nat) (many:Nat) (cond:Eo)
 |iH (fz:Bool) (elt:E) (tg:List Nat) (it:Wk) (Ry:List Nat) (BP:Wk) (fr:List Nat) (many:Nat) (cond:Eo)
 |fld (o:E) (cs:List Nat) (i:Nat)
 |of (o:E) (c i:Nat)
 |mk (c f:Nat) (xs:Es)
 |cm (c f:Nat) (o:E) (xs:Es)
 |oH
 |sE (b:Bool) (k d:E)
 |jE (d k:E)
 |BZ (a:E)
 |oJ (fz:Bool) (a:E) (b:E)
 |X3 (a b:E)
 |ins (o i a:E)
 |no
inductive Wk where
 |seq (e:E)
 |rg (a b:E)
 |zip (a b:E)
 |enum (a:E)
 |X4 (a:E)
inductive Es where
 |nil
 |cons (a:E) (r:Es)
inductive Eo where
 |no
 |yes (a:E)
end
noncomputable abbrev Ea(a:E):Es:=.cons a .nil
noncomputable abbrev Eb(a b:E):Es:=.cons a (.cons b .nil)
noncomputable abbrev Ec(a b c:E):Es:=.cons a (.cons b (.cons c .nil))
noncomputable abbrev Ei(a b:E):E:=.pr true .ix (.cons a (.cons b .nil))
noncomputable abbrev Ci(i:Int):E:=.c (.int i)
noncomputable def Es.len:Es->Nat
 |.nil=>0
 |.cons _ r=>r.len+1
inductive Tg where
 |nm (i:Nat)
 |tp (is:List Nat)
 |aq (o i:E)
mutual
inductive St where
 |pass
 |ex (e:E)
 |asg (t:Tg) (e:E)
 |par (i j:Nat) (a b:E)
 |aug (i:Nat) (e:E)
 |ret (e:E)
 |rise (c:Nat) (kp:Bool) (xs:Es)
 |iff (c:E) (t e:cB)
 |wh (c:E) (b:cB)
 |fr (t:Tg) (w:Wk) (b:cB)
 |IK (b:cB) (d:Nat) (i:Nat) (h:cB)
 |dput (d k v:E)
 |no
inductive cB where
 |nil
 |cons (a:St) (r:cB)
end
noncomputable def dR(eq:D->D->Option Bool):List D->List D->Option Bool
 |[],[]=>some true
 |[],_::_=>some false
 |_::_,[]=>some false
 |x::xs,y::ys=>match eq x y,dR eq xs ys with
  |some a,some b=>some (a&&b)
  |_,_=>none
noncomputable def kq:D->Option Nat
 |.non=>some 0
 |.bl _=>some 1
 |.int _=>some 1
 |.str _=>some 2
 |.tup _=>some 3
 |.fl _=>some 4
 |_=>none
noncomputable def c7:Nat->D->D->Option Bool
 |n+1,.tup xs,.tup ys=>dR (c7 n) xs ys
 |n+1,.fl xs,.fl ys=>dR (c7 n) xs ys
 |_,.non,.non=>some true
 |_,.bl a,.bl b=>some (a==b)
 |_,.int a,.int b=>some (a==b)
 |_,.str a,.str b=>some (a==b)
 |_,.bl a,.int b=>some ((if a then 1 else 0)==b)
 |_,.int a,.bl b=>some (a==(if b then 1 else 0))
 |_,a,b=>match kq a,kq b with
  |some i,some j=>if i=j then none else some false
  |_,_=>none
noncomputable def cH:List D->Option (List Int)
 |[]=>some []
 |.int i::r=>(cH r).map (i::·)
 |_=>none
noncomputable def ltI:List Int->List Int->Bool
 |_,[]=>false
 |[],_::_=>true
 |x::xs,y::ys=>if x=y then ltI xs ys else decide (x<y)
noncomputable def fC:List D->Option (List Bool)
 |[]=>some []
 |.bl b::r=>(fC r).map (b::·)
 |_=>none
noncomputable def cut{α:Type}(xs:List α)(lo hi:Option Int):List α:=(xs.drop (HT.bY xs.length 0 lo)).take (HT.bY xs.length xs.length hi-HT.bY xs.length 0 lo)
noncomputable def mY:D->Option (List D)
 |.tup xs=>some xs
 |.fl xs=>some xs
 |_=>none
noncomputable def cutD(x:D)(lo hi:Option Int):Option Rz:=match x with
 |.tup xs=>some (.dat (.tup (cut xs lo hi)))
 |.fl xs=>some (.nw (cut xs lo hi))
 |_=>none
noncomputable def memD(d:D):List D->Option Bool
 |[]=>some false
 |x::r=>match c7 50 x d,memD d r with
  |some a,some b=>some (a||b)
  |_,_=>none
noncomputable def sG(d:D):List D->Nat
 |[]=>0
 |x::r=>sG d r+(if c7 50 x d=some true then 1 else 0)
noncomputable def p8:Kd->D->Bool
 |.list,.fl _=>true
 |.str,.str _=>true
 |.dict,.fd _ _=>true
 |_,_=>false
noncomputable def dw(f:Int->Int->Option D):List D->Option Rz
 |[.int i,.int j]=>(f i j).map .dat
 |_=>none
noncomputable def qW(f:Int->D):List D->Option Rz
 |[.int i]=>some (.dat (f i))
 |_=>none
noncomputable def sH(f:List D->Option Rz):List D->Option Rz
 |[a]=>(mY a).bind f
 |_=>none
noncomputable def B_:List D->Option Rz
 |[.int i,.int j]=>some (.dat (.int (i+j)))
 |[.tup xs,.tup ys]=>if xs.length+ys.length<=sizeLine then some (.dat (.tup (xs++ys))) else none
 |[.fl xs,.fl ys]=>if xs.length+ys.length<=sizeLine then some (.nw (xs++ys)) else none
 |[.str x,.str y]=>if x.length+y.length<=sizeLine then some (.dat (.str (x++y))) else none
 |_=>none
noncomputable def IV:List D->Option Rz
 |[.int i,.int j]=>some (.dat (.bl (decide (i<j))))
 |[.tup xs,.tup ys]=>match cH xs,cH ys with
  |some a,some b=>some (.dat (.bl (ltI a b)))
  |_,_=>none
 |_=>none
noncomputable def Ca(f:Bool->Bool):List D->Option Rz
 |[a,b]=>(c7 50 a b).map λk=>.dat (.bl (f k))
 |_=>none
noncomputable def Ez(f:Bool->Bool):List D->Option Rz
 |[a,b]=>((mY b).bind (memD a)).map λk=>.dat (.bl (f k))
 |_=>none
noncomputable def D.uM:D->Bool
 |.non=>true
 |_=>false
noncomputable def Cd(f:Bool->Bool):List D->Option Rz
 |[a]=>some (.dat (.bl (f a.uM)))
 |_=>none
noncomputable def IW:List D->Option Rz
 |[.int i]=>some (.dat (.int i))
 |[.bl k]=>some (.dat (.int (if k then 1 else 0)))
 |_=>none
noncomputable def Ce:List D->Option Rz
 |[.fl xs]=>(fC xs).map λbs=>.dat (.bl (bs.all id))
 |_=>none
noncomputable def mZ:List D->Option (List Int)
 |[]=>some []
 |.int i::r=>(mZ r).map (i::·)
 |_=>none
noncomputable def best(bt:Int->Int->Bool)(i:Int)(is:List Int):Int:=is.foldl (λm j=>if bt j m then j else m) i
noncomputable def I8(bt:Int->Int->Bool):Option (List Int)->Option Rz
 |some (i::is)=>some (.dat (.int (best bt i is)))
 |_=>none
noncomputable def zy(bt:Int->Int->Bool):List D->Option Rz
 |[a]=>(mY a).bind λxs=>I8 bt (mZ xs)
 |_=>none
noncomputable def okR(i j:Int):Bool:=decide (-(2^62)<=i/\i<2^62/\-(2^62)<=j/\j<2^62/\(j-i).toNat<=65536)
noncomputable def I9(i:Int)(n:Nat):List D:=(List.range n).map λk=>.int (i+(k:Nat))
noncomputable def RB:List D->Option Rz
 |[.int j]=>if okR 0 j then some (.nw (I9 0 (j-0).toNat)) else none
 |[.int i,.int j]=>if okR i j then some (.nw (I9 i (j-i).toNat)) else none
 |_=>none
noncomputable def Cg:List D->Option Rz
 |[.int j]=>if okR 0 j then some (.dat (.tup (I9 0 (j-0).toNat))) else none
 |_=>none
noncomputable def qb:List D->Option Rz
 |[a]=>(mY a).map λxs=>.dat (.tup xs)
 |_=>none
noncomputable def RD:List D->Option Rz
 |[a,.int i]=>((mY a).bind λxs=>L2.qQ xs i).map .dat
 |_=>none
noncomputable def sI:List D->List D->Option Bool
 |[],ys=>some (decide (0<ys.length))
 |_::_,[]=>some false
 |.int x::xs,.int y::ys=>if x=y then sI xs ys else some (decide (x<y))
 |_::_,_::_=>none
noncomputable def zA(xs:List D)(i j:Nat):Option Bool:=match xs[i]?,xs[j]? with
 |some (.int x),some (.int y)=>some (decide (x<y))
 |some (.tup us),some (.tup ws)=>sI us ws
 |_,_=>none
noncomputable def gq(b:List Int):List (List Int)->List Int
 |[]=>b
 |x::r=>gq (if ltI x b=true then x else b) r
noncomputable def jZ:List D->Option (List (List Int))
 |[]=>some []
 |.tup xs::r=>match cH xs,jZ r with
  |some a,some b=>some (a::b)
  |_,_=>none
 |_=>none
noncomputable def oM:List D->Option Rz
 |[.fl xs]=>match jZ xs with
  |some (x::r)=>some (.dat (.tup ((gq x r).map .int)))
  |_=>none
 |_=>none
noncomputable def j8:D->Bool
 |.int _=>true
 |_=>false
noncomputable def jd:D->Bool
 |.tup (.int _::_)=>true
 |_=>false
noncomputable def jo(lt:Nat->Nat->Option Bool)(xs:List D):Option (List D):=if xs.length<2 then some xs else if xs.length<64 then (match L2.bF lt (PySem.W.kas_sort xs.length) with
  |some p=>if p.size=xs.length then some (p.toList.map λi=>xs.getD i .non) else none
  |none=>none) else none
noncomputable def zB(xs:List D):Option (List D):=if xs.all j8||xs.all jd then jo (zA xs) xs else none
noncomputable def m5:List D->Option Rz
 |[.fl xs]=>(zB xs).map .nw
 |_=>none
noncomputable def zE(ks:List Int)(i j:Nat):Option Bool:=match ks[i]?,ks[j]? with
 |some x,some y=>some (decide (x<y))
 |_,_=>none
noncomputable def RG:List D->Option Rz
 |[.tup xs]=>some (.dat (.tup xs.reverse))
 |_=>none
noncomputable def qd:List D->Option Rz
 |[.fl xs,d]=>(memD d xs).map λ_=>.dat (.int (sG d xs:Nat))
 |_=>none
noncomputable def Cj:List D->Option Rz
 |[.fl xs,.bl b]=>((fC xs).bind λbs=>bs.idxOf? b).map λ(i:Nat)=>.dat (.int i)
 |_=>none
noncomputable def RJ:List D->Option Rz
 |[.int i]=>if i.natAbs<2^62 then some (.dat (.str (Str.ofString (toString i)))) else none
 |_=>none
noncomputable def RK(f:D->Option PyData):List D->Option (List PyData)
 |[]=>some []
 |x::r=>match f x,RK f r with
  |some a,some b=>some (a::b)
  |_,_=>none
noncomputable def pd:Nat->D->Option PyData
 |n+1,.tup xs=>(RK (pd n) xs).map .tuple
 |n+1,.fl xs=>(RK (pd n) xs).map .list
 |_,.non=>some .none
 |_,.bl b=>some (.bool b)
 |_,.int i=>some (.int i)
 |_,.str x=>some (.str x)
 |_,_=>none
noncomputable def pdT:D->Option PyData
 |.fd [.str k] [.int i]=>some (.dict [(.str k,.int i)])
 |x=>pd 40 x
noncomputable def shw(d:PyData):Option Rz:=if d.showable=true/\d.shown.length<=sizeLine then some (.dat (.str d.shown)) else none
noncomputable def I_:List D->Option Rz
 |[x]=>(pdT x).bind shw
 |_=>none
noncomputable def zF:List (Int×Int):=[(0,1),(0,2),(0,3),(0,4),(0,5),(0,6),(0,7),(1,2),(1,3),(1,4),(1,5),(1,6),(1,7),(2,3),(2,4),(2,5),(2,6),(2,7),(3,4),(3,5),(3,6),(3,7),(4,5),(4,6),(4,7),(5,6),(5,7),(6,7)]
noncomputable def ss(ts:List (Int×Int)):List (Int×Int):=zF.filter λt=>ts.contains t
noncomputable def RL:D->Option (Int×Int)
 |.tup [.int a,.int b]=>if 0<=a/\a<b/\b<8 then some (a,b) else none
 |_=>none
noncomputable def zG:List D->Option (List (Int×Int))
 |[]=>some []
 |x::r=>match RL x,zG r with
  |some a,some b=>some (a::b)
  |_,_=>none
noncomputable def pSs:List D->Option Rz
 |[.tup xs]=>(zG xs).map λts=>.nw ((ss ts).map λp=>.tup [.int p.1,.int p.2])
 |_=>none
noncomputable def Ja(is:List Int):Bool:=decide (is.length<=1000)&&is.all λi=>decide (-1000000<=i/\i<=1000000)
noncomputable def RM(is:List Int):Option Rz:=match Ja is with
 |true=>some (.dat (.int is.sum))
 |false=>none
noncomputable def RN:List D->Option Rz
 |[a]=>(mY a).bind λxs=>(mZ xs).bind RM
 |_=>none
noncomputable def m6:List Int->List Int
 |[]=>[]
 |x::r=>if r.contains x then m6 r else x::m6 r
noncomputable def Jc:List D->Option Rz
 |[.tup xs]=>(mZ xs).map λis=>.dat (.int (m6 is).length)
 |_=>none
noncomputable def rep{α:Type}(xs:List α)(n:Nat):List α:=(List.replicate n xs).flatten
noncomputable def Jd:List D->Option Rz
 |[.fl xs,.int n]=>if 0<=n/\n<=1000/\xs.length<=1000 then some (.nw (rep xs n.toNat)) else none
 |_=>none
noncomputable def Cm:List D->Option Rz
 |[.tup xs]=>if xs.all j8=true then (zB xs).map .nw else none
 |_=>none
noncomputable def Je:List D->Option Rz
 |[.tup xs,.int n]=>if 1<=n/\n<=1000/\1<=xs.length/\xs.length<=1000 then some (.dat (.tup (rep xs n.toNat))) else none
 |_=>none
noncomputable def xM:D->Option Bool
 |.non=>some false
 |.bl b=>some b
 |.int i=>some (i != 0)
 |.tup xs=>some (!xs.isEmpty)
 |.fl xs=>some (!xs.isEmpty)
 |_=>none
noncomputable def prim:Pr->List D->Option Rz
 |.add=>B_
 |.aq=>dw λi j=>some (.int (i-j))
 |.mul=>dw λi j=>if (-(2^64)<i/\i<2^64)\/(-(2^64)<j/\j<2^64) then some (.int (i*j)) else none
 |.fdiv=>dw λi j=>if 0<j/\j<1073741824 then some (.int (i/j)) else none
 |.mod=>dw λi j=>if 0<j then some (.int (i%j)) else none
 |.pow=>dw λi j=>if 0<=j/\j<=1000000/\i.natAbs<2^64 then some (.int (i^j.toNat)) else none
 |.neg=>qW λi=>.int (-i)
 |.eq=>Ca id
 |.ne=>Ca not
 |.lt=>IV
 |.le=>dw λi j=>some (.bl (decide (i<=j)))
 |.gt=>dw λi j=>some (.bl (decide (j<i)))
 |.ge=>dw λi j=>some (.bl (decide (j<=i)))
 |.inn=>Ez id
 |.nin=>Ez not
 |.xH=>Cd id
 |.rZ=>Cd not
 |.len=>sH λxs=>some (.dat (.int xs.length))
 |.abs=>qW λi=>.int (if i<0 then -i else i)
 |.max2=>dw λi j=>some (.int (if j>i then j else i))
 |.min2=>dw λi j=>some (.int (if j<i then j else i))
 |.xJ=>IW
 |.divmod=>dw λi j=>if 0<j/\j<1073741824 then some (.tup [.int (i/j),.int (i%j)]) else none
 |.all=>Ce
 |.XQ=>RB
 |.Iv=>zy λa b=>decide (a>b)
 |.Iw=>zy λa b=>decide (a<b)
 |.su=>oM
 |.Ey=>Cg
 |.list=>sH λxs=>some (.nw xs)
 |.tuple=>qb
 |.ix=>RD
 |.rev=>RG
 |.sorted=>m5
 |.qU=>pSs
 |.Iz=>Jd
 |.mult=>Je
 |.zx=>Cm
 |.sum=>RN
 |.BW=>Jc
 |.count=>qd
 |.index=>Cj
 |.repr=>I_
 |.str1=>RJ
noncomputable def lW(aq:Nat->Nat->Bool):D->Kd->Option Bool
 |.exc c _,.cls e=>some (aq c e)
 |.exc _ _,.sy=>some true
 |.exc _ _,_=>none
 |.ob _ _,_=>none
 |.any,_=>none
 |_,.cls _=>none
 |_,.sy=>none
 |.bl _,.bool=>some true
 |.bl _,.int=>some true
 |.bl _,_=>some false
 |.int _,.int=>some true
 |.int _,_=>some false
 |.non,_=>some false
 |.str _,.str=>some true
 |.str _,_=>some false
 |.tup _,.tuple=>some true
 |.tup _,_=>some false
 |.fl _,.list=>some true
 |.fl _,_=>some false
 |.fd _ _,.dict=>some true
 |.fd _ _,_=>some false
noncomputable def rd(x:Xv):M D:=λs=>match x with
 |.d v=>some (.ok v,s)
 |.l n=>match s[n]? with
  |some (.lst xs)=>some (.ok (.fl xs),s)
  |_=>none
noncomputable def g8:List Xv->M (List D)
 |[]=>M.ret []
 |x::r=>M.bd (rd x) λd=>M.bd (g8 r) λds=>M.ret (d::ds)
noncomputable def dat(x:Xv):M D:=match x with
 |.d v=>M.ret v
 |.l _=>M.no
noncomputable def cL:List Xv->M (List D)
 |[]=>M.ret []
 |x::r=>M.bd (dat x) λd=>M.bd (cL r) λds=>M.ret (d::ds)
noncomputable def bool(x:Xv):M Bool:=match x with
 |.d (.bl b)=>M.ret b
 |_=>M.no
noncomputable def int(x:Xv):M Int:=match x with
 |.d (.int b)=>M.ret b
 |_=>M.no
noncomputable def newL(fz:Bool)(xs:List D):M Xv:=match fz with
 |true=>M.ret (.d (.fl xs))
 |false=>λs=>some (.ok (.l s.length),s++[.lst xs])
noncomputable def cI(fz:Bool)(o:Option Rz):M Xv:=match o with
 |some (.dat d)=>M.ret (.d d)
 |some (.nw xs)=>newL fz xs
 |none=>M.no
noncomputable def dh(x:Xv):M (Nat×List D):=λs=>match x with
 |.l n=>match s[n]? with
  |some (.lst xs)=>some (.ok (n,xs),s)
  |_=>none
 |_=>none
noncomputable def putL(n:Nat)(xs:List D):M Unit:=λs=>some (.ok (),s.set n (.lst xs))
noncomputable def uN:D->Option Kx
 |.non=>some .non
 |.int i=>some (.int i)
 |.tup xs=>(cH xs).map .row
 |_=>none
noncomputable def Cp:List D->Option (List Kx)
 |[]=>some []
 |x::r=>match uN x,Cp r with
  |some a,some b=>some (a::b)
  |_,_=>none
noncomputable def kOf:D->Option (List Kx)
 |.tup xs=>Cp xs
 |_=>none
noncomputable abbrev iQ:=List (List Kx×D)
noncomputable def bL(k:List Kx):iQ->Option D
 |[]=>none
 |p::r=>if p.1=k then some p.2 else bL k r
noncomputable def jF(k:List Kx)(d:D)(r:iQ):iQ:=if (bL k r).isSome=true then r.map λp=>if p.1=k then (p.1,d) else p else r++[(k,d)]
noncomputable def cC(x:Xv):M (Nat×iQ):=λs=>match x with
 |.l n=>match s[n]? with
  |some (.dct kvs)=>some (.ok (n,kvs),s)
  |_=>none
 |_=>none
noncomputable def putD(n:Nat)(kvs:iQ):M Unit:=λs=>some (.ok (),s.set n (.dct kvs))
noncomputable def key(x:Xv):M (List Kx):=match x with
 |.d v=>M.opt (kOf v)
 |.l _=>M.no
noncomputable def enumFrom:Nat->List D->List D
 |_,[]=>[]
 |i,x::r=>.tup [.int i,x]::enumFrom (i+1) r
inductive Src where
 |fix (xs:List D)|live (n:Nat)|lX (n:Nat)
noncomputable def Src.at(c:Src)(i:Nat)(s:S):Option (Option D):=match c with
 |.fix xs=>some xs[i]?
 |.live n=>match s[n]? with
  |some (.lst xs)=>some xs[i]?
  |_=>none
 |.lX n=>match s[n]? with
  |some (.lst xs)=>some (xs[i]?.map λx=>.tup [.int i,x])
  |_=>none
noncomputable def oN(x:Xv):M (Src×Nat):=λs=>match x with
 |.d (.tup xs)=>some (.ok (.fix (enumFrom 0 xs),(enumFrom 0 xs).length),s)
 |.d (.fl xs)=>some (.ok (.fix (enumFrom 0 xs),(enumFrom 0 xs).length),s)
 |.l n=>match s[n]? with
  |some (.lst xs)=>some (.ok (.lX n,xs.length),s)
  |_=>none
 |_=>none
noncomputable def src(x:Xv):M (Src×Nat):=λs=>match x with
 |.d (.tup xs)=>some (.ok (.fix xs,xs.length),s)
 |.d (.fl xs)=>some (.ok (.fix xs,xs.length),s)
 |.l n=>match s[n]? with
  |some (.lst xs)=>some (.ok (.live n,xs.length),s)
  |_=>none
 |_=>none
noncomputable def qe(x:Xv):M (List D):=match x with
 |.d (.tup xs)=>M.ret xs
 |.d (.fl xs)=>M.ret xs
 |_=>M.no
noncomputable def lY(a b:Int):List D:=(List.range (b-a).toNat).map λ(i:Nat)=>.int (a+i)
noncomputable def gw(a:Int):Bool:=decide (-(2^62)<a)&&decide (a<2^62)
noncomputable def walk(c:Src)(f:D->List D->M (List D)):Nat->Nat->List D->M (List D)
 |0,_,_=>M.no
 |k+1,i,acc=>λs=>match c.at i s with
  |none=>none
  |some none=>some (.ok acc,s)
  |some (some x)=>M.bd (f x acc) (λacc'=>walk c f k (i+1) acc') s
noncomputable def gA(f:D->M Xv):List D->Option (List Int)
 |[]=>some []
 |x::r=>match f x [] with
  |some (.ok (.d (.int k)),[])=>(gA f r).map (k::·)
  |_=>none
noncomputable abbrev Vs:=List (Option Xv)
noncomputable abbrev Fn:=Nat->List Xv->M Xv
noncomputable def locs:List Xv->List Nat
 |[]=>[]
 |.d _::r=>locs r
 |.l n::r=>n::locs r
noncomputable def dz:Nat->List Xv->List Xv
 |_,[]=>[]
 |k,.d v::r=>.d v::dz k r
 |k,.l _::r=>.l k::dz (k+1) r
noncomputable def iI(s:S):List Nat->Option S
 |[]=>some []
 |n::r=>match s[n]?,iI s r with
  |some o,some q=>some (o::q)
  |_,_=>none
noncomputable def dB(s:S):List Nat->S->S
 |n::r,o::q=>dB (s.set n o) r q
 |_,_=>s
noncomputable def bU(F:List Xv->M Xv)(xs:List Xv):M Xv:=λs=>
 if (locs xs).Nodup then match iI s (locs xs) with
  |none=>none
  |some s0=>match F (dz 0 xs) s0 with
   |none=>none
   |some (.er c fs,s1)=>some (.er c fs,dB s (locs xs) s1)
   |some (.ok (.d v),s1)=>some (.ok (.d v),dB s (locs xs) s1)
   |some (.ok (.l n),s1)=>match (locs xs)[n]? with
    |some m=>some (.ok (.l m),dB s (locs xs) s1)
    |none=>match s1[n]? with
     |some o=>some (.ok (.l s.length),dB s (locs xs) s1++[o])
     |none=>none
 else none
noncomputable def zJ(F:List Xv->M Xv)(c:Nat)(vs:List Xv):M Xv:=λs=>
 if locs vs=[] then match F (.d .any::vs) [] with
  |some (.ok (.d (.tup ds)),_)=>some (.ok (.d (.ob c ds)),s)
  |_=>none
 else none
noncomputable def sJ(c:Nat)(x:Xv):M (List D):=match x with
 |.d (.ob e fs)=>if e=c then M.ret fs else M.no
 |_=>M.no
noncomputable def gB{α:Type}:List Nat->List α->List (Option α)->Option (List (Option α))
 |[],[],J=>some J
 |i::is,d::ds,J=>gB is ds (J.set i (some d))
 |_,_,_=>none
noncomputable def j9:D->Option (List D)
 |.tup xs=>some xs
 |_=>none
noncomputable def fD(tg:List Nat)(x:D)(J:Vs):Option Vs:=match tg with
 |[i]=>some (J.set i (some (.d x)))
 |is=>(j9 x).bind λds=>gB is (ds.map .d) J
noncomputable def blk(many:Nat)(fr:List Nat)(J:Vs):Vs:=List.replicate many none++fr.map λj=>J[j]?.join
section
variable (aq:Nat->Nat->Bool)(aj:Bool)(F:Fn)
mutual
noncomputable def ev:E->Vs->M Xv
 |.c d,_=>M.ret (.d d)
 |.v i,J=>M.opt (J[i]?.join)
 |.pr fz p xs,J=>M.bd (evs xs J) λvs=>M.bd (g8 vs) λds=>cI fz (prim p ds)
 |.xK p q a b c,J=>M.bd (ev a J) λx=>M.bd (ev b J) λy=>M.bd (g8 [x,y]) λds=>M.bd (cI true (prim p ds)) λt=>M.bd (bool t) λk=>
   if k=true then M.bd (ev c J) λz=>M.bd (g8 [y,z]) λds=>cI true (prim q ds) else M.ret (.d (.bl false))
 |.XR p q r a b c d,J=>M.bd (ev a J) λx=>M.bd (ev b J) λy=>M.bd (g8 [x,y]) λds=>M.bd (cI true (prim p ds)) λt=>M.bd (bool t) λk=>
   if k=true then M.bd (ev c J) λz=>M.bd (g8 [y,z]) λds=>M.bd (cI true (prim q ds)) λt=>M.bd (bool t) λk2=>
    if k2=true then M.bd (ev d J) λw=>M.bd (g8 [z,w]) λds=>cI true (prim r ds) else M.ret (.d (.bl false))
   else M.ret (.d (.bl false))
 |.and a b,J=>M.bd (ev a J) λx=>M.bd (bool x) λk=>if k=true then ev b J else M.ret (.d (.bl false))
 |.or a b,J=>M.bd (ev a J) λx=>M.bd (bool x) λk=>if k=true then M.ret (.d (.bl true)) else ev b J
 |.not a,J=>M.bd (ev a J) λx=>M.bd (bool x) λk=>M.ret (.d (.bl (!k)))
 |.ite c a b,J=>M.bd (ev c J) λx=>M.bd (bool x) λk=>if k=true then ev a J else ev b J
 |.tup xs,J=>M.bd (evs xs J) λvs=>M.bd (cL vs) λds=>M.ret (.d (.tup ds))
 |.lst fz xs,J=>M.bd (evs xs J) λvs=>M.bd (cL vs) λds=>newL fz ds
 |.BX k i,_=>M.ret (.d (.fd [.str k] [.int i]))
 |.call f xs,J=>M.bd (evs xs J) λvs=>bU (F f) vs
 |.mX a k,J=>M.bd (ev a J) λx=>M.bd (rd x) λd=>M.bd (M.opt (lW aq d k)) λb=>M.ret (.d (.bl b))
 |.sl fz a lo hi,J=>M.bd (ev a J) λx=>M.bd (tQ lo J) λl=>M.bd (tQ hi J) λh=>M.bd (rd x) λd=>cI fz (cutD d l h)
 |.meth fz p k o xs,J=>M.bd (ev o J) λx=>M.bd (rd x) λd=>if p8 k d=true then M.bd (evs xs J) λys=>M.bd (g8 (x::ys)) λds=>cI fz (prim p ds) else M.no
 |.push o a,J=>M.bd (ev o J) λx=>M.bd (dh x) λ_=>M.bd (ev a J) λy=>M.bd (dat y) λd=>M.bd (dh x) λnx=>if nx.2.length<sizeLine then M.bd (putL nx.1 (nx.2++[d])) λ_=>M.ret (.d .non) else M.no
 |.pop o,J=>M.bd (ev o J) λx=>M.bd (dh x) λnx=>match nx.2.getLast? with
   |some d=>M.bd (putL nx.1 nx.2.dropLast) λ_=>M.ret (.d d)
   |none=>M.no
 |.comp fz elt tg it fr many cond,J=>if aj=true then M.bd (gF it J) λcn=>
   M.bd (walk cn.1 (λd acc=>M.bd (M.opt (fD tg d (blk many fr J))) λJ'=>M.bd (M.qt (lZ cond J')) λok=>
    if ok=true then M.bd (M.qt (ev elt J')) λy=>M.bd (dat y) λe=>if acc.length<sizeLine then M.ret (acc++[e]) else M.no else M.ret acc) (cn.2+1) 0 []) λxs=>newL fz xs
  else M.no
 |.iH fz elt tg it Ry BP fr many cond,J=>if aj=true then M.bd (gF it J) λcn=>
   M.bd (walk cn.1 (λd acc=>M.bd (M.opt (fD tg d (blk many fr J))) λJ'=>M.bd (M.qt (gF BP J')) λqg=>
    walk qg.1 (λd2 acc=>M.bd (M.opt (fD Ry d2 J')) λJf=>M.bd (M.qt (lZ cond Jf)) λok=>
     if ok=true then M.bd (M.qt (ev elt Jf)) λy=>M.bd (dat y) λe=>if acc.length<sizeLine then M.ret (acc++[e]) else M.no else M.ret acc) (qg.2+1) 0 acc) (cn.2+1) 0 []) λxs=>newL fz xs
  else M.no
 |.fld o cs i,J=>M.bd (ev o J) λx=>match x with
   |.d (.exc c fs)=>if cs.contains c=true then M.opt (fs[i]?.map .d) else M.no
   |_=>M.no
 |.of o c i,J=>M.bd (ev o J) λx=>M.bd (sJ c x) λfs=>M.opt (fs[i]?.map .d)
 |.mk c f xs,J=>M.bd (evs xs J) λvs=>zJ (F f) c vs
 |.cm c f o xs,J=>M.bd (ev o J) λx=>M.bd (sJ c x) λ_=>M.bd (evs xs J) λvs=>M.qt (bU (F f) (x::vs))
 |.oH,_=>λs=>some (.ok (.l s.length),s++[.dct []])
 |.sE b k d,J=>M.bd (ev k J) λx=>M.bd (ev d J) λy=>M.bd (key x) λkx=>M.bd (cC y) λnk=>M.ret (.d (.bl ((bL kx nk.2).isSome==b)))
 |.jE d k,J=>M.bd (ev d J) λy=>M.bd (ev k J) λx=>M.bd (key x) λkx=>M.bd (cC y) λnk=>M.opt ((bL kx nk.2).map .d)
 |.BZ a,J=>M.bd (ev a J) λx=>M.bd (rd x) λd=>M.bd (M.opt (xM d)) λk=>M.ret (.d (.bl k))
 |.oJ fz a b,J=>if aj=true then M.bd (ev a J) λx=>match x with
   |.d (.fl xs)=>M.bd (M.opt (gA (λd=>ev b [some (.d d)]) xs)) λks=>M.bd (M.opt (jo (zE ks) xs)) λys=>newL fz ys
   |_=>M.no else M.no
 |.X3 a b,J=>M.bd (ev a J) λx=>M.bd (rd x) λd=>M.bd (M.opt (xM d)) λk=>if k=true then M.ret x else ev b J
 |.ins o i a,J=>M.bd (ev o J) λx=>M.bd (dh x) λ_=>M.bd (ev i J) λz=>M.bd (int z) λj=>M.bd (ev a J) λy=>M.bd (dat y) λd=>M.bd (dh x) λnx=>if 0<=j/\j<=nx.2.length/\nx.2.length<sizeLine then M.bd (putL nx.1 (nx.2.take j.toNat++d::nx.2.drop j.toNat)) λ_=>M.ret (.d .non) else M.no
 |.no,_=>M.no
noncomputable def gF:Wk->Vs->M (Src×Nat)
 |.seq e,J=>M.bd (ev e J) src
 |.rg a b,J=>M.bd (ev a J) λx=>M.bd (ev b J) λy=>M.bd (int x) λi=>M.bd (int y) λj=>if gw i&&gw j then M.ret (.fix (lY i j),(lY i j).length) else M.no
 |.zip a b,J=>M.bd (ev a J) λx=>M.bd (ev b J) λy=>M.bd (qe x) λxs=>M.bd (qe y) λys=>M.ret (.fix (List.zipWith (λp q=>.tup [p,q]) xs ys),(List.zipWith (λ(p q:D)=>D.tup [p,q]) xs ys).length)
 |.enum a,J=>M.bd (ev a J) oN
 |.X4 a,J=>M.bd (ev a J) λx=>M.bd (int x) λi=>if gw i then M.ret (.fix (lY 0 i).reverse,(lY 0 i).length) else M.no
noncomputable def tQ:Eo->Vs->M (Option Int)
 |.no,_=>M.ret none
 |.yes a,J=>M.bd (ev a J) λx=>M.bd (int x) λi=>M.ret (some i)
noncomputable def lZ:Eo->Vs->M Bool
 |.no,_=>M.ret true
 |.yes a,J=>M.bd (ev a J) bool
noncomputable def evs:Es->Vs->M (List Xv)
 |.nil,_=>M.ret []
 |.cons a r,J=>M.bd (ev a J) λx=>M.bd (evs r J) λxs=>M.ret (x::xs)
end
end
inductive Out where
 |nx (J:Vs)|rt (x:Xv)|bk (J:Vs)|ct (J:Vs)|er (c:Nat) (fs:List D) (J:Vs)
noncomputable abbrev MS:=S->Option (Out×S)
noncomputable def ofM{α:Type}(m:M α)(J:Vs)(k:α->MS):MS:=λs=>match m s with
 |some (.ok a,s')=>k a s'
 |some (.er c fs,s')=>some (.er c fs J,s')
 |none=>none
noncomputable def bO(m:MS)(k:Vs->MS):MS:=λs=>match m s with
 |some (.nx J,s')=>k J s'
 |r=>r
section
variable (aq:Nat->Nat->Bool)
noncomputable def store(aj:Bool)(F:Fn)(t:Tg)(x:Xv)(J:Vs):MS:=match t with
 |.nm i=>λs=>some (.nx (J.set i (some x)),s)
 |.tp is=>if aj=true then ofM (M.bd (dat x) λd=>M.opt ((j9 d).bind λds=>gB is (ds.map .d) J)) J (λJ' s=>some (.nx J',s)) else λ_=>none
 |.aq o i=>ofM (M.bd (dat x) λd=>M.bd (ev aq aj F o J) λy=>M.bd (ev aq aj F i J) λz=>M.bd (int z) λj=>M.bd (dh y) λnx=>
   match L2.rW nx.2.length j with
   |some q=>putL nx.1 (nx.2.set q d)
   |none=>M.no) J (λ_ s=>some (.nx J,s))
noncomputable def cU(c:Vs->M Bool)(b:Vs->MS):Nat->Vs->MS
 |0,_=>λ_=>none
 |k+1,J=>ofM (c J) J λok=>if ok=true then λs=>match b J s with
   |some (.nx J',s')=>cU c b k J' s'
   |some (.ct J',s')=>cU c b k J' s'
   |some (.bk J',s')=>some (.nx J',s')
   |r=>r
  else λs=>some (.nx J,s)
noncomputable def cM(c:Src)(b:D->Vs->MS):Nat->Nat->Vs->MS
 |0,_,_=>λ_=>none
 |k+1,i,J=>λs=>match c.at i s with
  |none=>none
  |some none=>some (.nx J,s)
  |some (some d)=>match b d J s with
   |some (.nx J',s')=>cM c b k (i+1) J' s'
   |some (.ct J',s')=>cM c b k (i+1) J' s'
   |some (.bk J',s')=>some (.nx J',s')
   |r=>r
noncomputable def goes(i:Nat):Out->Out
 |.nx J=>.nx (J.set i none)
 |.bk J=>.bk (J.set i none)
 |.ct J=>.ct (J.set i none)
 |r=>r
noncomputable def zK:Nat:=1000000000000
mutual
noncomputable def ex(aj:Bool)(F:Bool->Fn):St->Vs->MS
 |.pass,J=>λs=>some (.nx J,s)
 |.ex e,J=>ofM (ev aq aj (F aj) e J) J λ_ s=>some (.nx J,s)
 |.asg t e,J=>ofM (ev aq aj (F aj) e J) J λx=>store aq aj (F aj) t x J
 |.par i j a b,J=>if aj=true then ofM (M.bd (ev aq aj (F aj) a J) λx=>M.bd (ev aq aj (F aj) b J) λy=>M.ret (x,y)) J λxy s=>some (.nx ((J.set i (some xy.1)).set j (some xy.2)),s) else λ_=>none
 |.aug i e,J=>ofM (M.bd (M.opt (J[i]?.join)) λx=>M.bd (ev aq aj (F aj) e J) λy=>M.bd (int x) λp=>M.bd (int y) λq=>M.ret (p+q)) J λr s=>some (.nx (J.set i (some (.d (.int r)))),s)
 |.ret e,J=>ofM (ev aq aj (F aj) e J) J λx s=>some (.rt x,s)
 |.rise c kp xs,J=>if aj=true then ofM (M.bd (evs aq aj (F aj) xs J) cL) J λds s=>some (.er c (if kp=true then ds else []) J,s) else λ_=>none
 |.iff c t e,J=>ofM (M.bd (ev aq aj (F aj) c J) bool) J λb=>if b=true then exs aj F t J else exs aj F e J
 |.wh c b,J=>cU (λJ=>M.bd (ev aq aj (F aj) c J) bool) (λJ=>exs aj F b J) zK J
 |.fr t w b,J=>if aj=true then ofM (gF aq aj (F aj) w J) J λcn=>cM cn.1 (λd J=>bO (store aq aj (F aj) t (.d d) J) λJ'=>exs aj F b J') (cn.2+1) 0 J else λ_=>none
 |.IK b d i h,J=>if aj=true then λs=>match exs aj F b J s with
   |some (.er c fs J',s')=>if aq c d=true then (match exs false F h (J'.set i (some (.d (.exc c fs)))) s' with
    |some (r,s'')=>(match r with
     |.er _ _ _=>none
     |r=>some (goes i r,s''))
    |none=>none) else none
   |r=>r
  else λ_=>none
 |.dput d k v,J=>ofM (M.bd (ev aq aj (F aj) v J) λz=>M.bd (dat z) λw=>M.bd (ev aq aj (F aj) d J) λy=>M.bd (ev aq aj (F aj) k J) λx=>M.bd (key x) λkx=>M.bd (cC y) λnk=>if nk.2.length<sizeLine then putD nk.1 (jF kx w nk.2) else M.no) J (λ_ s=>some (.nx J,s))
 |.no,_=>λ_=>none
noncomputable def exs(aj:Bool)(F:Bool->Fn):cB->Vs->MS
 |.nil,J=>λs=>some (.nx J,s)
 |.cons a r,J=>bO (ex aj F a J) λJ'=>exs aj F r J'
end
structure Df where
 many:Nat
 eU:Nat
 body:cB
noncomputable def call(T:Nat->Option Df):Nat->Bool->Fn
 |0,_,_,_=>M.no
 |k+1,aj,f,xs=>match T f with
  |none=>M.no
  |some d=>if xs.length=d.eU then λs=>match exs aq aj (λc=>call T k c) d.body (xs.map some++List.replicate (d.many-d.eU) none) s with
    |some (.nx _,s')=>some (.ok (.d .non),s')
    |some (.rt v,s')=>some (.ok v,s')
    |some (.er c fs _,s')=>some (.er c fs,s')
    |_=>none
   else M.no
end
end Mi
namespace Mi
open PySem L2
structure Ph where
 z:Addr->Prop
 l:List Addr
structure Cl where
 a:Nat->Addr
 f:Nat->List Str
 b:Nat->Addr
 g:Nat->List Str
section
variable (K:W.Frag)(cA:Cl)
def KT(a:Addr)(vs:List V):Prop:=gK K (λ_=>none) a vs
def KL(a:Addr)(vs:List V):Prop:=cR K (λ_=>none) a vs
def TupAt(U:Ph)(H:Hp)(a:Addr)(vs:List V):Prop:=(Rd H a (.tup vs)/\¬U.z a)\/KT K a vs
def LstAt(U:Ph)(H:Hp)(a:Addr)(vs:List V):Prop:=(Rd H a (.lst vs)/\¬U.z a)\/KL K a vs
def ExcAt(U:Ph)(H:Hp)(a:Addr)(c:Nat)(vs:List V):Prop:=¬U.z a/\((cA.f c=[]/\vs=[]/\H a=some (xG a (cA.a c) none))\/∃dx,H a=some (xG a (cA.a c) (some dx))/\¬U.z dx/\H dx=some (.xd ((cA.f c).zip vs))/\(cA.f c).length=vs.length)
def qj(U:Ph)(H:Hp)(a:Addr)(c:Nat)(vs:List V):Prop:=¬U.z a/\∃dx,H a=some (.ins (cA.b c) dx ((cA.g c).zip vs))/\(cA.g c).length=vs.length
mutual
inductive Rep (U:Ph) (H:Hp):D->V->Prop where
 |non:Rep U H .non .non
 |bl (b:Bool):Rep U H (.bl b) (.bl b)
 |int (i:Int):Rep U H (.int i) (.int i)
 |str (x:Str):Rep U H (.str x) (.str x)
 |tup {a:Addr} {xs:List D} {vs:List V} (h:TupAt K U H a vs) (r:aB U H xs vs):Rep U H (.tup xs) (.ref a)
 |fl {a:Addr} {xs:List D} {vs:List V} (h:LstAt K U H a vs) (r:aB U H xs vs):Rep U H (.fl xs) (.ref a)
 |fd {a:Addr} {k:Str} {i:Int} (h:H a=some (.dK [(.inr k,.int i)])) (n:¬U.z a):Rep U H (.fd [.str k] [.int i]) (.ref a)
 |exc {a:Addr} {c:Nat} {xs:List D} {vs:List V} (h:ExcAt cA U H a c vs) (r:aB U H xs vs):Rep U H (.exc c xs) (.ref a)
 |ob {a:Addr} {c:Nat} {xs:List D} {vs:List V} (h:qj cA U H a c vs) (r:aB U H xs vs):Rep U H (.ob c xs) (.ref a)
 |any (a:Addr):Rep U H .any (.ref a)
inductive aB (U:Ph) (H:Hp):List D->List V->Prop where
 |nil:aB U H [] []
 |cons {d:D} {v:V} {ds:List D} {vs:List V} (h:Rep U H d v) (r:aB U H ds vs):aB U H (d::ds) (v::vs)
end
inductive aU (U:Ph) (H:Hp):Xv->V->Prop where
 |d {x:D} {v:V} (h:Rep K cA U H x v):aU U H (.d x) v
 |l {n:Nat} {a:Addr} (h:U.l[n]?=some a):aU U H (.l n) (.ref a)
inductive aR (U:Ph) (H:Hp):List Xv->List V->Prop where
 |nil:aR U H [] []
 |cons {d:Xv} {v:V} {ds:List Xv} {vs:List V} (h:aU K cA U H d v) (r:aR U H ds vs):aR U H (d::ds) (v::vs)
noncomputable def RP:Kx->Int
 |.non=>reduceHash 0xFCA86420
 |.int i=>hashInt i
 |.row is=>reduceHash (Builtin.Tuple.tupleHashOf (is.map hashInt))
noncomputable def qX(k:List Kx):Int:=reduceHash (Builtin.Tuple.tupleHashOf (k.map RP))
noncomputable def sO:Kx->D
 |.non=>.non
 |.int i=>.int i
 |.row is=>.tup (is.map .int)
noncomputable def iJ(k:List Kx):D:=.tup (k.map sO)
noncomputable abbrev m7:=List (List Kx×Addr×Value)
noncomputable def sS(a:Addr)(xs:m7):HO:=.ext λh=>(a==sysModules)=false/\xs.length<=sizeLine/\∃o es ep,h.get? a=some o/\o.ExactDict/\o.data=.dict es ep/\es.toList=xs.map (λx=>⟨qX x.1,.ref x.2.1,x.2.2⟩)/\(xs.map (·.1)).Nodup
inductive iR (U:Ph) (H:Hp):iQ->m7->Prop where
 |nil:iR U H [] []
 |cons {k:List Kx} {d:D} {ka:Addr} {u:Value} {v:V} {r:iQ} {xs:m7} (hk:Rep K cA U H (iJ k) (.ref ka)) (hu:RelV v u) (hv:Rep K cA U H d v) (q:iR U H r xs):iR U H ((k,d)::r) ((k,ka,u)::xs)
noncomputable def lu(U:Ph)(H:Hp)(a:Addr):SO->Prop
 |.lst xs=>∃vs,H a=some (.lst vs)/\aB K cA U H xs vs
 |.dct kvs=>∃xs,H a=some (sS a xs)/\iR K cA U H kvs xs
structure aD(U:Ph)(H:Hp)(s:S):Prop where
 len:U.l.length=s.length
 obj:∀(n:Nat) o a,s[n]?=some o->U.l[n]?=some a->lu K cA U H a o
 uniq:U.l.Nodup
 lz:∀a∈U.l,U.z a
 zt:∀a,U.z a->∃o,H a=some o
noncomputable def NT:HO->Prop
 |.lN _=>False
 |_=>True
structure Ext(U:Ph)(H:Hp)(U':Ph)(H':Hp):Prop where
 more:∃r,U'.l=U.l++r/\∀b∈r,H b=none
 ql:∀a,U.z a->U'.z a
 j_:∀a,U'.z a->U.z a\/H a=none
 frame:∀a o,H a=some o->NT o->a∉U.l->H' a=some o
 stay:∀a o,H a=some o->∃o',H' a=some o'
def aW(U:Ph)(H:Hp)(Z:L2.St)(J:Vs):Prop:=Z.length=J.length/\∀(i:Nat) (x:Xv),J[i]?=some (some x)->∃v,Z[i]?=some (some v)/\aU K cA U H x v
end
section
variable {K:W.Frag}{cA:Cl}{U U' kh:Ph}{H H' m8:Hp}{s:S}{Z:L2.St}{J:Vs}
theorem Ext.refl:Ext U H U H:=⟨⟨[],by simp,by simp⟩,λ_ h=>h,λ_ h=>.inl h,λ_ _ h _ _=>h,λ_ o h=>⟨o,h⟩⟩
theorem Ext.mj(x:Ext U H U' H'){a:Addr}(h:H' a=none):H a=none:=by
 cases e:H a with
 |none=>rfl
 |some o=>obtain⟨o',q⟩:=x.stay a o e;rw[h] at q;cases q
theorem Ext.trans(x:Ext U H U' H')(y:Ext U' H' kh m8):Ext U H kh m8:=by
 obtain⟨r,e,hr⟩:=x.more;obtain⟨r',e',hr'⟩:=y.more;refine⟨⟨r++r',by rw[e',e,Lf],λb hb=>?_⟩,λa h=>y.ql a (x.ql a h),λa h=>?_,λa o h t n=>y.frame a o (x.frame a o h t n) t ?_,λa o h=>?_⟩
 ·rcases nG.mp hb with z|z
  ·exact hr b z
  ·exact x.mj (hr' b z)
 ·rcases y.j_ a h with z|z
  ·exact x.j_ a z
  ·exact .inr (x.mj z)
 ·rw[e];intro z;rcases nG.mp z with z|z
  ·exact n z
  ·rw[hr a z] at h;cases h
 ·obtain⟨o',q⟩:=x.stay a o h;exact y.stay a o' q
theorem Ext.get(x:Ext U H U' H'){n:Nat}{a:Addr}(h:U.l[n]?=some a):U'.l[n]?=some a:=by
 obtain⟨r,e,_⟩:=x.more;rw[e,pq (fX.mp h).1];exact h
theorem Ext.out(x:Ext U H U' H')(hz:∀a∈U.l,U.z a){a:Addr}{o:HO}(h:H a=some o)(n:¬U.z a)(t:NT o:=by exact trivial):H' a=some o/\¬U'.z a:=
 ⟨x.frame a o h t λz=>n (hz a z),λz=>by
  rcases x.j_ a z with y|y
  ·exact n y
  ·rw[h] at y;cases y⟩
theorem TupAt.mono(x:Ext U H U' H')(hz:∀a∈U.l,U.z a){a:Addr}{vs:List V}(h:TupAt K U H a vs):TupAt K U' H' a vs:=by
 rcases h with ⟨h|⟨o,h⟩,n⟩|h
 ·obtain⟨p,q⟩:=x.out hz h n;exact .inl ⟨.inl p,q⟩
 ·obtain⟨p,q⟩:=x.out hz h n;exact .inl ⟨.inr ⟨o,p⟩,q⟩
 ·exact .inr h
theorem LstAt.mono(x:Ext U H U' H')(hz:∀a∈U.l,U.z a){a:Addr}{vs:List V}(h:LstAt K U H a vs):LstAt K U' H' a vs:=by
 rcases h with ⟨h|⟨o,h⟩,n⟩|h
 ·obtain⟨p,q⟩:=x.out hz h n;exact .inl ⟨.inl p,q⟩
 ·obtain⟨p,q⟩:=x.out hz h n;exact .inl ⟨.inr ⟨o,p⟩,q⟩
 ·exact .inr h
theorem ExcAt.mono(x:Ext U H U' H')(hz:∀a∈U.l,U.z a){a:Addr}{c:Nat}{vs:List V}(h:ExcAt cA U H a c vs):ExcAt cA U' H' a c vs:=by
 obtain⟨n,⟨e1,e2,h⟩|⟨dx,h,n2,h2,h3⟩⟩:=h
 ·obtain⟨p,q⟩:=x.out hz h n;exact⟨q,.inl ⟨e1,e2,p⟩⟩
 ·obtain⟨p,q⟩:=x.out hz h n;obtain⟨p2,q2⟩:=x.out hz h2 n2;exact⟨q,.inr ⟨dx,p,q2,p2,h3⟩⟩
theorem qj.mono(x:Ext U H U' H')(hz:∀a∈U.l,U.z a){a:Addr}{c:Nat}{vs:List V}(h:qj cA U H a c vs):qj cA U' H' a c vs:=by
 obtain⟨n,dx,h,h3⟩:=h;obtain⟨p,q⟩:=x.out hz h n;exact⟨q,dx,p,h3⟩
theorem Rep.mono(x:Ext U H U' H')(hz:∀a∈U.l,U.z a){d:D}{v:V}(h:Rep K cA U H d v):Rep K cA U' H' d v:=
 Rep.rec (motive_1:=λd v _=>Rep K cA U' H' d v) (motive_2:=λd v _=>aB K cA U' H' d v) .non .bl .int .str (λh _ i=>.tup (h.mono x hz) i) (λh _ i=>.fl (h.mono x hz) i) (λh n=>.fd (x.out hz h n).1 (x.out hz h n).2) (λh _ i=>.exc (h.mono x hz) i) (λh _ i=>.ob (h.mono x hz) i) .any .nil (λ_ _ i j=>.cons i j) h
theorem aB.mono(x:Ext U H U' H')(hz:∀a∈U.l,U.z a){d:List D}{v:List V}(h:aB K cA U H d v):aB K cA U' H' d v:=
 aB.rec (motive_1:=λd v _=>Rep K cA U' H' d v) (motive_2:=λd v _=>aB K cA U' H' d v) .non .bl .int .str (λh _ i=>.tup (h.mono x hz) i) (λh _ i=>.fl (h.mono x hz) i) (λh n=>.fd (x.out hz h n).1 (x.out hz h n).2) (λh _ i=>.exc (h.mono x hz) i) (λh _ i=>.ob (h.mono x hz) i) .any .nil (λ_ _ i j=>.cons i j) h
theorem aB.map(m:∀d v,Rep K cA U H d v->Rep K cA U' H' d v):∀{d:List D} {v:List V},aB K cA U H d v->aB K cA U' H' d v
 |_,_,.nil=>.nil
 |_,_,.cons h r=>.cons (m _ _ h) (aB.map m r)
theorem iR.map(m:∀d v,Rep K cA U H d v->Rep K cA U' H' d v){d:iQ}{v:m7}(h:iR K cA U H d v):iR K cA U' H' d v:=by
 induction h with
 |nil=>exact .nil
 |cons a b c _ ih=>exact .cons (m _ _ a) b (m _ _ c) ih
theorem lu.map{a:Addr}{o:SO}(h:lu K cA U H a o)(e:∀u,NT u->H a=some u->H' a=some u)(m:∀d v,Rep K cA U H d v->Rep K cA U' H' d v):lu K cA U' H' a o:=by
 cases o with
 |lst xs=>obtain⟨vs,q,r⟩:=h;exact⟨vs,e _ trivial q,r.map m⟩
 |dct xs=>obtain⟨vs,q,r⟩:=h;exact⟨vs,e _ trivial q,r.map m⟩
theorem aU.mono(x:Ext U H U' H')(hz:∀a∈U.l,U.z a){d:Xv}{v:V}(h:aU K cA U H d v):aU K cA U' H' d v:=by
 cases h with
 |d h=>exact .d (h.mono x hz)
 |l h=>exact .l (x.get h)
theorem aR.mono(x:Ext U H U' H')(hz:∀a∈U.l,U.z a):∀{ds:List Xv} {vs:List V},aR K cA U H ds vs->aR K cA U' H' ds vs
 |_,_,.nil=>.nil
 |_,_,.cons h r=>.cons (h.mono x hz) (aR.mono x hz r)
theorem aW.mono(x:Ext U H U' H')(hz:∀a∈U.l,U.z a)(h:aW K cA U H Z J):aW K cA U' H' Z J:=⟨h.1,λi d e=>let ⟨v,a,b⟩:=h.2 i d e;⟨v,a,b.mono x hz⟩⟩
theorem aB.len:∀{ds:List D} {vs:List V},aB K cA U H ds vs->ds.length=vs.length
 |_,_,.nil=>rfl
 |_,_,.cons _ r=>by rw[gW,gW,aB.len r]
theorem aR.len:∀{ds:List Xv} {vs:List V},aR K cA U H ds vs->ds.length=vs.length
 |_,_,.nil=>rfl
 |_,_,.cons _ r=>by rw[gW,gW,aR.len r]
theorem aB.get:∀{ds:List D} {vs:List V} {i:Nat} {d:D},aB K cA U H ds vs->ds[i]?=some d->∃v,vs[i]?=some v/\Rep K cA U H d v
 |_,_,_,_,.nil,e=>by simp at e
 |_,_,0,_,.cons h _,e=>by simp at e;subst e;exact⟨_,rfl,h⟩
 |_,_,i+1,d,.cons _ r,e=>by
  obtain⟨v,a,b⟩:=aB.get (i:=i) (d:=d) r (by simpa using e);exact⟨v,by simpa using a,b⟩
theorem aR.get:∀{ds:List Xv} {vs:List V} {i:Nat} {d:Xv},aR K cA U H ds vs->ds[i]?=some d->∃v,vs[i]?=some v/\aU K cA U H d v
 |_,_,_,_,.nil,e=>by simp at e
 |_,_,0,_,.cons h _,e=>by simp at e;subst e;exact⟨_,rfl,h⟩
 |_,_,i+1,d,.cons _ r,e=>by
  obtain⟨v,a,b⟩:=aR.get (i:=i) (d:=d) r (by simpa using e);exact⟨v,by simpa using a,b⟩
theorem aB.none:∀{ds:List D} {vs:List V} {i:Nat},aB K cA U H ds vs->ds[i]?=none->vs[i]?=none:=λ{ds vs i} r e=>by
 have:=r.len;have h2:ds.length<=i:=qG.mp e;exact qG.mpr gV
theorem aB.app:∀{ds es:List D} {vs us:List V},aB K cA U H ds vs->aB K cA U H es us->aB K cA U H (ds++es) (vs++us)
 |_,_,_,_,.nil,s=>s
 |_,_,_,_,.cons h r,s=>.cons h (aB.app r s)
theorem aB.take:∀{ds:List D} {vs:List V} (n:Nat),aB K cA U H ds vs->aB K cA U H (ds.take n) (vs.take n)
 |_,_,0,_=>by simp;exact .nil
 |_,_,n+1,.nil=>by simp;exact .nil
 |_,_,n+1,.cons h r=>by simp only[List.take_succ_cons];exact .cons h (aB.take n r)
theorem aB.drop:∀{ds:List D} {vs:List V} (n:Nat),aB K cA U H ds vs->aB K cA U H (ds.drop n) (vs.drop n)
 |_,_,0,r=>r
 |_,_,n+1,.nil=>by simp;exact .nil
 |_,_,n+1,.cons _ r=>by simp only[List.drop_succ_cons];exact aB.drop n r
theorem aB.set{d:D}{v:V}(h:Rep K cA U H d v):∀{ds:List D} {vs:List V} (i:Nat),aB K cA U H ds vs->aB K cA U H (ds.set i d) (vs.set i v)
 |_,_,_,.nil=>.nil
 |_,_,0,.cons _ r=>.cons h r
 |_,_,i+1,.cons q r=>.cons q (aB.set h i r)
theorem aB.cut{ds:List D}{vs:List V}{l h:Option Int}(r:aB K cA U H ds vs):aB K cA U H (Mi.cut ds l h) (mQ vs l h):=by
 unfold Mi.cut mQ;rw[<-r.len];exact(r.drop _).take _
def bG(H H':Hp):Prop:=∀a o,H a=some o->H' a=some o
theorem bG.refl:bG H H:=λ_ _ h=>h
theorem bG.trans(x:bG H H')(y:bG H' m8):bG H m8:=λa o h=>y a o (x a o h)
theorem bG.new{p:Addr}{o:HO}(hp:H p=none):bG H (upd H p o):=λa u h=>by rw[bT (wJ h hp)];exact h
theorem bG.ext(g:bG H H'):Ext U H U H':=⟨⟨[],by simp,by simp⟩,λ_ h=>h,λ_ h=>.inl h,λa o h _ _=>g a o h,λa o h=>⟨o,g a o h⟩⟩
theorem lu.grow{a:Addr}{o:SO}(g:bG H H')(hz:∀a∈U.l,U.z a)(h:lu K cA U H a o):lu K cA U H' a o:=h.map (λu _=>g _ u) λ_ _ r=>r.mono g.ext hz
theorem aD.grow(g:bG H H')(h:aD K cA U H s):aD K cA U H' s:=
 ⟨h.len,λn o a e1 e2=>(h.obj n o a e1 e2).grow g h.lz,h.uniq,h.lz,λa z=>let ⟨o,e⟩:=h.zt a z;⟨o,g _ _ e⟩⟩
theorem aD.nz(h:aD K cA U H s){p:Addr}(hp:H p=none):¬U.z p:=λz=>by obtain⟨o,e⟩:=h.zt p z;rw[hp] at e;cases e
noncomputable def Ph.add(U:Ph)(p:Addr):Ph:=⟨λa=>U.z a\/a=p,U.l++[p]⟩
theorem Ext.add{p:Addr}{o:HO}(hp:H p=none):Ext U H (U.add p) (upd H p o):=
 ⟨⟨[p],rfl,by simpa using hp⟩,λ_ h=>.inl h,λa h=>h.imp id λe=>by rw[e];exact hp,λa u h _ _=>bG.new hp a u h,λa u h=>⟨u,bG.new hp a u h⟩⟩
theorem aD.Jg{p:Addr}{so:SO}{ho:HO}(h:aD K cA U H s)(hp:H p=none)(hr:lu K cA (U.add p) (upd H p ho) p so):aD K cA (U.add p) (upd H p ho) (s++[so]):=by
 have pn:p∉U.l:=λz=>h.nz hp (h.lz p z);refine⟨by show (U.l++[p]).length=_;rw[pA,pA,h.len];rfl,λn o a e1 e2=>?_,?_,λa ha=>?_,λa ha=>?_⟩
 ·have e2:(U.l++[p])[n]?=some a:=e2;by_cases hn:n<s.length
  ·rw[pq hn] at e1;rw[pq (by rw[h.len];exact hn)] at e2;exact(h.obj n o a e1 e2).map (λu _=>bG.new hp _ u) λ_ _ r=>r.mono (Ext.add hp) h.lz
  ·have hl:n=s.length:=by
    have z:=(fX.mp e1).1;rw[pA] at z;simp at z
    lia
   subst hl;rw[pF (cj _)] at e1;rw[pF (by rw[h.len];exact cj _)] at e2;simp at e1;simp[h.len] at e2;subst e1 e2;exact hr
 ·show (U.l++[p]).Nodup;rw[Lg];refine⟨h.uniq,by simp,λa ha b hb e=>?_⟩;simp at hb;subst hb e;exact pn ha
 ·have ha:a∈U.l++[p]:=ha;rcases nG.mp ha with z|z
  ·exact .inl (h.lz a z)
  ·simp at z;exact .inr z
 ·rcases ha with z|z
  ·obtain⟨o,e⟩:=h.zt a z;exact⟨o,bG.new hp _ _ e⟩
  ·subst z;exact⟨_,iB⟩
theorem aD.add{p:Addr}{xs:List D}{vs:List V}(h:aD K cA U H s)(hp:H p=none)(r:aB K cA U H xs vs):aD K cA (U.add p) (upd H p (.lst vs)) (s++[.lst xs]):=h.Jg hp ⟨vs,iB,r.mono (Ext.add hp) h.lz⟩
theorem Ext.write{n:Nat}{p:Addr}{o:HO}(hp:U.l[n]?=some p)(hv:∃u,H p=some u):Ext U H U (upd H p o):=by
 have hm:p∈U.l:=gJ hp;refine⟨⟨[],by simp,by simp⟩,λ_ h=>h,λ_ h=>.inl h,λa u h _ n=>by
  have ne:a≠p:=λe=>n (by rw[e];exact hm);rw[bT ne];exact h,λa u h=>?_⟩
 by_cases e:a=p
 ·subst e;exact⟨o,iB⟩
 ·exact⟨u,by rw[bT e];exact h⟩
theorem aD.uO{n:Nat}{p:Addr}{so:SO}{ho:HO}(h:aD K cA U H s)(hl:n<s.length)(hp:U.l[n]?=some p)(hr:lu K cA U (upd H p ho) p so):aD K cA U (upd H p ho) (s.set n so):=by
 have hv:=h.zt p (h.lz p (gJ hp));have x:Ext U H U (upd H p ho):=Ext.write hp hv;refine⟨by rw[pI];exact h.len,λm o a e1 e2=>?_,h.uniq,h.lz,λa ha=>?_⟩
 ·by_cases hm:n=m
  ·subst hm;rw[yL hl] at e1;cases e1;rw[hp] at e2;cases e2;exact hr
  ·rw[qH hm] at e1;have ne:a≠p:=λy=>by
    subst y;exact hm ((Pn (fX.mp hp).1 h.uniq).mp (hp.trans e2.symm))
   exact(h.obj m o a e1 e2).map (λ_ _ q=>by rw[bT ne];exact q) λ_ _ r=>r.mono x h.lz
 ·obtain⟨o,e⟩:=h.zt a ha;obtain⟨o',e'⟩:=x.stay a o e;exact⟨o',e'⟩
theorem aD.write{n:Nat}{p:Addr}{xs ys:List D}{us:List V}(h:aD K cA U H s)(hn:s[n]?=some (.lst xs))(hp:U.l[n]?=some p)(r:aB K cA U H ys us):aD K cA U (upd H p (.lst us)) (s.set n (.lst ys)):=
 h.uO (fX.mp hn).1 hp ⟨us,iB,r.mono (Ext.write hp (h.zt p (h.lz p (gJ hp)))) h.lz⟩
theorem aW.set{i:Nat}{d:Xv}{v:V}(hL:aW K cA U H Z J)(r:aU K cA U H d v):aW K cA U H (Z.set i (some v)) (J.set i (some d)):=by
 refine⟨by rw[pI,pI];exact hL.1,λj e h=>?_⟩;by_cases wO:i=j
 ·subst wO;by_cases hl:i<J.length
  ·rw[yL hl] at h;cases h;exact⟨v,by rw[yL (by rw[hL.1];exact hl)],r⟩
  ·rw[List.getElem?_eq_none (by rw[pI];lia)] at h;cases h
 ·rw[qH wO] at h;obtain⟨u,a,b⟩:=hL.2 j e h;exact⟨u,by rw[qH wO];exact a,b⟩
theorem TupAt.jG{a:Addr}{vs:List V}(h:TupAt K U H a vs):gK K H a vs:=by
 rcases h with ⟨h,_⟩|(h|h)
 ·exact .inl h
 ·rcases h with h|⟨o,h⟩<;>cases h
 ·exact .inr h
theorem LstAt.sU{a:Addr}{vs:List V}(h:LstAt K U H a vs):cR K H a vs:=by
 rcases h with ⟨h,_⟩|(h|h)
 ·exact .inl h
 ·rcases h with h|⟨o,h⟩<;>cases h
 ·exact .inr h
theorem TupAt.new{p:Addr}{vs:List V}(hz:¬U.z p):TupAt K U (upd H p (.tup vs)) p vs:=.inl ⟨.inl iB,hz⟩
theorem LstAt.new{p:Addr}{vs:List V}(hz:¬U.z p):LstAt K U (upd H p (.lst vs)) p vs:=.inl ⟨.inl iB,hz⟩
end
end Mi
namespace Mi
open PySem PySem.Spec PyProof.Rows L2
theorem un{α β γ:Type}{A B C:α->β->γ->Prop}{R:Prop}(h:∃a b c,A a b c/\B a b c/\C a b c)(f:∀a b c,A a b c->B a b c->C a b c->R):R:=by
 obtain⟨a,b,c,x,y,z⟩:=h;exact f a b c x y z
section
variable (K:W.Frag)(cA:Cl)
def Run{α:Type}(m:M α)(U:Ph)(H:Hp)(s:S)(P:α->S->Ph->Hp->Prop)(Ee:Nat->List D->S->Ph->Hp->Prop):Prop:=
 match m s with
 |some (.ok a,s')=>∀U' H',Ext U H U' H'->aD K cA U' H' s'->P a s' U' H'
 |some (.er c f,s')=>∀U' H',Ext U H U' H'->aD K cA U' H' s'->Ee c f s' U' H'
 |none=>False
def kj(U:Ph)(H:Hp)(c:Nat)(fs:List D)(dx:Option Addr):Prop:=
 (cA.f c=[]/\fs=[]/\dx=none)\/∃d vs,dx=some d/\¬U.z d/\H d=some (.xd ((cA.f c).zip vs))/\(cA.f c).length=vs.length/\aB K cA U H fs vs
noncomputable def eX(EX:XS)(Z:L2.St):Nat->List D->S->Ph->Hp->Prop:=λc fs _ U' H'=>∀dx,kj K cA U' H' c fs dx->EX Z (.ref (cA.a c)) dx H'
noncomputable def tE(EX:XS)(m:Vs->M Xv):TE:=λZ H Q=>∃U J s,aW K cA U H Z J/\aD K cA U H s/\Run K cA (m J) U H s (λd _ U' H'=>∀v,aU K cA U' H' d v->Q v H') (eX K cA EX Z)
noncomputable def RQ(EX:XS)(m:Vs->M (List Xv)):TA:=λZ H Q=>∃U J s,aW K cA U H Z J/\aD K cA U H s/\Run K cA (m J) U H s (λd _ U' H'=>∀v,aR K cA U' H' d v->Q v H') (eX K cA EX Z)
noncomputable def qm(EX:XS)(m:Vs->M Bool):TT:=λZ H Q=>∃U J s,aW K cA U H Z J/\aD K cA U H s/\Run K cA (m J) U H s (λd _ U' H'=>Q d H') (eX K cA EX Z)
def Rv(U:Ph)(H:Hp)(d:D)(v:V):Prop:=match d with
 |.fl xs=>∃a vs,v=.ref a/\cR K H a vs/\aB K cA U H xs vs
 |d=>Rep K cA U H d v
inductive xO (U:Ph) (H:Hp):List D->List V->Prop where
 |nil:xO U H [] []
 |cons {d:D} {v:V} {ds:List D} {vs:List V} (h:Rv K cA U H d v) (r:xO U H ds vs):xO U H (d::ds) (v::vs)
def bK(U:Ph)(H:Hp)(o:Option Rz)(Q:VK):Prop:=match o with
 |none=>False
 |some (.dat d)=>∀H' v,bG H H'->Rep K cA U H' d v->Q v H'
 |some (.nw xs)=>∀p vs,H p=none->aB K cA U H xs vs->Q (.ref p) (upd H p (.lst vs))
structure Zt(U:Ph)(H:Hp):Prop where
 lz:∀a∈U.l,U.z a
 zt:∀a,U.z a->∃o,H a=some o
def bH(p:Pr)(r:List V->Hp->VK->Prop):Prop:=∀(U:Ph) (H:Hp) (ds:List D) (vs:List V) (Q:VK),Zt U H->xO K cA U H ds vs->bK K cA U H (prim p ds) Q->r vs H Q
end
section
variable {K:W.Frag}{cA:Cl}{U U':Ph}{H H':Hp}{s:S}{Z:L2.St}{J:Vs}{EX:XS}
theorem aD.zs(h:aD K cA U H s):Zt U H:=⟨h.lz,h.zt⟩
theorem Zt.nz(h:Zt U H)(hp:H p=none):¬U.z p:=λz=>by obtain⟨o,e⟩:=h.zt p z;rw[hp] at e;cases e
theorem Rep.rv{d:D}{v:V}(h:Rep K cA U H d v):Rv K cA U H d v:=by
 cases h with
 |fl h r=>exact⟨_,_,rfl,h.sU,r⟩
 |non=>exact .non
 |bl b=>exact .bl b
 |int b=>exact .int b
 |str b=>exact .str b
 |tup h r=>exact .tup h r
 |fd h n=>exact .fd h n
 |exc h r=>exact .exc h r
 |ob h r=>exact .ob h r
 |any v=>exact .any v
theorem Run.bd{α β:Type}{m:M α}{k:α->M β}{P:β->S->Ph->Hp->Prop}{Ee:Nat->List D->S->Ph->Hp->Prop}(h:Run K cA (M.bd m k) U H s P Ee):Run K cA m U H s (λa s1 U1 H1=>Ext U H U1 H1/\aD K cA U1 H1 s1/\Run K cA (k a) U1 H1 s1 P Ee) Ee:=by
 unfold Run M.bd at *;cases e:m s with
 |none=>rw[e] at h;exact h
 |some r=>
  obtain⟨r,s1⟩:=r;rw[e] at h;cases r with
  |er c f=>exact h
  |ok a=>
   intro U1 H1 x1 r1;refine⟨x1,r1,?_⟩;dsimp only at h ⊢;cases e2:k a s1 with
   |none=>rw[e2] at h;exact h
   |some q=>
    obtain⟨q,s2⟩:=q;rw[e2] at h;cases q with
    |ok b=>exact λU2 H2 x2 r2=>h U2 H2 (x1.trans x2) r2
    |er c f=>exact λU2 H2 x2 r2=>h U2 H2 (x1.trans x2) r2
theorem Run.imp{α:Type}{m:M α}{P P':α->S->Ph->Hp->Prop}{Ee:Nat->List D->S->Ph->Hp->Prop}(h:Run K cA m U H s P Ee)(f:∀a s' U' H',P a s' U' H'->P' a s' U' H'):Run K cA m U H s P' Ee:=by
 unfold Run at *;split at h
 ·exact λU' H' x r=>f _ _ _ _ (h U' H' x r)
 ·exact h
 ·exact h
theorem Run.ext(x:Ext U H U' H')(h:Run K cA m U H s P Ee):Run K cA m U' H' s P Ee:=by
 unfold Run at *;split at h
 ·exact λU2 H2 y r=>h U2 H2 (x.trans y) r
 ·exact λU2 H2 y r=>h U2 H2 (x.trans y) r
 ·exact h.elim
theorem Run.bC{α:Type}{a:α}{P:α->S->Ph->Hp->Prop}{Ee:Nat->List D->S->Ph->Hp->Prop}(r:aD K cA U H s)(h:Run K cA (M.ret a) U H s P Ee):P a s U H:=h U H Ext.refl r
theorem Run.opt{α:Type}{o:Option α}{P:α->S->Ph->Hp->Prop}{Ee:Nat->List D->S->Ph->Hp->Prop}(r:aD K cA U H s)(h:Run K cA (M.opt o) U H s P Ee):∃a,o=some a/\P a s U H:=by
 cases o with
 |none=>exact h.elim
 |some a=>exact⟨a,rfl,h U H Ext.refl r⟩
theorem Run.m9(h:Run K cA (M.bd (M.opt o) k) U H s P Ee):∃a,o=some a/\Run K cA (k a) U H s P Ee:=by
 cases o with
 |none=>exact h.elim
 |some a=>exact⟨a,rfl,h⟩
theorem Jh{β:Type}{x:Xv}{v:V}{k:Bool->M β}{P:β->S->Ph->Hp->Prop}{Ee:Nat->List D->S->Ph->Hp->Prop}(r:aU K cA U H x v)(h:Run K cA (M.bd (bool x) k) U H s P Ee):∃b,x=.d (.bl b)/\v=.bl b/\Run K cA (k b) U H s P Ee:=by
 cases r with
 |l _=>exact h.elim
 |d r=>cases r with
  |bl b=>exact⟨b,rfl,rfl,h⟩
  |_=>exact h.elim
theorem Cq(r:aU K cA U H x v)(h:Run K cA (M.bd (int x) k) U H s P Ee):∃b,x=.d (.int b)/\v=.int b/\Run K cA (k b) U H s P Ee:=by
 cases r with
 |l _=>exact h.elim
 |d r=>cases r with
  |int b=>exact⟨b,rfl,rfl,h⟩
  |_=>exact h.elim
theorem M6(r:aU K cA U H x v)(h:Run K cA (M.bd (dat x) k) U H s P Ee):∃d,x=.d d/\Rep K cA U H d v/\Run K cA (k d) U H s P Ee:=by
 cases r with
 |l _=>exact h.elim
 |d r=>exact⟨_,rfl,r,h⟩
theorem RT:∀{xs:List Xv} {vs:List V} {k:List D->M β} {P:β->S->Ph->Hp->Prop} {Ee:Nat->List D->S->Ph->Hp->Prop},aR K cA U H xs vs->Run K cA (M.bd (cL xs) k) U H s P Ee->∃ds,xs=ds.map .d/\aB K cA U H ds vs/\Run K cA (k ds) U H s P Ee:=by
 intro xs
 induction xs with
 |nil=>intro vs k P Ee r h;cases r;exact⟨[],rfl,.nil,h⟩
 |cons x xs ih=>
  intro vs k P Ee r h;cases r with
  |cons a r=>
   cases a with
   |l _=>exact h.elim
   |@d y v a=>
    have h2:Run K cA (M.bd (cL xs) λds=>k (y::ds)) U H s P Ee:=by
     unfold Run M.bd cL dat at h;unfold Run M.bd;simp only[M.bd,M.ret] at h;cases e:cL xs s with
     |none=>simp only[e] at h
     |some q=>
      obtain⟨q,s1⟩:=q;simp only[e] at h;cases q with
      |ok ds=>exact h
      |er c f=>exact h
    obtain⟨ds,e,rs,h3⟩:=ih r h2;exact⟨y::ds,by rw[e];rfl,.cons a rs,h3⟩
theorem Ji(hS:aD K cA U H s)(r:aU K cA U H x v)(h:Run K cA (M.bd (rd x) k) U H s P Ee):∃d,Rv K cA U H d v/\Run K cA (k d) U H s P Ee:=by
 cases r with
 |d r=>exact⟨_,r.rv,h⟩
 |@l n a hl=>
  unfold Run M.bd rd at h;dsimp only at h;cases e:s[n]? with
  |none=>rw[e] at h;exact h.elim
  |some o=>
   rw[e] at h;cases o with
   |lst xs=>
    obtain⟨vs,q1,q2⟩:=hS.obj n _ _ e hl;exact⟨.fl xs,⟨a,vs,rfl,cR.of q1,q2⟩,h⟩
   |_=>exact h.elim
theorem gM{α β γ:Type}(m:M α)(f:α->M β)(g:β->M γ):M.bd (M.bd m f) g=M.bd m λx=>M.bd (f x) g:=by
 funext s
 unfold M.bd;cases m s with
 |none=>rfl
 |some r=>
  obtain⟨r,s1⟩:=r;cases r<;>rfl
theorem uP{β:Type}:∀{xs:List Xv} {vs:List V} {k:List D->M β} {P:β->S->Ph->Hp->Prop} {Ee:Nat->List D->S->Ph->Hp->Prop},aD K cA U H s->aR K cA U H xs vs->Run K cA (M.bd (g8 xs) k) U H s P Ee->∃ds,xO K cA U H ds vs/\Run K cA (k ds) U H s P Ee:=by
 intro xs
 induction xs with
 |nil=>intro vs k P Ee hS r h;cases r;exact⟨[],.nil,h⟩
 |cons x xs ih=>
  intro vs k P Ee hS r h;cases r with
  |cons a r=>
   have h2:Run K cA (M.bd (rd x) λd=>M.bd (g8 xs) λds=>k (d::ds)) U H s P Ee:=by
    have e:M.bd (g8 (x::xs)) k=M.bd (rd x) λd=>M.bd (g8 xs) λds=>k (d::ds):=by
     show M.bd (M.bd (rd x) λd=>M.bd (g8 xs) λds=>M.ret (d::ds)) k=_;rw[gM]
     congr 1
     funext d
     rw[gM];rfl
    rw[e] at h;exact h
   obtain⟨d,rd,h3⟩:=Ji hS a h2;obtain⟨ds,rs,h4⟩:=ih hS r h3;exact⟨d::ds,.cons rd rs,h4⟩
theorem tR{fz:Bool}{o:Option Rz}{Q:VK}{Ee:Nat->List D->S->Ph->Hp->Prop}(hS:aD K cA U H s)(h:Run K cA (cI fz o) U H s (λx _ U' H'=>∀v,aU K cA U' H' x v->Q v H') Ee):bK K cA U H o Q:=by
 cases o with
 |none=>exact h.elim
 |some z=>
  cases z with
  |dat d=>exact λH' v g r=>h U H' g.ext (hS.grow g) v (.d r)
  |nw xs=>
   intro p vs hp r;cases fz with
   |true=>exact h U _ (bG.new hp).ext (hS.grow (bG.new hp)) _ (.d (.fl (LstAt.new (hS.nz hp)) (r.mono (bG.new hp).ext hS.lz)))
   |false=>exact h (U.add p) _ (Ext.add hp) (hS.add hp r) _ (.l (by show (U.l++[p])[s.length]?=_;rw[<-hS.len];simp))
theorem X5{fz:Bool}{xs:List D}{Q:VK}{Ee:Nat->List D->S->Ph->Hp->Prop}(hS:aD K cA U H s)(h:Run K cA (newL fz xs) U H s (λx _ U' H'=>∀v,aU K cA U' H' x v->Q v H') Ee):∀p vs,H p=none->aB K cA U H xs vs->Q (.ref p) (upd H p (.lst vs)):=
 tR (o:=some (.nw xs)) hS h
theorem aX{β:Type}{ma:Vs->M Xv}{k:Xv->M β}{P:β->S->Ph->Hp->Prop}(hL:aW K cA U H Z J)(hS:aD K cA U H s)(h:Run K cA (M.bd (ma J) k) U H s P (eX K cA EX Z)){Q:VK}
  (f:∀x H1 U1 d s1,Ext U H U1 H1->aW K cA U1 H1 Z J->aD K cA U1 H1 s1->aU K cA U1 H1 d x->Run K cA (k d) U1 H1 s1 P (eX K cA EX Z)->Q x H1):tE K cA EX ma Z H Q:=
 ⟨U,J,s,hL,hS,h.bd.imp λd s1 U1 H1 ⟨x1,r1,h1⟩ v rv=>f v H1 U1 d s1 x1 (hL.mono x1 hS.lz) r1 rv h1⟩
theorem oO{β:Type}{ma:Vs->M (List Xv)}{k:List Xv->M β}{P:β->S->Ph->Hp->Prop}(hL:aW K cA U H Z J)(hS:aD K cA U H s)(h:Run K cA (M.bd (ma J) k) U H s P (eX K cA EX Z)){Q:List V->Hp->Prop}
  (f:∀x H1 U1 d s1,Ext U H U1 H1->aW K cA U1 H1 Z J->aD K cA U1 H1 s1->aR K cA U1 H1 d x->Run K cA (k d) U1 H1 s1 P (eX K cA EX Z)->Q x H1):RQ K cA EX ma Z H Q:=
 ⟨U,J,s,hL,hS,h.bd.imp λd s1 U1 H1 ⟨x1,r1,h1⟩ v rv=>f v H1 U1 d s1 x1 (hL.mono x1 hS.lz) r1 rv h1⟩
theorem xP(hL:aW K cA U H Z J)(hS:aD K cA U H s)(h:Run K cA (M.bd (ma J) k) U H s P (eX K cA EX Z))
  (f:∀b H1 U1 s1,Ext U H U1 H1->aW K cA U1 H1 Z J->aD K cA U1 H1 s1->Run K cA (k b) U1 H1 s1 P (eX K cA EX Z)->Q b H1):qm K cA EX ma Z H Q:=
 ⟨U,J,s,hL,hS,h.bd.imp λd s1 U1 H1 ⟨x1,r1,h1⟩=>f d H1 U1 s1 x1 (hL.mono x1 hS.lz) r1 h1⟩
end
section
variable (X:Cx)(cA:Cl)(aq:Nat->Nat->Bool)(aj:Bool)(F:Fn)(EX:XS)
def SE(e:Expr)(m:E):Prop:=PE X e (tE X.K cA EX (ev aq aj F m))
def SA(es:List Expr)(m:Es):Prop:=PA X es (RQ X.K cA EX (evs aq aj F m))
def ST(e:Expr)(m:E):Prop:=PT X e (qm X.K cA EX (λJ=>M.bd (ev aq aj F m J) bool))
def SW(e:Expr)(m:E):Prop:=PW X e (qm X.K cA EX (λJ=>M.bd (ev aq aj F m J) bool))
end
section
variable {X:Cx}{cA:Cl}{aq:Nat->Nat->Bool}{aj:Bool}{F:Fn}{EX:XS}{a b c d e:Expr}{A B C Dd E':E}{pos:Pos}{es:List Expr}{Xs:Es}{fz:Bool}{p:Pr}
theorem PE.weak{t t':TE}(h:PE X e t)(f:∀Z H Q,t' Z H Q->t Z H Q):PE X e t':=λao s Z H Q I q=>h ao s Z H Q I (f Z H Q q)
theorem PT.weak{t t':TT}(h:PT X e t)(f:∀Z H Q,t' Z H Q->t Z H Q):PT X e t':=λao s Z H Q I q=>h ao s Z H Q I (f Z H Q q)
theorem PW.weak{t t':TT}(h:PW X e t)(f:∀Z H Q,t' Z H Q->t Z H Q):PW X e t':=λwh ao s Z H Q I q=>h wh ao s Z H Q I (f Z H Q q)
theorem PA.weak{t t':TA}(h:PA X es t)(f:∀Z H Q,t' Z H Q->t Z H Q):PA X es t':=λp ao s Z H Q I q=>h p ao s Z H Q I (f Z H Q q)
theorem zky{i j p}:SE X cA aq aj F EX (.Constant (.int i) j p) (.c (.int i)):=PE.weak zlc λZ H Q hh=>un hh λU J s hL hS h=>h.bC hS _ (.d (.int i))
theorem zm5{i j p}:SE X cA aq aj F EX (.Constant (.bool i) j p) (.c (.bl i)):=PE.weak zm1 λZ H Q hh=>un hh λU J s hL hS h=>h.bC hS _ (.d (.bl i))
theorem zkY{j p}:SE X cA aq aj F EX (.Constant .none j p) (.c .non):=PE.weak zmf λZ H Q hh=>un hh λU J s hL hS h=>h.bC hS _ (.d .non)
theorem M7{α:Type}{o:Option (Option α)}{x:α}(h:o.join=some x):o=some (some x):=by
 cases o with
 |none=>cases h
 |some y=>cases y with
  |none=>cases h
  |some z=>cases h;rfl
theorem X6(i:Nat){x:Str}(hN:X.N[i]?=some x:=by rfl)(hv:Lx X.env.scope x:=by first|exact Or.inl rfl|exact Or.inr (Or.inl rfl)|exact Or.inr (Or.inr rfl))(hd:(x==("__debug__" : Str))=false:=by decide)
  (iC:(x==("__classdict__" : Str))=false:=by decide):SE X cA aq aj F EX (.Name x pos) (.v i):=PE.weak (Wn hN hv hd iC) λZ H Q hh=>un hh λU J s hL hS h=>by
 obtain⟨dd,e1,q⟩:=Run.opt hS h;obtain⟨v,q1,q2⟩:=hL.2 i dd (M7 e1);exact⟨v,q1,q v q2⟩
theorem zka{x:Str}{i:Int}{t:Tok}(hg:Gl X x)(hm:X.mg x=some (.int i t))(hd:(x==("__debug__" : Str))=false:=by decide):SE X cA aq aj F EX (.Name x pos) (.c (.int i)):=PE.weak (zj4 (v:=.int i) hg hm ⟨t,rfl⟩ hd) λZ H Q hh=>un hh λU J s hL hS h=>h.bC hS _ (.d (.int i))
theorem zlr:SA X cA aq aj F EX [] .nil:=PA.weak wV λZ H Q hh=>un hh λU J s hL hS h=>h.bC hS _ .nil
theorem zjI(ha:SE X cA aq aj F EX a A)(hr:SA X cA aq aj F EX es Xs)(hs:starEach (a::es) X.env=(false,eval a X.env)::starEach es X.env:=by rfl):SA X cA aq aj F EX (a::es) (.cons A Xs):=PA.weak (rQ ha hr hs) λZ H Q hh=>un hh λU J s hL hS h=>by
 refine aX hL hS h λx H1 U1 d1 s1 x1 hL1 aG r1 h1=>oO hL1 aG h1 λys H2 U2 d2 s2 x2 hL2 aM r2 h2=>h2.bC aM _ (.cons (r1.mono x2 aG.lz) r2)
theorem M8{U U1 U2:Ph}{H1 H2:Hp}{s1 s2:S}{d1 d2:Xv}{x y:V}{Q:VK}{Ee:Nat->List D->S->Ph->Hp->Prop}(x2:Ext U1 H1 U2 H2)(aG:aD X.K cA U1 H1 s1)(aM:aD X.K cA U2 H2 s2)(r1:aU X.K cA U1 H1 d1 x)(r2:aU X.K cA U2 H2 d2 y)
  (h:Run X.K cA (M.bd (g8 [d1,d2]) λds=>cI fz (prim p ds)) U2 H2 s2 (λx _ U' H'=>∀v,aU X.K cA U' H' x v->Q v H') Ee) {r:List V->Hp->VK->Prop} (hp:bH X.K cA p r):r [x,y] H2 Q:=by
 obtain⟨ds,rs,h2⟩:=uP aM (.cons (r1.mono x2 aG.lz) (.cons r2 .nil)) h;exact hp U2 H2 ds _ Q aM.zs rs (tR aM h2)
noncomputable def r2(r:R2):List V->Hp->VK->Prop:=λvs H Q=>∃x y,vs=[x,y]/\r x y H Q
theorem EY{r:R2}{x y:V}{H:Hp}{Q:VK}(h:r2 r [x,y] H Q):r x y H Q:=by
 obtain⟨_,_,e,q⟩:=h;cases e;exact q
theorem zlE{op:Operator}{r:R2}(ho:fO X (binaryOp op) r)(hp:bH X.K cA p (r2 r))(ha:SE X cA aq aj F EX a A)(hb:SE X cA aq aj F EX b B):SE X cA aq aj F EX (.BinOp a op b pos) (.pr fz p (.cons A (.cons B .nil))):=PE.weak (znr ho ha hb) λZ H Q hh=>un hh λU J s hL hS h=>by
 have h:Run X.K cA (M.bd (M.bd (ev aq aj F A J) λx=>M.bd (M.bd (ev aq aj F B J) λy=>M.bd (M.ret []) λz=>M.ret (y::z)) λys=>M.ret (x::ys)) λvs=>M.bd (g8 vs) λds=>cI fz (prim p ds)) U H s _ _:=h;simp only[gM] at h;refine aX hL hS h λx H1 U1 d1 s1 x1 hL1 aG r1 h1=>aX hL1 aG h1 λy H2 U2 d2 s2 x2 hL2 aM r2' h2=>?_;exact EY (M8 (fz:=fz) (U:=U) x2 aG aM r1 r2' h2 hp)
theorem zkq{op:CmpOp}{r:R2}(ho:fO X (compareOp op) r)(hp:bH X.K cA p (r2 r))(ha:SE X cA aq aj F EX a A)(hb:SE X cA aq aj F EX b B)(hm:behindInMarks op b=false):SE X cA aq aj F EX (.Compare a [op] [b] pos) (.pr true p (.cons A (.cons B .nil))):=PE.weak (zjp ho ha hb hm) λZ H Q hh=>un hh λU J s hL hS h=>by
 have h:Run X.K cA (M.bd (M.bd (ev aq aj F A J) λx=>M.bd (M.bd (ev aq aj F B J) λy=>M.bd (M.ret []) λz=>M.ret (y::z)) λys=>M.ret (x::ys)) λvs=>M.bd (g8 vs) λds=>cI true (prim p ds)) U H s _ _:=h;simp only[gM] at h;refine aX hL hS h λx H1 U1 d1 s1 x1 hL1 aG r1 h1=>aX hL1 aG h1 λy H2 U2 d2 s2 x2 hL2 aM r2' h2=>?_;exact EY (M8 (fz:=true) (U:=U) x2 aG aM r1 r2' h2 hp)
theorem iT{A B:Prop}(h:A):if true=true then A else B:=by rw[if_pos rfl];exact h
theorem iF{A B:Prop}(h:B):if false=true then A else B:=by rw[if_neg Gm];exact h
theorem zl1{op:CmpOp}{r:R2}(ho:fO X (compareOp op) r)(hp:bH X.K cA p (r2 r))(ha:SE X cA aq aj F EX a A)(hb:SE X cA aq aj F EX b B)(hm:behindInMarks op b=false):ST X cA aq aj F EX (.Compare a [op] [b] pos) (.pr true p (.cons A (.cons B .nil))):=PT.weak (zi6 ho ha hb hm) λZ H Q hh=>un hh λU J s hL hS h=>by
 have h:Run X.K cA (M.bd (M.bd (M.bd (ev aq aj F A J) λx=>M.bd (M.bd (ev aq aj F B J) λy=>M.bd (M.ret []) λz=>M.ret (y::z)) λys=>M.ret (x::ys)) λvs=>M.bd (g8 vs) λds=>cI true (prim p ds)) bool) U H s _ _:=h;simp only[gM] at h;refine aX hL hS h λx H1 U1 d1 s1 x1 hL1 aG r1 h1=>aX hL1 aG h1 λy H2 U2 d2 s2 x2 hL2 aM r2' h2=>?_;obtain⟨ds,rs,h3⟩:=uP aM (.cons (r1.mono x2 aG.lz) (.cons r2' .nil)) h2;refine EY (hp U2 H2 ds _ _ aM.zs rs (tR (Ee:=eX X.K cA EX Z) aM (h3.bd.imp λt s3 U3 H3 ⟨x3,fU,h4⟩ v rv=>?_)));cases rv with
 |l _=>exact h4.elim
 |d rv=>cases rv with
  |bl k=>exact⟨k,rfl,h4 U3 H3 Ext.refl fU⟩
  |_=>exact h4.elim
theorem zlw{op op':CmpOp}{r r':R2}{q:Pr}(ho:fO X (compareOp op) r)(hp:bH X.K cA p (r2 r))(pN:fO X (compareOp op') r')(hp':bH X.K cA q (r2 r'))(ha:SE X cA aq aj F EX a A)(hb:SE X cA aq aj F EX b B)(hc:SE X cA aq aj F EX c C)(hm:lastMarks [op,op'] [b,c]=false:=by with_unfolding_all rfl) :
  SE X cA aq aj F EX (.Compare a [op,op'] [b,c] pos) (.xK p q A B C):=PE.weak (zhm ho pN ha hb hc hm) λZ H Q hh=>un hh λU J s hL hS h=>by
 refine aX hL hS h λx H1 U1 d1 s1 x1 hL1 aG r1 h1=>aX hL1 aG h1 λy H2 U2 d2 s2 x2 hL2 aM r2' h2=>?_;obtain⟨ds,rs,h3⟩:=uP aM (.cons (r1.mono x2 aG.lz) (.cons r2' .nil)) h2;refine EY (hp U2 H2 ds _ _ aM.zs rs (tR (Ee:=eX X.K cA EX Z) aM (h3.bd.imp λt s3 U3 H3 ⟨x3,fU,h4⟩ v rv=>?_)));obtain⟨k,_,e,h5⟩:=Jh rv h4;refine⟨k,e,?_⟩;cases k with
 |false=>exact iF (h5.bC fU _ (.d (.bl _)))
 |true=>
  have nO:=hL2.mono x3 aM.lz;refine iT (aX nO fU h5 λz H4 U4 d4 s4 x4 hL4 qY r4 h6=>?_);exact EY (M8 (fz:=true) (U:=U) x4 fU qY (r2'.mono x3 aM.lz) r4 h6 hp')
theorem zma(ha:SE X cA aq aj F EX a A):SE X cA aq aj F EX (.UnaryOp .Not a pos) (.not A):=PE.weak (zlP ha) λZ H Q hh=>un hh λU J s hL hS h=>by
 refine aX hL hS h λx H1 U1 d1 s1 x1 hL1 aG r1 h1=>?_;obtain⟨i,_,e,h3⟩:=Jh r1 h1;exact⟨i,e,h3.bC aG _ (.d (.bl _))⟩
theorem zlx{op}(ha:SE X cA aq aj F EX a A):SE X cA aq aj F EX (.BoolOp op [a] pos) A:=zlQ ha
theorem zle{rest:List Expr}(ha:SE X cA aq aj F EX a A)(hb:SE X cA aq aj F EX (.BoolOp .And (b::rest) pos) B):SE X cA aq aj F EX (.BoolOp .And (a::b::rest) pos) (.and A B):=PE.weak (zkz ha hb) λZ H Q hh=>un hh λU J s hL hS h=>by
 refine aX hL hS h λx H1 U1 d1 s1 x1 hL1 aG r1 h1=>?_;obtain⟨i,_,e,h3⟩:=Jh r1 h1;refine⟨i,e,?_⟩;cases i with
 |true=>exact iT ⟨U1,J,s1,hL1,aG,h3⟩
 |false=>exact iF (h3.bC aG _ (.d (.bl _)))
theorem znN{rest:List Expr}(ha:SE X cA aq aj F EX a A)(hb:SE X cA aq aj F EX (.BoolOp .Or (b::rest) pos) B):SE X cA aq aj F EX (.BoolOp .Or (a::b::rest) pos) (.or A B):=PE.weak (znF ha hb) λZ H Q hh=>un hh λU J s hL hS h=>by
 refine aX hL hS h λx H1 U1 d1 s1 x1 hL1 aG r1 h1=>?_;obtain⟨i,_,e,h3⟩:=Jh r1 h1;refine⟨i,e,?_⟩;cases i with
 |true=>exact iT (h3.bC aG _ (.d (.bl _)))
 |false=>exact iF ⟨U1,J,s1,hL1,aG,h3⟩
end
section
variable {X:Cx}{cA:Cl}{aq:Nat->Nat->Bool}{aj:Bool}{F:Fn}{EX:XS}{a b c d e o:Expr}{A B C Dd E' O:E}{pos pp p2 apos:Pos}{es:List Expr}{Xs:Es}{fz:Bool}{p:Pr}{x:Str}
theorem zms(ha:SE X cA aq aj F EX a A)(he:∀whole,isTrue a X.env whole=(do let v <-whole;standAt a.pos;holding [v] (truthy v)):=by intro _;rfl):ST X cA aq aj F EX a A:=PT.weak (zlH ha he) λZ H Q hh=>un hh λU J s hL hS h=>by
 refine aX hL hS h λx H1 U1 d1 s1 x1 hL1 aG r1 h1=>?_;have h1:Run X.K cA (M.bd (bool d1) M.ret) U1 H1 s1 (λd _ U' H'=>Q d H') (eX X.K cA EX Z):=by
  cases d1 with
  |l n=>exact h1
  |d v=>cases v<;>exact h1
 obtain⟨k,_,e,q⟩:=Jh r1 h1;exact⟨k,e,q.bC aG⟩
theorem zhK{m:M Xv}{g:Bool->Bool}:M.bd (M.bd m λx=>M.bd (bool x) λk=>M.ret (Xv.d (.bl (g k)))) bool=M.bd (M.bd m bool) λk=>M.ret (g k):=by
 rw[gM,gM]
 congr 1
 funext x
 rw[gM];rfl
theorem zmp(ha:ST X cA aq aj F EX a A):ST X cA aq aj F EX (.UnaryOp .Not a pos) (.not A):=PT.weak (zkS ha) λZ H Q hh=>un hh λU J s hL hS h=>by
 have h:Run X.K cA (M.bd (M.bd (ev aq aj F A J) λx=>M.bd (bool x) λk=>M.ret (Xv.d (.bl (!k)))) bool) U H s _ _:=h;rw[zhK (g:=λk=>!k)] at h;exact xP hL hS h λk H1 U1 s1 x1 hL1 aG h1=>h1.bC aG
theorem zjv(ha:ST X cA aq aj F EX a A):SW X cA aq aj F EX (.BoolOp .And [a] pos) A:=zjg ha
theorem zmj(ha:ST X cA aq aj F EX a A):SW X cA aq aj F EX (.BoolOp .Or [a] pos) A:=zlo ha
theorem X7{m:M Xv}{k:Bool->M Xv}:M.bd (M.bd m λx=>M.bd (bool x) k) bool=M.bd (M.bd m bool) λb=>M.bd (k b) bool:=by
 rw[gM,gM]
 congr 1
 funext x
 rw[gM]
theorem zlU{rest:List Expr}(ha:ST X cA aq aj F EX a A)(hb:SW X cA aq aj F EX (.BoolOp .And (b::rest) pos) B):SW X cA aq aj F EX (.BoolOp .And (a::b::rest) pos) (.and A B):=PW.weak (zk2 ha hb) λZ H Q hh=>un hh λU J s hL hS h=>by
 have h:Run X.K cA (M.bd (M.bd (ev aq aj F A J) λx=>M.bd (bool x) λk=>if k=true then ev aq aj F B J else M.ret (Xv.d (.bl false))) bool) U H s _ _:=h;rw[X7] at h;refine xP hL hS h λk H1 U1 s1 x1 hL1 aG h3=>?_;cases k with
 |true=>exact iT ⟨U1,J,s1,hL1,aG,h3⟩
 |false=>exact iF (Run.bC aG (a:=false) h3)
theorem zmL{rest:List Expr}(ha:ST X cA aq aj F EX a A)(hb:SW X cA aq aj F EX (.BoolOp .Or (b::rest) pos) B):SW X cA aq aj F EX (.BoolOp .Or (a::b::rest) pos) (.or A B):=PW.weak (zm4 ha hb) λZ H Q hh=>un hh λU J s hL hS h=>by
 have h:Run X.K cA (M.bd (M.bd (ev aq aj F A J) λx=>M.bd (bool x) λk=>if k=true then M.ret (Xv.d (.bl true)) else ev aq aj F B J) bool) U H s _ _:=h;rw[X7] at h;refine xP hL hS h λk H1 U1 s1 x1 hL1 aG h3=>?_;cases k with
 |true=>exact iT (Run.bC aG (a:=true) h3)
 |false=>exact iF ⟨U1,J,s1,hL1,aG,h3⟩
theorem zoh(h:SW X cA aq aj F EX a A):ST X cA aq aj F EX a A:=Kad h
theorem ziW:(M.bd m λx=>M.bd (bool x) k)=M.bd (M.bd m bool) k:=by rw[gM]
theorem zlt(hc:ST X cA aq aj F EX c C)(ha:SE X cA aq aj F EX a A)(hb:SE X cA aq aj F EX b B):SE X cA aq aj F EX (.IfExp c a b pos) (.ite C A B):=PE.weak (zhi hc ha hb) λZ H Q hh=>un hh λU J s hL hS h=>by
 have h:Run X.K cA (M.bd (ev aq aj F C J) λx=>M.bd (bool x) λk=>if k=true then ev aq aj F A J else ev aq aj F B J) U H s _ _:=h;rw[ziW] at h;refine xP hL hS h λk H1 U1 s1 x1 hL1 aG h3=>?_;cases k with
 |true=>exact iT ⟨U1,J,s1,hL1,aG,h3⟩
 |false=>exact iF ⟨U1,J,s1,hL1,aG,h3⟩
theorem X8:∀(Xs:Es) (J:Vs) (s:S) (ds:List Xv) (s':S),evs aq aj F Xs J s=some (.ok ds,s')->ds.length=Es.len Xs
 |.nil,J,s,ds,s',h=>by cases h;rfl
 |.cons a r,J,s,ds,s',h=>by
  have h:M.bd (ev aq aj F a J) (λx=>M.bd (evs aq aj F r J) λxs=>M.ret (x::xs)) s=some (.ok ds,s'):=h;unfold M.bd at h;cases e1:ev aq aj F a J s with
  |none=>rw[e1] at h;cases h
  |some q=>
   obtain⟨q,s1⟩:=q;rw[e1] at h;cases q with
   |er c f=>cases h
   |ok d=>
    dsimp only at h;cases e2:evs aq aj F r J s1 with
    |none=>rw[e2] at h;cases h
    |some q=>
     obtain⟨q,s2⟩:=q;rw[e2] at h;cases q with
     |er c f=>cases h
     |ok ds'=>
      cases h;rw[gW,X8 r J s1 ds' _ e2];rfl
theorem Jj{β:Type}{K:W.Frag}{U:Ph}{H:Hp}{s:S}{Z:L2.St}{J:Vs}{k:List Xv->M β}{P:β->S->Ph->Hp->Prop}(hL:aW K cA U H Z J)(hS:aD K cA U H s)(h:Run K cA (M.bd (evs aq aj F Xs J) k) U H s P (eX K cA EX Z)){Q:List V->Hp->Prop}
  (f:∀x H1 U1 d s1,d.length=Es.len Xs->Ext U H U1 H1->aW K cA U1 H1 Z J->aD K cA U1 H1 s1->aR K cA U1 H1 d x->Run K cA (k d) U1 H1 s1 P (eX K cA EX Z)->Q x H1):RQ K cA EX (evs aq aj F Xs) Z H Q:=by
 refine⟨U,J,s,hL,hS,?_⟩;have h2:=h.bd;unfold Run at h2 ⊢;cases e:evs aq aj F Xs J s with
 |none=>rw[e] at h2;exact h2
 |some r=>
  obtain⟨r,s1⟩:=r;rw[e] at h2;cases r with
  |er c f=>exact h2
  |ok ds=>
   intro U1 H1 x1 r1 v rv;obtain⟨_,_,h3⟩:=h2 U1 H1 x1 r1;exact f v H1 U1 ds s1 (X8 Xs J s ds s1 e) x1 (hL.mono x1 hS.lz) r1 rv h3
theorem zl7{k}(ha:SA X cA aq aj F EX es Xs)(hz:Es.len Xs<=sizeLine):SE X cA aq aj F EX (.Tuple es k pos) (.tup Xs):=PE.weak (zko ha) λZ H Q hh=>un hh λU J s hL hS h=>by
 refine Jj hL hS h λvs H1 U1 xs s1 hl x1 hL1 aG rv h1=>?_;obtain⟨ds,e,rs,h2⟩:=RT rv h1;refine⟨by rw[<-rv.len,hl];exact hz,λp hp=>?_⟩;exact h2 U1 (upd H1 p (.tup vs)) (bG.new hp).ext (aG.grow (bG.new hp)) _ (.d (.tup (TupAt.new (aG.nz hp)) (rs.mono (bG.new hp).ext aG.lz)))
theorem zlp(ha:SA X cA aq aj F EX es Xs)(hz:Es.len Xs<=sizeLine):SE X cA aq aj F EX (.List es pos) (.lst fz Xs):=PE.weak (zmm ha) λZ H Q hh=>un hh λU J s hL hS h=>by
 refine Jj hL hS h λvs H1 U1 xs s1 hl x1 hL1 aG rv h1=>?_;obtain⟨ds,e,rs,h2⟩:=RT rv h1;exact⟨by rw[<-rv.len,hl];exact hz,λp hp=>X5 aG h2 p vs hp rs⟩
theorem zL{id:String}{r:List V->Hp->VK->Prop}(hc:cZ X (.builtin id) r)(hp:bH X.K cA p r)
  (hg:Gl X x) (hm:X.mg x=none) (hv:bootBuiltins x=some (.builtin id)) (ha:SA X cA aq aj F EX (e::es) Xs) (hn:x≠"__name__":=by decide) (rT:(x==("__debug__" : Str))=false:=by decide)
  (he:starEach (e::es) X.env=(false,eval e X.env)::starEach es X.env:=by rfl) (cT:(backTo pos (starEach es X.env)).any (·.1)=false:=by rfl):SE X cA aq aj F EX (.Call (.Name x pp) (e::es) [] pos) (.pr fz p Xs):=PE.weak (W3 hc hg hm hv ha hn rT he cT) λZ H Q hh=>un hh λU J s hL hS h=>
 oO hL hS h λvs H1 U1 ds s1 x1 hL1 aG r1 h1=>by
  obtain⟨ds,rs,h3⟩:=uP aG r1 h1;exact hp U1 H1 ds _ _ aG.zs rs (tR aG h3)
theorem RV{id:String}{r:List V->Hp->VK->Prop}(hc:cZ X (.type id) r)(hp:bH X.K cA p r)
  (hg:Gl X x) (hm:X.mg x=none) (hv:bootBuiltins x=some (.type id)) (ha:SA X cA aq aj F EX (e::es) Xs) (hn:x≠"__name__":=by decide) (rT:(x==("__debug__" : Str))=false:=by decide)
  (he:starEach (e::es) X.env=(false,eval e X.env)::starEach es X.env:=by rfl) (cT:(backTo pos (starEach es X.env)).any (·.1)=false:=by rfl):SE X cA aq aj F EX (.Call (.Name x pp) (e::es) [] pos) (.pr fz p Xs):=PE.weak (zgN hc hg hm hv ha hn rT he cT) λZ H Q hh=>un hh λU J s hL hS h=>
 oO hL hS h λvs H1 U1 ds s1 x1 hL1 aG r1 h1=>by
  obtain⟨ds,rs,h3⟩:=uP aG r1 h1;exact hp U1 H1 ds _ _ aG.zs rs (tR aG h3)
theorem zmJ(hp:bH X.K cA p (r2 (QK X.K)))(ha:SE X cA aq aj F EX a A)(hb:SE X cA aq aj F EX b B)(hs:qR b:=by intro _ _;rfl):SE X cA aq aj F EX (.Subscript a b pos) (.pr true p (.cons A (.cons B .nil))):=PE.weak (zno zlg ha hb hs) λZ H Q hh=>un hh λU J s hL hS h=>by
 have h:Run X.K cA (M.bd (M.bd (ev aq aj F A J) λx=>M.bd (M.bd (ev aq aj F B J) λy=>M.bd (M.ret []) λz=>M.ret (y::z)) λys=>M.ret (x::ys)) λvs=>M.bd (g8 vs) λds=>cI true (prim p ds)) U H s _ _:=h;simp only[gM] at h;refine aX hL hS h λx H1 U1 d1 s1 x1 hL1 aG r1 h1=>aX hL1 aG h1 λy H2 U2 d2 s2 x2 hL2 aM r2' h2=>?_;exact EY (M8 (fz:=true) (U:=U) x2 aG aM r1 r2' h2 hp)
theorem zna(ho:Mg X (unaryOp op) r)(hp:bH X.K cA p (λvs H Q=>∃x,vs=[x]/\r x H Q))(ha:SE X cA aq aj F EX a A):SE X cA aq aj F EX (.UnaryOp op a pos) (.pr true p (.cons A .nil)):=PE.weak (zmR ho ha) λZ H Q hh=>un hh λU J s hL hS h=>by
 have h:Run X.K cA (M.bd (M.bd (ev aq aj F A J) λx=>M.bd (M.ret []) λz=>M.ret (x::z)) λvs=>M.bd (g8 vs) λds=>cI true (prim p ds)) U H s _ _:=h;simp only[gM] at h;refine aX hL hS h λx H1 U1 d1 s1 x1 hL1 aG r1 h1=>?_;obtain⟨ds,rs,h3⟩:=uP aG (.cons r1 .nil) h1;obtain⟨_,e,q⟩:=hp U1 H1 ds _ _ aG.zs rs (tR aG h3);cases e;exact q
theorem zmi{j p'}(ha:SE X cA aq aj F EX a A):SE X cA aq aj F EX (.Compare a [.Is] [.Constant .none j p'] pos) (.pr true .xH (.cons A .nil)):=PE.weak (Wr (Wo ha)) λZ H Q hh=>un hh λU J s hL hS h=>by
 have h:Run X.K cA (M.bd (M.bd (ev aq aj F A J) λx=>M.bd (M.ret []) λz=>M.ret (x::z)) λvs=>M.bd (g8 vs) λds=>cI true (prim .xH ds)) U H s _ _:=h;simp only[gM] at h;refine aX hL hS h λx H1 U1 d1 s1 x1 hL1 aG r1 h1=>?_;obtain⟨ds,rs,h3⟩:=uP aG (.cons r1 .nil) h1;cases rs with
 |cons r rs=>cases rs with
  |nil=>
   rename_i d;have h4:=tR aG h3;have q:=h4 H1 _ bG.refl (.bl _);cases d<;>first
    |(obtain⟨_,_,rfl,_,_⟩:=r;exact q)
    |(cases (show Rep _ _ _ _ _ x from r)<;>exact q)
theorem ziL{j p'}(ha:SE X cA aq aj F EX a A):SE X cA aq aj F EX (.Compare a [.IsNot] [.Constant .none j p'] pos) (.pr true .rZ (.cons A .nil)):=PE.weak (Wr (Wq ha)) λZ H Q hh=>un hh λU J s hL hS h=>by
 have h:Run X.K cA (M.bd (M.bd (ev aq aj F A J) λx=>M.bd (M.ret []) λz=>M.ret (x::z)) λvs=>M.bd (g8 vs) λds=>cI true (prim .rZ ds)) U H s _ _:=h;simp only[gM] at h;refine aX hL hS h λx H1 U1 d1 s1 x1 hL1 aG r1 h1=>?_;obtain⟨ds,rs,h3⟩:=uP aG (.cons r1 .nil) h1;cases rs with
 |cons r rs=>cases rs with
  |nil=>
   rename_i d;have h4:=tR aG h3;have q:=h4 H1 _ bG.refl (.bl _);cases d<;>first
    |(obtain⟨_,_,rfl,_,_⟩:=r;exact q)
    |(cases (show Rep _ _ _ _ _ x from r)<;>exact q)
theorem X_(q:Pr)(hq:prim q=Cd f)(hh:qm X.K cA EX (λJ=>M.bd (ev aq aj F (.pr true q (.cons A .nil)) J) bool) Z H Q):tE X.K cA EX (ev aq aj F A) Z H λx H1=>Q (f (decide (x=.non))) H1:=un hh λU J s hL hS h=>by
 have h:Run X.K cA (M.bd (M.bd (M.bd (ev aq aj F A J) λx=>M.bd (M.ret []) λz=>M.ret (x::z)) λvs=>M.bd (g8 vs) λds=>cI true (prim q ds)) bool) U H s _ _:=h;simp only[gM] at h;refine aX hL hS h λx H1 U1 d1 s1 x1 hL1 aG r1 h1=>?_;obtain⟨ds,rs,h3⟩:=uP aG (.cons r1 .nil) h1;cases rs with
 |cons r rs=>cases rs with
  |nil=>
   rename_i d;rw[hq] at h3;have h4:Run X.K cA (M.bd (M.ret (Xv.d (.bl (f d.uM)))) bool) U1 H1 s1 (λd _ U' H'=>Q d H') (eX X.K cA EX Z):=h3;have q:=h4 U1 H1 Ext.refl aG;cases d<;>first
    |(obtain⟨_,_,rfl,_,_⟩:=r;exact q)
    |(cases (show Rep _ _ _ _ _ x from r)<;>exact q)
theorem zlf{j p'}(ha:SE X cA aq aj F EX a A):ST X cA aq aj F EX (.Compare a [.Is] [.Constant .none j p'] pos) (.pr true .xH (.cons A .nil)):=PT.weak (LC (Wo ha)) λZ H Q hh=>by
 have:=X_ .xH (f:=id) rfl hh;obtain⟨U,J,s,a,b,c⟩:=this;exact⟨U,J,s,a,b,c.imp λd s' U' H' k v rv=>⟨_,rfl,k v rv⟩⟩
theorem zjl{j p'}(ha:SE X cA aq aj F EX a A):ST X cA aq aj F EX (.Compare a [.IsNot] [.Constant .none j p'] pos) (.pr true .rZ (.cons A .nil)):=PT.weak (LC (Wq ha)) λZ H Q hh=>by
 have:=X_ .rZ (f:=not) rfl hh;obtain⟨U,J,s,a,b,c⟩:=this;exact⟨U,J,s,a,b,c.imp λd s' U' H' k v rv=>⟨_,rfl,k v rv⟩⟩
theorem zhQ{K:W.Frag}{U:Ph}{H:Hp}{s:S}{x:Xv}{v:V}{Q:Bool->Hp->Prop}{Ee:Nat->List D->S->Ph->Hp->Prop}(hS:aD K cA U H s)(r:aU K cA U H x v)(h:Run K cA (bool x) U H s (λd _ U' H'=>Q d H') Ee):∃k,v=.bl k/\Q k H:=by
 cases r with
 |l _=>exact h.elim
 |d rv=>cases rv with
  |bl k=>exact⟨k,rfl,h U H Ext.refl hS⟩
  |_=>exact h.elim
end
mutual
inductive Is (h:Heap):D->Value->Prop where
 |non:Is h .non .none
 |bl (b:Bool):Is h (.bl b) (.bool b)
 |int (i:Int) (t:Tok):Is h (.int i) (.int i t)
 |str (x:Str) (t:Tok):Is h (.str x) (.str x t)
 |tup {a:Addr} {xs:List D} {its:List Value} (p:h.IsTuple a its.toArray) (r:jq h xs its):Is h (.tup xs) (.ref a)
 |fl {a:Addr} {xs:List D} {its:List Value} (p:h.IsList a its.toArray) (r:jq h xs its):Is h (.fl xs) (.ref a)
 |oth {d:D} {u:Value} (k:kq d=none):Is h d u
inductive jq (h:Heap):List D->List Value->Prop where
 |nil:jq h [] []
 |cons {d:D} {u:Value} {ds:List D} {us:List Value} (a:Is h d u) (r:jq h ds us):jq h (d::ds) (u::us)
end
section
variable {X:Cx}{cA:Cl}{ao:List (Addr×Obj)}{Z:L2.St}{H:Hp}{s:Shared}{U:Ph}{h:Heap}
theorem RW(I:Inv X ao Z H s){ds:List D}{vs:List V}{us:List Value}(h:aB X.K cA U H ds vs)(r:Vals vs us):jq s.heap ds us:=
 aB.rec (motive_1:=λd v _=>∀{u:Value},RelV v u->Is s.heap d u) (motive_2:=λd v _=>∀{u:List Value},Vals v u->jq s.heap d u) (λr=>by cases r;exact .non) (λb _ r=>by cases r;exact .bl b) (λi _ r=>by obtain⟨t,rfl⟩:=r;exact .int i t) (λi _ r=>by obtain⟨t,rfl⟩:=r;exact .str i t)
 (λh _ ih _ r=>by
  cases r;obtain⟨its,rv,ht,_⟩:=I.tuple h.jG;exact .tup ht (ih rv))
 (λh _ ih _ r=>by
  cases r;obtain⟨its,rv,ht,_⟩:=I.list h.sU;exact .fl ht.isList (ih rv))
 (λ_ _ _ _=>.oth rfl) (λ_ _ _ _ _=>.oth rfl) (λ_ _ _ _ _=>.oth rfl) (λ_ _ _=>.oth rfl)
 (λr=>by cases r;exact .nil)
 (λ_ _ i j _ r=>by
  cases r with
  |cons a b=>exact .cons (i a) (j b)) h r
theorem qp(I:Inv X ao Z H s){d:D}{v:V}{u:Value}(h:Rep X.K cA U H d v)(r:RelV v u):Is s.heap d u:=by
 cases h with
 |non=>cases r;exact .non
 |bl b=>cases r;exact .bl b
 |int i=>obtain⟨t,rfl⟩:=r;exact .int i t
 |str i=>obtain⟨t,rfl⟩:=r;exact .str i t
 |tup h q=>
  cases r;obtain⟨its,rv,ht,_⟩:=I.tuple h.jG;exact .tup ht (RW I q rv)
 |fl h q=>
  cases r;obtain⟨its,rv,ht,_⟩:=I.list h.sU;exact .fl ht.isList (RW I q rv)
 |fd _ _=>exact .oth rfl
 |exc _ _=>exact .oth rfl
 |ob _ _=>exact .oth rfl
 |any _=>exact .oth rfl
theorem zM(I:Inv X ao Z H s){d:D}{v:V}{u:Value}(q:Rv X.K cA U H d v)(r:RelV v u):Is s.heap d u:=by
 cases d with
 |fl xs=>
  obtain⟨a,vs,rfl,sq,rs⟩:=q;cases r;obtain⟨its,rv,ht,_⟩:=I.list sq;exact .fl ht.isList (RW I rs rv)
 |non=>exact qp I q r
 |bl b=>exact qp I q r
 |int b=>exact qp I q r
 |str b=>exact qp I q r
 |tup b=>exact qp I q r
 |fd b c=>exact qp I q r
 |exc b c=>exact qp I q r
 |ob b c=>exact qp I q r
 |any=>exact qp I q r
theorem jq.len:∀{ds:List D} {us:List Value},jq h ds us->ds.length=us.length
 |_,_,.nil=>rfl
 |_,_,.cons _ r=>by rw[gW,gW,jq.len r]
theorem jq.get:∀{ds:List D} {us:List Value} {i:Nat} {d:D},jq h ds us->ds[i]?=some d->∃u,us[i]?=some u/\Is h d u
 |_,_,_,_,.nil,e=>by simp at e
 |_,_,0,_,.cons h _,e=>by simp at e;subst e;exact⟨_,rfl,h⟩
 |_,_,i+1,d,.cons _ r,e=>by
  obtain⟨v,a,b⟩:=jq.get (i:=i) (d:=d) r (by simpa using e);exact⟨v,by simpa using a,b⟩
theorem Yb{a:Addr}{is js:Array Value}(p:h.IsTuple a is)(q:h.IsTuple a js):is=js:=by
 obtain⟨o,e,c,n,d⟩:=p;obtain⟨o',e',c',n',d'⟩:=q;rw[e] at e';cases e';rw[d] at d';cases d';rfl
theorem Yc{a:Addr}{is js:Array Value}(p:h.IsList a is)(q:h.IsList a js):is=js:=by
 obtain⟨o,e,c,n,d⟩:=p;obtain⟨o',e',c',n',d'⟩:=q;rw[e] at e';cases e';rw[d] at d';cases d';rfl
theorem vU{a:Addr}{is js:Array Value}(p:h.IsList a is)(q:h.IsTuple a js):False:=by
 obtain⟨o,e,c,n,d⟩:=p;obtain⟨o',e',c',n',d'⟩:=q;rw[e] at e';cases e';rw[c] at c';exact absurd c' Zaa
theorem Jk{eq:D->D->Option Bool}:∀{xs ys:List D} {b:Bool},dR eq xs ys=some b->∃e:Nat->Bool,(∀(j:Nat) x y,xs[j]?=some x->ys[j]?=some y->eq x y=some (e j))/\b=((List.range (min xs.length ys.length)).all e&&xs.length==ys.length)
 |[],[],b,h=>by cases h;exact⟨λ_=>true,λj x y q=>by simp at q,by simp⟩
 |[],y::ys,b,h=>by cases h;exact⟨λ_=>true,λj x y q=>by simp at q,by simp⟩
 |x::xs,[],b,h=>by cases h;exact⟨λ_=>true,λj x y q r=>by simp at r,by simp⟩
 |x::xs,y::ys,b,h=>by
  simp only[dR] at h;cases e1:eq x y with
  |none=>rw[e1] at h;cases h
  |some a=>
   cases e2:dR eq xs ys with
   |none=>rw[e1,e2] at h;cases h
   |some c=>
    rw[e1,e2] at h;cases h;obtain⟨e,h1,h2⟩:=Jk e2;refine⟨λj=>match j with|0=>a|j+1=>e j,λj p q r1 r2=>?_,?_⟩
    ·cases j with
     |zero=>
      simp at r1 r2;subst r1 r2;exact e1
     |succ j=>exact h1 j p q (by simpa using r1) (by simpa using r2)
    ·rw[h2];simp only[gW,Nat.succ_min_succ,O6,yR,List.all_map,Function.comp_def];rw[Bool.and_assoc]
     congr 2
     simp
theorem jr{n:Nat}{d e:D}(k:kq d=none):c7 n d e=none:=by
 cases n<;>cases d<;>first|cases k;done|(cases e<;>rfl)
theorem iy{n:Nat}{d e:D}(k:kq e=none):c7 n d e=none:=by
 cases n<;>cases e<;>first|cases k;done|(cases d<;>rfl)
theorem RX:∀(n:Nat) {d1 d2:D} {u:Value} {b:Bool},Is h d1 u->Is h d2 u->c7 n d1 d2=some b->b=true:=by
 intro n;have rows:∀(n:Nat),(∀{d1 d2:D} {u:Value} {b:Bool},Is h d1 u->Is h d2 u->c7 n d1 d2=some b->b=true)->∀{xs ys:List D} {is js:List Value} {b:Bool},jq h xs is->jq h ys js->is.toArray=js.toArray->dR (c7 n) xs ys=some b->b=true:=by
  intro n ih xs ys is js b q1 q2 e hd;have e:is=js:=by simpa using e
  subst e;obtain⟨e,a1,a2⟩:=Jk (eq:=c7 n) hd;rw[a2];have hl:_=_:=q1.len.trans q2.len.symm;rw[eG];refine⟨gY.mpr λj hj=>?_,by rw[hl];simp⟩;have hj:=Am.mp hj;obtain⟨x,hx⟩ : ∃x,_=some x:=⟨_,fj (fZ hj (Nat.min_le_left _ _))⟩;obtain⟨y,hy⟩ : ∃y,_=some y:=⟨_,fj (fZ hj (Nat.min_le_right _ _))⟩;obtain⟨v1,e1,p1⟩:=q1.get hx;obtain⟨v2,e2,p2⟩:=q2.get hy;rw[e1] at e2;cases e2;exact ih p1 p2 (a1 j x y hx hy)
 induction n with
 |zero=>
  intro d1 d2 u b r1 r2 hd;cases r1 with
  |oth k=>rw[jr k] at hd;cases hd
  |non=>cases r2 with
   |oth k=>rw[iy k] at hd;cases hd
   |non=>cases hd;rfl
  |bl x=>cases r2 with
   |oth k=>rw[iy k] at hd;cases hd
   |bl y=>cases hd;simp
  |int x t=>cases r2 with
   |oth k=>rw[iy k] at hd;cases hd
   |int y=>cases hd;simp
  |str x t=>cases r2 with
   |oth k=>rw[iy k] at hd;cases hd
   |str y=>cases hd;simp
  |tup p q=>cases r2 with
   |oth k=>rw[iy k] at hd;cases hd
   |tup p2 q2=>cases hd
   |fl p2 q2=>exact(vU p2 p).elim
  |fl p q=>cases r2 with
   |oth k=>rw[iy k] at hd;cases hd
   |fl p2 q2=>cases hd
   |tup p2 q2=>exact(vU p p2).elim
 |succ n ih=>
  intro d1 d2 u b r1 r2 hd;cases r1 with
  |oth k=>rw[jr k] at hd;cases hd
  |non=>cases r2 with
   |oth k=>rw[iy k] at hd;cases hd
   |non=>cases hd;rfl
  |bl x=>cases r2 with
   |oth k=>rw[iy k] at hd;cases hd
   |bl y=>cases hd;simp
  |int x t=>cases r2 with
   |oth k=>rw[iy k] at hd;cases hd
   |int y=>cases hd;simp
  |str x t=>cases r2 with
   |oth k=>rw[iy k] at hd;cases hd
   |str y=>cases hd;simp
  |tup p q=>cases r2 with
   |oth k=>rw[iy k] at hd;cases hd
   |tup p2 q2=>exact rows n ih q q2 (Yb p p2) hd
   |fl p2 q2=>exact(vU p2 p).elim
  |fl p q=>cases r2 with
   |oth k=>rw[iy k] at hd;cases hd
   |fl p2 q2=>exact rows n ih q q2 (Yc p p2) hd
   |tup p2 q2=>exact(vU p p2).elim
theorem parts{n:Nat}{A:Around}{xs ys:List D}{is js:List Value}{b:Bool}(r1:jq s.heap xs is)(r2:jq s.heap ys js)(hd:dR (c7 n) xs ys=some b)
  (ih:∀{d1 d2:D} {u1 u2:Value} {b:Bool},Is s.heap d1 u1->Is s.heap d2 u2->c7 n d1 d2=some b->SeqAt.EqAt A s u1 u2 b) :
  ∃e:Nat->Bool,(∀j (h1:j<is.toArray.size) (h2:j<js.toArray.size),SeqAt.EqAt A s is.toArray[j] js.toArray[j] (e j))/\b=((List.range (min is.toArray.size js.toArray.size)).all e&&is.toArray.size==js.toArray.size):=by
 obtain⟨e,a1,a2⟩:=Jk hd;have z1:=r1.len;have z2:=r2.len;refine⟨e,λj h1 h2=>?_,by simp only[fH,<-z1,<-z2];exact a2⟩;simp only[fH] at h1 h2;obtain⟨x,hx⟩ : ∃x,xs[j]?=some x:=⟨_,fj (by rw[z1];exact h1)⟩;obtain⟨y,hy⟩ : ∃y,ys[j]?=some y:=⟨_,fj (by rw[z2];exact h2)⟩;obtain⟨u,f1,g1⟩:=r1.get hx;obtain⟨u',f2,g2⟩:=r2.get hy;have k1:is.toArray[j]=u:=by
  have:=fX.mp f1;simpa using this.2
 have k2:js.toArray[j]=u':=by
  have:=fX.mp f2;simpa using this.2
 rw[k1,k2];exact ih g1 g2 (a1 j x y hx hy)
theorem Yd{A:Around}{l m:Addr}{is js:Array Value}{e:Nat->Bool}{b:Bool}(p1:s.heap.IsList l is)(p2:s.heap.IsList m js)(hu:A.units<cLine)(he:∀j (h1:j<is.size) (h2:j<js.size),SeqAt.EqAt A.in1 s is[j] js[j] (e j))(hb:b=((List.range (min is.size js.size)).all e&&is.size==js.size)):SeqAt.RcAt A s (.ref l) (.ref m) b:=by
 by_cases hz:is.size=js.size
 ·have:b=(List.range is.size).all e:=by rw[hb,hz];simp
  rw[this];exact SeqAt.RcAt.lists p1 p2 hz hu he
 ·have RZ:(is.size != js.size)=true:=by simpa using hz
  have:b=false:=by rw[hb];simp[hz]
  rw[this];exact SeqAt.RcAt.lists_lengths p1 p2 RZ hu
theorem zfS{A:Around}{l m:Addr}{is js:Array Value}{e:Nat->Bool}{b:Bool}(p1:s.heap.IsList l is)(p2:s.heap.IsList m js)(hu:A.units<cLine)(he:∀j (h1:j<is.size) (h2:j<js.size),SeqAt.EqAt A.in1 s is[j] js[j] (e j))(hb:b=((List.range (min is.size js.size)).all e&&is.size==js.size)):SeqAt.RcNeAt A s (.ref l) (.ref m) (!b):=by
 by_cases hz:is.size=js.size
 ·have:b=(List.range is.size).all e:=by rw[hb,hz];simp
  rw[this];exact SeqAt.RcNeAt.lists p1 p2 hz hu he
 ·have RZ:(is.size != js.size)=true:=by simpa using hz
  have:b=false:=by rw[hb];simp[hz]
  rw[this];exact SeqAt.RcNeAt.lists_lengths p1 p2 RZ hu
open SeqAt in
theorem E_:∀(n:Nat) {A:Around} {d1 d2:D} {u1 u2:Value} {b:Bool},A.units+n<cLine->Is s.heap d1 u1->Is s.heap d2 u2->c7 n d1 d2=some b->SeqAt.EqAt A s u1 u2 b:=by
 intro n
 induction n with
 |zero=>
  intro A d1 d2 u1 u2 b hu r1 r2 hd;have hu:A.units<cLine:=by lia
  cases r1 with
  |oth k=>rw[jr k] at hd;cases hd
  |non=>cases r2 with
   |oth k=>rw[iy k] at hd;cases hd
   |non=>cases hd;exact EqAt.same _
   |bl y=>cases hd;exact EqAt.none_bool _
   |int y t=>cases hd;exact EqAt.none_int _ _
   |str y t=>cases hd;exact EqAt.none_str _ _
   |tup p q=>cases hd;exact EqAt.none_tuple p hu
   |fl p q=>cases hd;exact EqAt.none_list p hu
  |bl x=>cases r2 with
   |oth k=>rw[iy k] at hd;cases hd
   |non=>cases hd;exact EqAt.bool_none _
   |bl y=>cases hd;exact EqAt.bool_bool _ _
   |int y t=>cases hd;exact EqAt.bool_int _ _ _
   |str y t=>cases hd;exact EqAt.bool_str _ _ _
   |tup p q=>cases hd;exact EqAt.bool_tuple _ p hu
   |fl p q=>cases hd;exact EqAt.bool_list _ p hu
  |int x t=>cases r2 with
   |oth k=>rw[iy k] at hd;cases hd
   |non=>cases hd;exact EqAt.int_none _ _
   |bl y=>cases hd;exact EqAt.int_bool _ _ _
   |int y t=>cases hd;exact EqAt.int_int _ _ _ _
   |str y t=>cases hd;exact EqAt.int_str _ _ _ _
   |tup p q=>cases hd;exact EqAt.int_tuple _ _ p hu
   |fl p q=>cases hd;exact EqAt.int_list _ _ p hu
  |str x t=>cases r2 with
   |oth k=>rw[iy k] at hd;cases hd
   |non=>cases hd;exact EqAt.str_none _ _
   |bl y=>cases hd;exact EqAt.str_bool _ _ _
   |int y t=>cases hd;exact EqAt.str_int _ _ _ _
   |str y t=>cases hd;exact EqAt.str_str _ _ _ _
   |tup p q=>cases hd;exact EqAt.str_tuple _ _ p hu
   |fl p q=>cases hd;exact EqAt.str_list _ _ p hu
  |tup p q=>cases r2 with
   |oth k=>rw[iy k] at hd;cases hd
   |non=>cases hd;exact EqAt.tuple_none p hu
   |bl y=>cases hd;exact EqAt.tuple_bool _ p hu
   |int y t=>cases hd;exact EqAt.tuple_int _ _ p hu
   |str y t=>cases hd;exact EqAt.tuple_str _ _ p hu
   |tup p2 q2=>cases hd
   |fl p2 q2=>cases hd;exact EqAt.tuple_list p p2 hu
  |fl p q=>cases r2 with
   |oth k=>rw[iy k] at hd;cases hd
   |non=>cases hd;exact EqAt.list_none p hu
   |bl y=>cases hd;exact EqAt.list_bool _ p hu
   |int y t=>cases hd;exact EqAt.list_int _ _ p hu
   |str y t=>cases hd;exact EqAt.list_str _ _ p hu
   |tup p2 q2=>cases hd;exact EqAt.list_tuple p p2 hu
   |fl p2 q2=>cases hd
 |succ n ih=>
  intro A d1 d2 u1 u2 b Jl r1 r2 hd;have hu:A.units<cLine:=by lia
  have cV:A.in1.units+n<cLine:=by show A.units+1+n<cLine;lia
  cases r1 with
  |oth k=>rw[jr k] at hd;cases hd
  |non=>cases r2 with
   |oth k=>rw[iy k] at hd;cases hd
   |non=>cases hd;exact EqAt.same _
   |bl y=>cases hd;exact EqAt.none_bool _
   |int y t=>cases hd;exact EqAt.none_int _ _
   |str y t=>cases hd;exact EqAt.none_str _ _
   |tup p q=>cases hd;exact EqAt.none_tuple p hu
   |fl p q=>cases hd;exact EqAt.none_list p hu
  |bl x=>cases r2 with
   |oth k=>rw[iy k] at hd;cases hd
   |non=>cases hd;exact EqAt.bool_none _
   |bl y=>cases hd;exact EqAt.bool_bool _ _
   |int y t=>cases hd;exact EqAt.bool_int _ _ _
   |str y t=>cases hd;exact EqAt.bool_str _ _ _
   |tup p q=>cases hd;exact EqAt.bool_tuple _ p hu
   |fl p q=>cases hd;exact EqAt.bool_list _ p hu
  |int x t=>cases r2 with
   |oth k=>rw[iy k] at hd;cases hd
   |non=>cases hd;exact EqAt.int_none _ _
   |bl y=>cases hd;exact EqAt.int_bool _ _ _
   |int y t=>cases hd;exact EqAt.int_int _ _ _ _
   |str y t=>cases hd;exact EqAt.int_str _ _ _ _
   |tup p q=>cases hd;exact EqAt.int_tuple _ _ p hu
   |fl p q=>cases hd;exact EqAt.int_list _ _ p hu
  |str x t=>cases r2 with
   |oth k=>rw[iy k] at hd;cases hd
   |non=>cases hd;exact EqAt.str_none _ _
   |bl y=>cases hd;exact EqAt.str_bool _ _ _
   |int y t=>cases hd;exact EqAt.str_int _ _ _ _
   |str y t=>cases hd;exact EqAt.str_str _ _ _ _
   |tup p q=>cases hd;exact EqAt.str_tuple _ _ p hu
   |fl p q=>cases hd;exact EqAt.str_list _ _ p hu
  |@tup a1 xs is p q=>cases r2 with
   |oth k=>rw[iy k] at hd;cases hd
   |non=>cases hd;exact EqAt.tuple_none p hu
   |bl y=>cases hd;exact EqAt.tuple_bool _ p hu
   |int y t=>cases hd;exact EqAt.tuple_int _ _ p hu
   |str y t=>cases hd;exact EqAt.tuple_str _ _ p hu
   |@tup a2 ys js p2 q2=>
    by_cases ea:a1=a2
    ·subst ea;have:=RX (n+1) (.tup p q) (.tup p2 q2) hd;subst this;exact EqAt.same _
    ·obtain⟨e,he,hb⟩:=parts (A:=A.in1) q q2 hd λa b c=>ih cV a b c;rw[hb];exact EqAt.of_refs ea (RcAt.tuples p p2 hu he)
   |fl p2 q2=>cases hd;exact EqAt.tuple_list p p2 hu
  |@fl a1 xs is p q=>cases r2 with
   |oth k=>rw[iy k] at hd;cases hd
   |non=>cases hd;exact EqAt.list_none p hu
   |bl y=>cases hd;exact EqAt.list_bool _ p hu
   |int y t=>cases hd;exact EqAt.list_int _ _ p hu
   |str y t=>cases hd;exact EqAt.list_str _ _ p hu
   |tup p2 q2=>cases hd;exact EqAt.list_tuple p p2 hu
   |@fl a2 ys js p2 q2=>
    by_cases ea:a1=a2
    ·subst ea;have:=RX (n+1) (.fl p q) (.fl p2 q2) hd;subst this;exact EqAt.same _
    ·obtain⟨e,he,hb⟩:=parts (A:=A.in1) q q2 hd λa b c=>ih cV a b c;exact EqAt.of_refs ea (Yd p p2 hu he hb)
end
section
variable {X:Cx}{cA:Cl}{ao:List (Addr×Obj)}{Z:L2.St}{H:Hp}{s:Shared}{U:Ph}{h:Heap}
open SeqAt in
theorem Ye(Jl:A.units+(n+1)<cLine)(r1:Is s.heap d1 u1)(r2:Is s.heap d2 u2)(hd:c7 (n+1) d1 d2=some b):RcAt A s u1 u2 b/\RcNeAt A s u1 u2 (!b):=by
 have hu:A.units<cLine:=by lia
 have cV:A.in1.units+n<cLine:=by show A.units+1+n<cLine;lia
 cases r1 with
 |oth k=>rw[jr k] at hd;cases hd
 |non=>cases r2 with
  |oth k=>rw[iy k] at hd;cases hd
  |non=>cases hd;exact⟨RcAt.none_none,RcNeAt.none_none⟩
  |bl y=>cases hd;exact⟨RcAt.none_bool _,RcNeAt.none_bool _⟩
  |int y t=>cases hd;exact⟨RcAt.none_int _ _,RcNeAt.none_int _ _⟩
  |str y t=>cases hd;exact⟨RcAt.none_str _ _,RcNeAt.none_str _ _⟩
  |tup p q=>cases hd;exact⟨RcAt.none_tuple p hu,RcNeAt.none_tuple p hu⟩
  |fl p q=>cases hd;exact⟨RcAt.none_list p hu,RcNeAt.none_list p hu⟩
 |bl x=>cases r2 with
  |oth k=>rw[iy k] at hd;cases hd
  |non=>cases hd;exact⟨RcAt.bool_none _,RcNeAt.bool_none _⟩
  |bl y=>cases hd;exact⟨RcAt.bool_bool _ _,RcNeAt.bool_bool _ _⟩
  |int y t=>cases hd;exact⟨RcAt.bool_int _ _ _,RcNeAt.bool_int _ _ _⟩
  |str y t=>cases hd;exact⟨RcAt.bool_str _ _ _,RcNeAt.bool_str _ _ _⟩
  |tup p q=>cases hd;exact⟨RcAt.bool_tuple _ p hu,RcNeAt.bool_tuple _ p hu⟩
  |fl p q=>cases hd;exact⟨RcAt.bool_list _ p hu,RcNeAt.bool_list _ p hu⟩
 |int x t=>cases r2 with
  |oth k=>rw[iy k] at hd;cases hd
  |non=>cases hd;exact⟨RcAt.int_none _ _,RcNeAt.int_none _ _⟩
  |bl y=>cases hd;exact⟨RcAt.int_bool _ _ _,RcNeAt.int_bool _ _ _⟩
  |int y t=>cases hd;exact⟨RcAt.int_int _ _ _ _,RcNeAt.int_int _ _ _ _⟩
  |str y t=>cases hd;exact⟨RcAt.int_str _ _ _ _,RcNeAt.int_str _ _ _ _⟩
  |tup p q=>cases hd;exact⟨RcAt.int_tuple _ _ p hu,RcNeAt.int_tuple _ _ p hu⟩
  |fl p q=>cases hd;exact⟨RcAt.int_list _ _ p hu,RcNeAt.int_list _ _ p hu⟩
 |str x t=>cases r2 with
  |oth k=>rw[iy k] at hd;cases hd
  |non=>cases hd;exact⟨RcAt.str_none _ _,RcNeAt.str_none _ _⟩
  |bl y=>cases hd;exact⟨RcAt.str_bool _ _ _,RcNeAt.str_bool _ _ _⟩
  |int y t=>cases hd;exact⟨RcAt.str_int _ _ _ _,RcNeAt.str_int _ _ _ _⟩
  |str y t=>cases hd;exact⟨RcAt.str_str _ _ _ _,RcNeAt.str_str _ _ _ _⟩
  |tup p q=>cases hd;exact⟨RcAt.str_tuple _ _ p hu,RcNeAt.str_tuple _ _ p hu⟩
  |fl p q=>cases hd;exact⟨RcAt.str_list _ _ p hu,RcNeAt.str_list _ _ p hu⟩
 |@tup a1 xs is p q=>cases r2 with
  |oth k=>rw[iy k] at hd;cases hd
  |non=>cases hd;exact⟨RcAt.tuple_none p hu,RcNeAt.tuple_none p hu⟩
  |bl y=>cases hd;exact⟨RcAt.tuple_bool _ p hu,RcNeAt.tuple_bool _ p hu⟩
  |int y t=>cases hd;exact⟨RcAt.tuple_int _ _ p hu,RcNeAt.tuple_int _ _ p hu⟩
  |str y t=>cases hd;exact⟨RcAt.tuple_str _ _ p hu,RcNeAt.tuple_str _ _ p hu⟩
  |@tup a2 ys js p2 q2=>
   obtain⟨e,he,hb⟩:=parts (A:=A.in1) q q2 hd λa b c=>E_ n cV a b c;rw[hb];exact⟨RcAt.tuples p p2 hu he,RcNeAt.tuples p p2 hu he⟩
  |fl p2 q2=>cases hd;exact⟨RcAt.tuple_list p p2 hu,RcNeAt.tuple_list p p2 hu⟩
 |@fl a1 xs is p q=>cases r2 with
  |oth k=>rw[iy k] at hd;cases hd
  |non=>cases hd;exact⟨RcAt.list_none p hu,RcNeAt.list_none p hu⟩
  |bl y=>cases hd;exact⟨RcAt.list_bool _ p hu,RcNeAt.list_bool _ p hu⟩
  |int y t=>cases hd;exact⟨RcAt.list_int _ _ p hu,RcNeAt.list_int _ _ p hu⟩
  |str y t=>cases hd;exact⟨RcAt.list_str _ _ p hu,RcNeAt.list_str _ _ p hu⟩
  |tup p2 q2=>cases hd;exact⟨RcAt.list_tuple p p2 hu,RcNeAt.list_tuple p p2 hu⟩
  |@fl a2 ys js p2 q2=>
   obtain⟨e,he,hb⟩:=parts (A:=A.in1) q q2 hd λa b c=>E_ n cV a b c;exact⟨Yd p p2 hu he hb,zfS p p2 hu he hb⟩
noncomputable def xQ(K:W.Frag)(cA:Cl)(f:Bool->Bool):R2:=λx y H Q=>∃U d1 d2 b,Rv K cA U H d1 x/\Rv K cA U H d2 y/\c7 50 d1 d2=some b/\Q (.bl (f b)) H
theorem zlV(hu:X.A.units+60<cLine):fO X (compareOp .Eq) (xQ X.K cA id):=by
 intro ao s Z H x y v u Q I rx ry ⟨U,d1,d2,b,r1,r2,hd,q⟩;exact(Ye (n:=49) gV (zM I r1 rx) (zM I r2 ry) hd).1 X.prog X.w X.xe _ ⟨.bl b,H,I,rfl,q⟩
theorem zlJ(hu:X.A.units+60<cLine):fO X (compareOp .NotEq) (xQ X.K cA not):=by
 intro ao s Z H x y v u Q I rx ry ⟨U,d1,d2,b,r1,r2,hd,q⟩;exact(Ye (n:=49) gV (zM I r1 rx) (zM I r2 ry) hd).2 X.prog X.w X.xe _ ⟨.bl (!b),H,I,rfl,q⟩
theorem Yg:∀(n:Nat) {d d' x:D} {u:Value} {b b':Bool},Is h d u->Is h d' u->c7 n d x=some b->c7 n d' x=some b'->b=b':=by
 intro n;have flat:∀{d d' x:D} {u:Value} {b b':Bool},Is h d u->Is h d' u->(∀xs xs',d=.tup xs->d'=.tup xs'->False)->(∀xs xs',d=.fl xs->d'=.fl xs'->False)->c7 n d x=some b->c7 n d' x=some b'->b=b':=by
  intro d d' x u b b' r1 r2 n1 n2 h1 h2;cases r1 with
  |oth k=>rw[jr k] at h1;cases h1
  |non=>cases r2 with
   |oth k=>rw[jr k] at h2;cases h2
   |non=>rw[h1] at h2;exact cO h2
  |bl y=>cases r2 with
   |oth k=>rw[jr k] at h2;cases h2
   |bl=>rw[h1] at h2;exact cO h2
  |int y=>cases r2 with
   |oth k=>rw[jr k] at h2;cases h2
   |int=>rw[h1] at h2;exact cO h2
  |str y=>cases r2 with
   |oth k=>rw[jr k] at h2;cases h2
   |str=>rw[h1] at h2;exact cO h2
  |tup p q=>cases r2 with
   |oth k=>rw[jr k] at h2;cases h2
   |tup=>exact(n1 _ _ rfl rfl).elim
   |fl p2 q2=>exact(vU p2 p).elim
  |fl p q=>cases r2 with
   |oth k=>rw[jr k] at h2;cases h2
   |fl=>exact(n2 _ _ rfl rfl).elim
   |tup p2 q2=>exact(vU p p2).elim
 have tn:∀{n:Nat} {xs xs':List D} {x:D},(∀ys,x=.tup ys->False)->c7 n (.tup xs) x=c7 n (.tup xs') x:=λ{n xs xs' x} hx=>by
  cases n<;>cases x<;>first|rfl|exact(hx _ rfl).elim
 have ln:∀{n:Nat} {xs xs':List D} {x:D},(∀ys,x=.fl ys->False)->c7 n (.fl xs) x=c7 n (.fl xs') x:=λ{n xs xs' x} hx=>by
  cases n<;>cases x<;>first|rfl|exact(hx _ rfl).elim
 clear flat
 induction n with
 |zero=>
  intro d d' x u b b' r1 r2 h1 h2;cases r1 with
  |oth k=>rw[jr k] at h1;cases h1
  |non=>cases r2 with
   |oth k=>rw[jr k] at h2;cases h2
   |non=>rw[h1] at h2;exact cO h2
  |bl y=>cases r2 with
   |oth k=>rw[jr k] at h2;cases h2
   |bl=>rw[h1] at h2;exact cO h2
  |int y=>cases r2 with
   |oth k=>rw[jr k] at h2;cases h2
   |int=>rw[h1] at h2;exact cO h2
  |str y=>cases r2 with
   |oth k=>rw[jr k] at h2;cases h2
   |str=>rw[h1] at h2;exact cO h2
  |tup p q=>cases r2 with
   |oth k=>rw[jr k] at h2;cases h2
   |tup p2 q2=>
    cases x with
    |tup ys=>cases h1
    |_=>rw[tn (by intro ys z;cases z),h2] at h1;exact(cO h1).symm
   |fl p2 q2=>exact(vU p2 p).elim
  |fl p q=>cases r2 with
   |oth k=>rw[jr k] at h2;cases h2
   |fl p2 q2=>
    cases x with
    |fl ys=>cases h1
    |_=>rw[ln (by intro ys z;cases z),h2] at h1;exact(cO h1).symm
   |tup p2 q2=>exact(vU p p2).elim
 |succ n ih=>
  intro d d' x u b b' r1 r2 h1 h2;have rows:∀{xs xs' ys:List D} {is js:List Value} {b b':Bool},jq h xs is->jq h xs' js->is.toArray=js.toArray->dR (c7 n) xs ys=some b->dR (c7 n) xs' ys=some b'->b=b':=by
   intro xs xs' ys is js b b' q1 q2 e h1 h2;have e:is=js:=by simpa using e
   subst e;obtain⟨e1,a1,b1⟩:=Jk h1;obtain⟨e2,a2,b2⟩:=Jk h2;have hl:xs.length=xs'.length:=q1.len.trans q2.len.symm;rw[b1,b2,hl]
   congr 1
   rw[Bool.eq_iff_iff,gY,gY];have key:∀j∈List.range (min xs'.length ys.length),e1 j=e2 j:=λj hj=>by
    have hj:=Am.mp hj;obtain⟨x1,Yh⟩ : ∃x,xs[j]?=some x:=⟨_,fj (by rw[hl];exact fZ hj (Nat.min_le_left _ _))⟩;obtain⟨x2,Mv⟩ : ∃x,xs'[j]?=some x:=⟨_,fj (fZ hj (Nat.min_le_left _ _))⟩;obtain⟨y,hy⟩ : ∃y,ys[j]?=some y:=⟨_,fj (fZ hj (Nat.min_le_right _ _))⟩;obtain⟨v1,f1,p1⟩:=q1.get Yh;obtain⟨v2,f2,p2⟩:=q2.get Mv;rw[f1] at f2;cases f2;exact ih p1 p2 (a1 j x1 y Yh hy) (a2 j x2 y Mv hy)
   exact⟨λz j hj=>by rw[<-key j hj];exact z j hj,λz j hj=>by rw[key j hj];exact z j hj⟩
  cases r1 with
  |oth k=>rw[jr k] at h1;cases h1
  |non=>cases r2 with
   |oth k=>rw[jr k] at h2;cases h2
   |non=>rw[h1] at h2;exact cO h2
  |bl y=>cases r2 with
   |oth k=>rw[jr k] at h2;cases h2
   |bl=>rw[h1] at h2;exact cO h2
  |int y=>cases r2 with
   |oth k=>rw[jr k] at h2;cases h2
   |int=>rw[h1] at h2;exact cO h2
  |str y=>cases r2 with
   |oth k=>rw[jr k] at h2;cases h2
   |str=>rw[h1] at h2;exact cO h2
  |tup p q=>cases r2 with
   |oth k=>rw[jr k] at h2;cases h2
   |tup p2 q2=>
    cases x with
    |tup ys=>exact rows q q2 (Yb p p2) h1 h2
    |_=>rw[tn (by intro ys z;cases z),h2] at h1;exact(cO h1).symm
   |fl p2 q2=>exact(vU p2 p).elim
  |fl p q=>cases r2 with
   |oth k=>rw[jr k] at h2;cases h2
   |fl p2 q2=>
    cases x with
    |fl ys=>exact rows q q2 (Yc p p2) h1 h2
    |_=>rw[ln (by intro ys z;cases z),h2] at h1;exact(cO h1).symm
   |tup p2 q2=>exact(vU p p2).elim
theorem R0:∀{xs:List D} {b:Bool},memD x xs=some b->∀d∈xs,∃k,c7 50 d x=some k
 |[],_,_,d,hd=>by cases hd
 |y::xs,b,h,d,hd=>by
  unfold memD at h;cases e1:c7 50 y x with
  |none=>simp only[e1] at h;cases h
  |some a=>
   cases e2:memD x xs with
   |none=>simp only[e1,e2] at h;cases h
   |some c=>
    rcases jA.mp hd with rfl|hd
    ·exact⟨a,e1⟩
    ·exact R0 e2 d hd
theorem R3:∀{xs:List D} {us:List Value} {b:Bool},memD x xs=some b->jq h xs us->∃e:Value->Bool,(∀u∈us,∃d,Is h d u/\c7 50 d x=some (e u))/\us.any e=b:=by
 intro xs us b hm r;have ex:∀u∈us,∃d k,Is h d u/\c7 50 d x=some k:=by
  intro u hu;obtain⟨i,hi,e⟩:=yN hu;have hl:=r.len;obtain⟨d,hd⟩ : ∃d,xs[i]?=some d:=⟨_,fj gV⟩;obtain⟨u',e1,q⟩:=r.get hd;rw[fj hi,e] at e1;cases e1;obtain⟨k,hk⟩:=R0 hm d (gJ hd);exact⟨d,k,q,hk⟩
 refine⟨λu=>by classical exact if z:∃k,∃d,Is h d u/\c7 50 d x=some k then z.choose else false,λu hu=>?_,?_⟩
 ·obtain⟨d,k,q,hk⟩:=ex u hu;have z:∃k,∃d,Is h d u/\c7 50 d x=some k:=⟨k,d,q,hk⟩;dsimp only;rw[dif_pos z];exact z.choose_spec
 ·clear ex;have key:∀(xs:List D) (us:List Value) (b:Bool),memD x xs=some b->jq h xs us->us.any (λu=>by classical exact if z:∃k,∃d,Is h d u/\c7 50 d x=some k then z.choose else false)=b:=by
   intro xs
   induction xs with
   |nil=>intro us b hm r;cases r;cases hm;rfl
   |cons d ds ih=>
    intro us b hm r;cases r with
    |@cons _ u _ us a r=>
     unfold memD at hm;cases e1:c7 50 d x with
     |none=>simp only[e1] at hm;cases hm
     |some k=>
      cases e2:memD x ds with
      |none=>simp only[e1,e2] at hm;cases hm
      |some c=>
       simp only[e1,e2] at hm;cases hm;rw[List.any_cons];have z:∃k,∃d,Is h d u/\c7 50 d x=some k:=⟨k,d,a,e1⟩;have hk:z.choose=k:=by
        obtain⟨d',q,Ba⟩:=z.choose_spec;exact Yg 50 q a Ba e1
       rw[dif_pos z,hk,ih us c e2 r]
  exact key xs us b hm r
noncomputable def Jm(K:W.Frag)(cA:Cl)(f:Bool->Bool):R2:=λx y H Q=>∃U d1 d2 xs b,Rv K cA U H d1 x/\Rv K cA U H d2 y/\mY d2=some xs/\memD d1 xs=some b/\Q (.bl (f b)) H
theorem zlB(hu:X.A.units+60<cLine):fO X (compareOp .In) (Jm X.K cA id):=by
 intro ao s Z H x y v u Q I rx ry ⟨U,d1,d2,xs,b,r1,r2,hq,hm,q⟩;have cV:X.A.in1.units+50<cLine:=by show X.A.units+1+50<cLine;lia
 have i1:=zM I r1 rx;cases zM I r2 ry with
 |tup p r=>
  cases hq;obtain⟨e,he,hb⟩:=R3 hm r;refine SeqAt.in_tupleAt e p (λw hw=>?_) ⟨.bl b,H,I,by rw[<-hb];simp[L2.RelV],q⟩;obtain⟨d,q1,q2⟩:=he w (by simpa using hw);exact E_ 50 cV q1 i1 q2
 |fl p r=>
  cases hq;obtain⟨e,he,hb⟩:=R3 hm r;refine SeqAt.in_listAt e p (λw hw=>?_) ⟨.bl b,H,I,by rw[<-hb];simp[L2.RelV],q⟩;obtain⟨d,q1,q2⟩:=he w (by simpa using hw);exact E_ 50 cV q1 i1 q2
 |oth k=>cases d2<;>cases hq<;>cases k
 |_=>cases hq
end
end Mi
namespace HT
open PySem PyProof.Rows
section
variable {prog:Program}{w:World}{A:Around}{E:Value->Shared->Prop}{s:Shared}
theorem uQ{t b:Addr}{vs ws:List Value}{Q:Value->Shared->Prop}(ht:IsTup s.heap t vs.toArray)(hb:IsTup s.heap b ws.toArray)(hv:vs=[])
  (h1:Q (.ref b) s):wpAny (model prog w) A (binaryOp .Add (.ref t) (.ref b)) Q E s:=by
 obtain⟨⟨cls,dd,data,sl⟩,ho,hc,n,hd⟩:=id ht;obtain⟨⟨cls2,dd2,data2,sl2⟩,pU,nJ,n2,hd2⟩:=id hb;simp only at hc hd nJ hd2;subst hc hd nJ hd2;exact concat_meets ⟨_,ho,rfl⟩ ⟨_,pU,rfl⟩ noFill_tuple_add seq_tuple_add O4 O1 (OD _ _)
   (tuple_addW0 t b vs.toArray ws.toArray n n2 dd dd2 sl sl2 (by simp[hv])) ⟨ho,pU,h1⟩
theorem gH{t sl:Addr}{items:Array Value}{vl vu:Value}{lo hi:Option Int}{Q:Value->Shared->Prop}(ht:IsTup s.heap t items)(hs:s.heap.IsSliceOf sl vl vu .none)(pl:IsPart vl lo)(pu:IsPart vu hi)
  (hw:bY items.size 0 lo=0/\bY items.size items.size hi=items.size) (h:Q (.ref t) s):wpAny (model prog w) A (getItem (.ref t) (.ref sl)) Q E s:=by
 obtain⟨os,Bq,Mq,HS⟩:=id hs;have QF:s.TypeIs (.ref sl) "slice":=⟨os,Bq,Mq⟩;unfold getItem
 try with_reducible refine pK ?_
 first|refine aA (aP ?_)|skip
 refine aA (wpAny_sequenceKey ht.typeIs Ro ?_);refine aA (Ae (name:=Str.ofString "__getitem__") ht.typeIs Ds
  (yQ Ds ht.typeIs entry_tuple_getitem ?_ (args_tuple_getitem _ _)))
 show wpAny _ _ (Builtin.Tuple.tupleItemsOf (.ref t) >>= _) _ _ s;refine aA (tupleItemsOf_ ht ?_);refine aA (wpAny_typeOf QF ?_);rw[if_pos Ro];refine aA (W6 hs pl pu ?_);have R4:(((bY items.size 0 lo:Nat):Int)==0&&(1:Int)==1&&(bY items.size items.size hi-bY items.size 0 lo)==items.size)=true:=by
  rw[hw.1,hw.2];simp
 show wpAny _ _ (if (((bY items.size 0 lo:Nat):Int)==0&&(1:Int)==1&&(bY items.size items.size hi-bY items.size 0 lo)==items.size)=true then _ else _) _ _ s;rw[if_pos R4];refine aA ?_;unfold Builtin.Tuple.tupleIsExact;refine aA (wpAny_typeOf ht.typeIs ?_);refine aP ?_;rw[if_pos Ro];refine aA (yV ?_);exact aP ⟨_,rfl,aP h⟩
end
end HT
namespace L2
open PySem PySem.Spec PyProof.Rows
section
variable {X:Cx}{e:Expr}{te:TE}{pos p2:Pos}
noncomputable def uR(K:W.Frag):R2:=λx y H Q=>∃a b xs ys,x=.ref a/\y=.ref b/\gK K H a xs/\gK K H b ys/\xs.length+ys.length<=sizeLine /\
 (xs=[]->Q (.ref b) H)/\(ys=[]->Q (.ref a) H)/\∀p,H p=none->Q (.ref p) (upd H p (.tup (xs++ys)))
theorem uU:fO X (binaryOp .Add) (uR X.K):=by
 intro ao s Z H x y v u Q I rx ry h;obtain⟨a,b,xs,ys,rfl,rfl,ha,hb,hz,q0,q1,q2⟩:=h;cases rx;cases ry;obtain⟨its,r1,p1,_⟩:=I.tuple ha;obtain⟨its2,r2,p2,_⟩:=I.tuple hb;by_cases hx:xs=[]
 ·exact HT.uQ p1 p2 (r1.mR.mpr hx) ⟨.ref b,H,I,rfl,q0 hx⟩
 ·refine HT.wW p1 p2 (λz=>hx (r1.mR.mp z)) (λz=>⟨.ref a,H,I,rfl,q1 (r2.mR.mp z)⟩) (λz=>?_) (by rw[<-r1.length,<-r2.length];exact hz);refine⟨.ref s.heap.objs.size,_,I.laid (t':=s.toks) (o:=.tup (xs++ys)) (λb ob q=>cD _ q) (cj _) ?_,rfl,q2 _ (I.hok.fresh (cj _))⟩;exact⟨by rw[pA];exact hz,_,r1.append r2,IsTup.new _ _⟩
noncomputable def zN(K:W.Frag):V->Option Int->Option Int->Hp->VK->Prop:=λx lo hi H Q=>∃a xs,x=.ref a/\gK K H a xs /\
 ((HT.bY xs.length 0 lo=0/\HT.bY xs.length xs.length hi=xs.length)->Q (.ref a) H)/\∀p,H p=none->Q (.ref p) (upd H p (.tup (mQ xs lo hi)))
theorem zjU:wZ X (zN X.K):=by
 intro ao s Z H x v vl vu lo hi sl Q I rx hs pl pu h;obtain⟨a,xs,rfl,hx,hw,q⟩:=h;by_cases hz:HT.bY xs.length 0 lo=0/\HT.bY xs.length xs.length hi=xs.length
 ·cases rx;obtain⟨its,r,ht,_⟩:=I.tuple hx;have hlen:its.toArray.size=xs.length:=by rw[fH];exact r.length.symm
  refine⟨"tuple",_,Ds.lookup,ht.typeIs,?_⟩;exact HT.gH ht hs pl pu (by rw[hlen];exact hz) ⟨.ref a,H,I,rfl,hw hz⟩
 ·exact zk1 ao s Z H (.ref a) v vl vu lo hi sl Q I rx hs pl pu ⟨a,xs,rfl,hx,hz,q⟩
end
section
variable {X:Cx}
noncomputable def zO(K:W.Frag):R2:=λx y H Q=>∃l b xs zs,x=.ref l/\y=.ref b/\cR K H l xs/\cR K H b zs/\xs.length+zs.length<=sizeLine/\∀p,H p=none->Q (.ref p) (upd H p (.lst (xs++zs)))
theorem xR:fO X (binaryOp .Add) (zO X.K):=by
 intro ao s Z H x y v u Q I rx ry h;obtain⟨l,b,xs,zs,rfl,rfl,hH,hB,hz,q⟩:=h;cases rx;cases ry;obtain⟨its,r,pl,_⟩:=I.list hH;obtain⟨its2,r2,pl2,_⟩:=I.list hB;obtain⟨⟨cls,dd,data,sl⟩,ho,hc,n,hd⟩:=pl.isList;obtain⟨⟨cls2,dd2,data2,sl2⟩,pU,nJ,n2,hd2⟩:=pl2.isList;simp only at hc hd nJ hd2;subst hc hd nJ hd2;refine concat_meets ⟨_,ho,rfl⟩ ⟨_,pU,rfl⟩ noFill_list_add seq_list_add PySem.F.slot_list_add PySem.F.entry_list_add (PySem.F.args_list_add_2 _ _) (list_addW l b its.toArray its2.toArray n n2 dd dd2 sl sl2 (by rw[fH,fH,<-r.length,<-r2.length];exact hz)) ⟨ho,pU,?_⟩;have ea:its.toArray++its2.toArray=(its++its2).toArray:=by simp
 rw[ea];exact⟨.ref _,_,I.QM (t':=s.toks) (r.append r2) (by rw[pA];omega),rfl,q _ I.fresh⟩
noncomputable def qZ(K:W.Frag):R2:=λx y H Q=>pP (λi j=>.int (i+j)) x y H Q\/zO K x y H Q\/uR K x y H Q\/∃i j,x=.str i/\y=.str j/\i.length+j.length<=sizeLine/\Q (.str (i++j)) H
theorem zfF:fO X (binaryOp .Add) (qZ X.K):=Bk.or (xR.or (uU.or zfs))
end
end L2
namespace Mi
open PySem PySem.Spec PyProof.Rows L2
section
variable {K:W.Frag}{cA:Cl}{U:Ph}{H:Hp}{Q:VK}{p:Pr}
theorem bK.some'{o:Option Rz}(h:bK K cA U H o Q):∃z,o=some z:=by
 cases o with
 |none=>exact h.elim
 |some z=>exact⟨z,rfl⟩
theorem bK.of{o:Option Rz}{z:Rz}(h:bK K cA U H o Q)(e:o=some z):bK K cA U H (some z) Q:=e▸h
theorem bK.here{d:D}{v:V}(h:bK K cA U H (some (.dat d)) Q)(r:Rep K cA U H d v):Q v H:=h H v bG.refl r
theorem bK.tup{xs:List D}{vs:List V}{a:Addr}(h:bK K cA U H (some (.dat (.tup xs))) Q)(z:Zt U H)(r:aB K cA U H xs vs)(hp:H a=none):Q (.ref a) (upd H a (.tup vs)):=
 h _ _ (bG.new hp) (.tup (TupAt.new (z.nz hp)) (r.mono (bG.new hp).ext z.lz))
theorem xO.two{ds:List D}{vs:List V}{d d':D}(h:xO K cA U H [d,d'] vs):∃v v',vs=[v,v']/\Rv K cA U H d v/\Rv K cA U H d' v':=by
 cases h with
 |cons a r=>cases r with
  |cons b r=>cases r;exact⟨_,_,rfl,a,b⟩
theorem xO.one(h:xO K cA U H [d] vs):∃v,vs=[v]/\Rv K cA U H d v:=by
 cases h with
 |cons a r=>cases r;exact⟨_,rfl,a⟩
theorem Rv.int{i:Int}{v:V}(h:Rv K cA U H (.int i) v):v=.int i:=by cases (show Rep K cA U H (.int i) v from h);rfl
theorem Rv.bl{i:Bool}{v:V}(h:Rv K cA U H (.bl i) v):v=.bl i:=by cases (show Rep K cA U H (.bl i) v from h);rfl
theorem Rv.str{i:Str}{v:V}(h:Rv K cA U H (.str i) v):v=.str i:=by cases (show Rep K cA U H (.str i) v from h);rfl
theorem Rv.tup{xs:List D}{v:V}(h:Rv K cA U H (.tup xs) v):∃a vs,v=.ref a/\TupAt K U H a vs/\aB K cA U H xs vs:=by
 cases (show Rep K cA U H (.tup xs) v from h) with
 |tup a r=>exact⟨_,_,rfl,a,r⟩
theorem Rv.sq{d:D}{xs:List D}{v:V}(h:Rv K cA U H d v)(e:mY d=some xs):∃a vs,v=.ref a/\(cR K H a vs\/gK K H a vs)/\aB K cA U H xs vs:=by
 cases d with
 |tup ys=>
  cases e;obtain⟨a,vs,e,t,r⟩:=Rv.tup h;exact⟨a,vs,e,.inr t.jG,r⟩
 |fl ys=>
  cases e;obtain⟨a,vs,e,l,r⟩:=h;exact⟨a,vs,e,.inl l,r⟩
 |_=>cases e
theorem Yi{f:Int->Int->Option D}{ds:List D}{z:Rz}(h:dw f ds=some z):∃i j d,ds=[.int i,.int j]/\f i j=some d/\z=.dat d:=by
 cases ds with
 |nil=>cases h
 |cons a t=>
 cases a with
 |int i=>
  cases t with
  |nil=>cases h
  |cons b t=>
  cases b with
  |int j=>
   cases t with
   |cons _ _=>cases h
   |nil=>
    obtain⟨d,e1,e2⟩:=kZ.mp h;exact⟨_,_,d,rfl,e1,e2.symm⟩
  |_=>cases h
 |_=>cases h
theorem Jo{f:Int->Int->Option D}(hp:prim p=dw f){C:Int->Int->Prop}{g:Int->Int->V}(hf:∀i j d,f i j=some d->C i j/\∀U H,Rep K cA U H d (g i j)):bH K cA p (r2 (rI C g)):=by
 intro U H ds vs Q zt rs o;rw[hp] at o;obtain⟨z,e⟩:=o.some';obtain⟨i,j,d,rfl,e1,rfl⟩:=Yi e;obtain⟨c,r⟩:=hf i j d e1;obtain⟨v,v',rfl,r1,r2⟩:=rs.two (ds:=[]);rw[r1.int,r2.int];exact⟨_,_,rfl,i,j,rfl,rfl,c,(o.of e).here (r U H)⟩
theorem Fb{f:Int->Int->D}(hp:prim p=dw λi j=>some (f i j)){g:Int->Int->V}(hf:∀i j U H,Rep K cA U H (f i j) (g i j)):bH K cA p (r2 (pP g)):=by
 intro U H ds vs Q zt rs o;obtain⟨x,y,e,i,j,a,b,_,q⟩:=Jo (K:=K) (cA:=cA) (C:=λ_ _=>True) hp (λi j d e=>⟨trivial,λU H=>by cases e;exact hf i j U H⟩) U H ds vs Q zt rs o;exact⟨x,y,e,i,j,a,b,q⟩
theorem Jp{α:Type}{c:Prop}[Decidable c]{x y:α}(h:(if c then some x else none)=some y):c/\y=x:=by
 split at h
 ·rename_i z;cases h;exact⟨z,rfl⟩
 ·cases h
theorem zlT:bH K cA .aq (r2 (pP λi j=>.int (i-j))):=Fb (f:=λi j=>.int (i-j)) rfl λi j _ _=>.int _
theorem zmk:bH K cA .mul (r2 (rI wU λi j=>.int (i*j))):=Jo rfl λi j d e=>by obtain⟨c,rfl⟩:=Jp e;exact⟨c,λ_ _=>.int _⟩
theorem zi3:bH K cA .fdiv (r2 (rI wR λi j=>.int (i/j))):=Jo rfl λi j d e=>by obtain⟨c,rfl⟩:=Jp e;exact⟨c,λ_ _=>.int _⟩
theorem zks:bH K cA .mod (r2 (rI (λ_ j=>0<j) λi j=>.int (i%j))):=Jo rfl λi j d e=>by obtain⟨c,rfl⟩:=Jp e;exact⟨c,λ_ _=>.int _⟩
theorem zlK:bH K cA .pow (r2 (rI Hu λi j=>.int (i^j.toNat))):=Jo rfl λi j d e=>by obtain⟨c,rfl⟩:=Jp e;exact⟨c,λ_ _=>.int _⟩
theorem znM:bH K cA .le (r2 (pP λi j=>.bl (decide (i<=j)))):=Fb (f:=λi j=>.bl (decide (i<=j))) rfl λi j _ _=>.bl _
theorem znt:bH K cA .gt (r2 (pP λi j=>.bl (decide (j<i)))):=Fb (f:=λi j=>.bl (decide (j<i))) rfl λi j _ _=>.bl _
theorem zmG:bH K cA .ge (r2 (pP λi j=>.bl (decide (j<=i)))):=Fb (f:=λi j=>.bl (decide (j<=i))) rfl λi j _ _=>.bl _
theorem zkV:bH K cA .neg (λvs H Q=>∃x,vs=[x]/\rU (λi=>.int (-i)) x H Q):=by
 intro U H ds vs Q zt rs o;obtain⟨z,e⟩:=o.some';have e:qW (λi=>.int (-i)) ds=some z:=e;cases ds with
 |nil=>cases e
 |cons a t=>
 cases a with
 |int i=>
  cases t with
  |cons _ _=>cases e
  |nil=>
   cases e;obtain⟨v,rfl,r1⟩:=rs.one;exact⟨_,rfl,_,r1.int,bK.here (o.of rfl) (.int _)⟩
 |_=>cases e
theorem znc:bH K cA .eq (r2 (xQ K cA id)):=by
 intro U H ds vs Q zt rs o;obtain⟨z,e⟩:=o.some';have e:Ca id ds=some z:=e;unfold Ca at e;split at e
 ·obtain⟨b,e1,e2⟩:=kZ.mp e;obtain⟨v,v',rfl,r1,r2⟩:=rs.two (ds:=[]);subst e2;exact⟨_,_,rfl,U,_,_,b,r1,r2,e1,(o.of e).here (.bl _)⟩
 ·cases e
theorem zmK:bH K cA .ne (r2 (xQ K cA not)):=by
 intro U H ds vs Q zt rs o;obtain⟨z,e⟩:=o.some';have e:Ca not ds=some z:=e;unfold Ca at e;split at e
 ·obtain⟨b,e1,e2⟩:=kZ.mp e;obtain⟨v,v',rfl,r1,r2⟩:=rs.two (ds:=[]);subst e2;exact⟨_,_,rfl,U,_,_,b,r1,r2,e1,(o.of e).here (.bl _)⟩
 ·cases e
theorem zi7{f:Bool->Bool}{ds:List D}{z:Rz}(h:Ez f ds=some z):∃a b xs k,ds=[a,b]/\mY b=some xs/\memD a xs=some k/\z=.dat (.bl (f k)):=by
 unfold Ez at h;split at h
 ·obtain⟨k,e1,e2⟩:=kZ.mp h;obtain⟨xs,e3,e4⟩:=yK.mp e1;exact⟨_,_,xs,k,rfl,e3,e4,e2.symm⟩
 ·cases h
theorem zm0:bH K cA .inn (r2 (Jm K cA id)):=by
 intro U H ds vs Q zt rs o;obtain⟨z,e⟩:=o.some';obtain⟨a,b,xs,k,rfl,e1,e2,rfl⟩:=zi7 (show Ez id ds=some z from e);obtain⟨v,v',rfl,r1,r2⟩:=rs.two (ds:=[]);exact⟨_,_,rfl,U,_,_,xs,k,r1,r2,e1,e2,(o.of e).here (.bl _)⟩
theorem M9:∀{xs:List D} {ns:List Int} {vs:List V},cH xs=some ns->aB K cA U H xs vs->vs=ns.map V.int
 |[],ns,vs,h,r=>by cases h;cases r;rfl
 |d::xs,ns,vs,h,r=>by
  cases d with
  |int i=>
   simp only[cH,kZ] at h;obtain⟨ns',h1,rfl⟩:=h;cases r with
   |cons a r=>cases a;rw[M9 h1 r];rfl
  |_=>simp[cH] at h
theorem R5:∀(a b:List Int),ltI a b=HT.lexLt a b
 |_,[]=>by cases ‹List Int›<;>rfl
 |[],_::_=>rfl
 |x::xs,y::ys=>by
  unfold ltI;rw[R5 xs ys,HT.jW]
theorem zmP:bH K cA .lt (r2 λx y H Q=>pP (λi j=>.bl (decide (i<j))) x y H Q\/HX K x y H Q):=by
 intro U H ds vs Q zt rs o;obtain⟨z,e⟩:=o.some';have e:IV ds=some z:=e;unfold IV at e;split at e
 ·cases e;obtain⟨v,v',rfl,r1,r2⟩:=rs.two (ds:=[]);exact⟨_,_,rfl,.inl ⟨_,_,r1.int,r2.int,bK.here (o.of rfl) (.bl _)⟩⟩
 ·split at e
  ·rename_i a b h1 h2;cases e;obtain⟨v,v',rfl,r1,r2⟩:=rs.two (ds:=[]);obtain⟨p,us,rfl,t1,q1⟩:=r1.tup;obtain⟨p',us',rfl,t2,q2⟩:=r2.tup;have o2:bK K cA U H (some (.dat (.bl (ltI a b)))) Q:=by
    have o3:bK K cA U H (IV [.tup _,.tup _]) Q:=o;unfold IV at o3;simp only[h1,h2] at o3;exact o3
   refine⟨_,_,rfl,.inr ⟨p,p',a,b,rfl,rfl,by rw[<-M9 h1 q1];exact t1.jG,by rw[<-M9 h2 q2];exact t2.jG,?_⟩⟩;rw[<-R5];exact o2.here (.bl _)
  ·cases e
 ·cases e
theorem zlz:bH K cA .add (r2 (qZ K)):=by
 intro U H ds vs Q zt rs o;have o:bK K cA U H (B_ ds) Q:=o;cases ds with
 |nil=>exact False.elim o
 |cons a t=>
 cases a with
 |int i=>
  cases t with
  |nil=>exact False.elim o
  |cons b t=>
  cases b with
  |int j=>
   cases t with
   |cons _ _=>exact False.elim o
   |nil=>
    obtain⟨v,v',rfl,r1,r2⟩:=rs.two (ds:=[]);exact⟨_,_,rfl,.inl ⟨_,_,r1.int,r2.int,bK.here o (.int _)⟩⟩
  |_=>exact False.elim o
 |tup xs=>
  cases t with
  |nil=>exact False.elim o
  |cons b t=>
  cases b with
  |tup ys=>
   cases t with
   |cons _ _=>exact False.elim o
   |nil=>
    obtain⟨v,v',rfl,r1,r2⟩:=rs.two (ds:=[]);obtain⟨p,us,rfl,t1,q1⟩:=r1.tup;obtain⟨p',us',rfl,t2,q2⟩:=r2.tup;have o:bK K cA U H (if xs.length+ys.length<=sizeLine then some (.dat (.tup (xs++ys))) else none) Q:=o;by_cases hz:xs.length+ys.length<=sizeLine
    ·rw[if_pos hz] at o;refine⟨_,_,rfl,.inr (.inr (.inl ⟨p,p',us,us',rfl,rfl,t1.jG,t2.jG,by rw[<-q1.len,<-q2.len];exact hz,λe=>?_,λe=>?_,λa ha=>o.tup zt (q1.app q2) ha⟩))⟩
     ·subst e;cases q1;exact o.here (.tup t2 q2)
     ·subst e;cases q2;rw[wA] at o;exact o.here (.tup t1 q1)
    ·rw[if_neg hz] at o;exact o.elim
  |_=>exact False.elim o
 |fl xs=>
  cases t with
  |nil=>exact False.elim o
  |cons b t=>
  cases b with
  |fl ys=>
   cases t with
   |cons _ _=>exact False.elim o
   |nil=>
    obtain⟨v,v',rfl,⟨p,us,rfl,t1,q1⟩,⟨p',us',rfl,t2,q2⟩⟩:=rs.two (ds:=[]);have o:bK K cA U H (if xs.length+ys.length<=sizeLine then some (.nw (xs++ys)) else none) Q:=o;by_cases hz:xs.length+ys.length<=sizeLine
    ·rw[if_pos hz] at o;exact⟨_,_,rfl,.inr (.inl ⟨p,p',us,us',rfl,rfl,t1,t2,by rw[<-q1.len,<-q2.len];exact hz,λa ha=>o a _ ha (q1.app q2)⟩)⟩
    ·rw[if_neg hz] at o;exact o.elim
  |_=>exact False.elim o
 |str x=>
  cases t with
  |nil=>exact False.elim o
  |cons b t=>
  cases b with
  |str y=>
   cases t with
   |cons _ _=>exact False.elim o
   |nil=>
    obtain⟨v,v',rfl,r1,r2⟩:=rs.two (ds:=[]);have o:bK K cA U H (if x.length+y.length<=sizeLine then some (.dat (.str (x++y))) else none) Q:=o;by_cases hz:x.length+y.length<=sizeLine
    ·rw[if_pos hz] at o;exact⟨_,_,rfl,.inr (.inr (.inr ⟨_,_,r1.str,r2.str,hz,o.here (.str _)⟩))⟩
    ·rw[if_neg hz] at o;exact o.elim
  |_=>exact False.elim o
 |_=>exact False.elim o
theorem zkr:bH K cA .len (λxs H Q=>∃p ys,xs=[.ref p]/\(cR K H p ys\/gK K H p ys)/\Q (.int ys.length) H):=by
 intro U H ds vs Q zt rs o;have o:bK K cA U H (sH (λxs=>some (.dat (.int xs.length))) ds) Q:=o;unfold sH at o;split at o
 ·obtain⟨v,rfl,r1⟩:=rs.one;obtain⟨z,e⟩:=o.some';obtain⟨xs,e1,e2⟩:=yK.mp e;obtain⟨a,us,rfl,sq,q⟩:=r1.sq e1;cases e2;refine⟨a,us,rfl,sq,?_⟩;rw[<-q.len];exact(o.of e).here (.int _)
 ·exact o.elim
theorem zi2:bH K cA .list (λxs H Q=>∃p ys,xs=[.ref p]/\(cR K H p ys\/gK K H p ys)/\∀l,H l=none->Q (.ref l) (upd H l (.lst ys))):=by
 intro U H ds vs Q zt rs o;have o:bK K cA U H (sH (λxs=>some (.nw xs)) ds) Q:=o;unfold sH at o;split at o
 ·obtain⟨v,rfl,r1⟩:=rs.one;obtain⟨z,e⟩:=o.some';obtain⟨xs,e1,e2⟩:=yK.mp e;obtain⟨a,us,rfl,sq,q⟩:=r1.sq e1;cases e2;exact⟨a,us,rfl,sq,λl hl=>(o.of e) l us hl q⟩
 ·exact o.elim
theorem zhd:bH K cA .tuple (λxs H Q=>∃p ys,xs=[.ref p]/\((cR K H p ys/\∀l,H l=none->Q (.ref l) (upd H l (.tup ys)))\/(gK K H p ys/\Q (.ref p) H))):=by
 intro U H ds vs Q zt rs o;have o:bK K cA U H (qb ds) Q:=o;unfold qb at o;split at o
 ·rename_i d _;obtain⟨v,rfl,r1⟩:=rs.one;cases d with
  |tup xs=>
   obtain⟨a,us,rfl,t,q⟩:=r1.tup;exact⟨a,us,rfl,.inr ⟨t.jG,bK.here o (.tup t q)⟩⟩
  |fl xs=>
   obtain⟨a,us,rfl,t,q⟩:=r1;exact⟨a,us,rfl,.inl ⟨t,λl hl=>bK.tup o zt q hl⟩⟩
  |_=>exact o.elim
 ·exact o.elim
theorem zkG:bH K cA .abs (λxs H Q=>∃i,xs=[.int i]/\Q (.int (if i<0 then -i else i)) H):=by
 intro U H ds vs Q zt rs o;have o:bK K cA U H (qW (λi=>.int (if i<0 then -i else i)) ds) Q:=o;cases ds with
 |nil=>exact False.elim o
 |cons a t=>
 cases a with
 |int i=>
  cases t with
  |cons _ _=>exact False.elim o
  |nil=>
   obtain⟨v,rfl,r1⟩:=rs.one;rw[r1.int];exact⟨_,rfl,bK.here o (.int _)⟩
 |_=>exact False.elim o
theorem ziP:bH K cA .xJ (λxs H Q=>(∃i,xs=[.int i]/\Q (.int i) H)\/∃k,xs=[.bl k]/\Q (.int (if k then 1 else 0)) H):=by
 intro U H ds vs Q zt rs o;have o:bK K cA U H (IW ds) Q:=o;cases ds with
 |nil=>exact False.elim o
 |cons a t=>
 cases a with
 |int i=>
  cases t with
  |cons _ _=>exact False.elim o
  |nil=>
   obtain⟨v,rfl,r1⟩:=rs.one;rw[r1.int];exact .inl ⟨_,rfl,bK.here o (.int _)⟩
 |bl k=>
  cases t with
  |cons _ _=>exact False.elim o
  |nil=>
   obtain⟨v,rfl,r1⟩:=rs.one;rw[r1.bl];exact .inr ⟨_,rfl,bK.here o (.int _)⟩
 |_=>exact False.elim o
theorem zjD:bH K cA .max2 (λxs H Q=>∃i j,xs=[.int i,.int j]/\Q (.int (if j>i then j else i)) H):=by
 intro U H ds vs Q zt rs o;obtain⟨x,y,e,i,j,rfl,rfl,q⟩:=Fb (K:=K) (cA:=cA) (p:=.max2) (f:=λi j=>.int (if j>i then j else i)) rfl (λi j _ _=>.int _) U H ds vs Q zt rs o;exact⟨i,j,e,q⟩
theorem zjh:bH K cA .min2 (λxs H Q=>∃i j,xs=[.int i,.int j]/\Q (.int (if j<i then j else i)) H):=by
 intro U H ds vs Q zt rs o;obtain⟨x,y,e,i,j,rfl,rfl,q⟩:=Fb (K:=K) (cA:=cA) (p:=.min2) (f:=λi j=>.int (if j<i then j else i)) rfl (λi j _ _=>.int _) U H ds vs Q zt rs o;exact⟨i,j,e,q⟩
theorem zgg:bH K cA .divmod (λxs H Q=>∃i j,xs=[.int i,.int j]/\wR i j/\∀p,H p=none->Q (.ref p) (upd H p (.tup [.int (i/j),.int (i%j)]))):=by
 intro U H ds vs Q zt rs o;have o:bK K cA U H (dw (λi j=>if 0<j/\j<1073741824 then some (.tup [.int (i/j),.int (i%j)]) else none) ds) Q:=o;obtain⟨z,e⟩:=o.some';obtain⟨i,j,d,rfl,e1,rfl⟩:=Yi e;obtain⟨c,rfl⟩:=Jp e1;obtain⟨v,v',rfl,r1,r2⟩:=rs.two (ds:=[]);rw[r1.int,r2.int];exact⟨i,j,rfl,c,λp hp=>(o.of e).tup zt (.cons (.int _) (.cons (.int _) .nil)) hp⟩
theorem Yj:∀{xs:List D} {bs:List Bool} {vs:List V},fC xs=some bs->aB K cA U H xs vs->vs=bs.map V.bl
 |[],bs,vs,h,r=>by cases h;cases r;rfl
 |d::xs,bs,vs,h,r=>by
  cases d with
  |bl b=>
   simp only[fC,kZ] at h;obtain⟨bs',h1,rfl⟩:=h;cases r with
   |cons q r=>cases q;rw[Yj h1 r];rfl
  |_=>simp[fC] at h
theorem zmV:bH K cA .ix (r2 (QK K)):=by
 intro U H ds vs Q zt rs o;have o:bK K cA U H (RD ds) Q:=o;unfold RD at o;split at o
 ·rename_i d i _;obtain⟨v,v',rfl,r1,r2⟩:=rs.two (ds:=[]);obtain⟨z,e⟩:=o.some';obtain⟨y,e1,e2⟩:=kZ.mp e;obtain⟨xs,e3,e4⟩:=yK.mp e1;obtain⟨a,us,rfl,sq,q⟩:=r1.sq e3;have key:∃w,L2.qQ us i=some w/\Rep K cA U H y w:=by
   unfold L2.qQ at *;rw[<-q.len];obtain⟨j,h1,h2⟩:=yK.mp e4;obtain⟨w,h3,h4⟩:=q.get h2;exact⟨w,by rw[h1];exact h3,h4⟩
  obtain⟨w,hw,jV⟩:=key;subst e2;have q':=(o.of e).here jV;rcases sq with sq|sq
  ·exact⟨_,_,rfl,.inl ⟨a,us,i,w,rfl,r2.int,sq,hw,q'⟩⟩
  ·exact⟨_,_,rfl,.inr (.inl ⟨a,us,i,w,rfl,r2.int,sq,hw,q'⟩)⟩
 ·exact o.elim
noncomputable def Yk(K:W.Frag):V->Option Int->Option Int->Hp->VK->Prop:=λx lo hi H Q=>Ie K x lo hi H Q\/zN K x lo hi H Q
theorem zkD:wZ X (Yk X.K):=xr.or zjU
theorem zji{d:D}{lo hi:Option Int}{v:V}(zt:Zt U H)(r:Rv K cA U H d v)(o:bK K cA U H (cutD d lo hi) Q):Yk K v lo hi H Q:=by
 cases d with
 |tup xs=>
  obtain⟨a,us,rfl,t,q⟩:=r.tup;refine .inr ⟨a,us,rfl,t.jG,λe=>?_,λp hp=>bK.tup o zt q.cut hp⟩;have hc:cut xs lo hi=xs:=by
   unfold cut;rw[q.len,e.1,e.2,List.drop_zero,Nat.sub_zero,<-q.len,Gv]
  have o:bK K cA U H (some (.dat (.tup (cut xs lo hi)))) Q:=o;rw[hc] at o;exact o.here (.tup t q)
 |fl xs=>
  obtain⟨a,us,rfl,t,q⟩:=r;exact .inl ⟨a,us,rfl,t,λp hp=>o p _ hp q.cut⟩
 |_=>exact o.elim
end
end Mi
namespace L2
open PySem PySem.Spec PyProof.Rows
section
variable {X:Cx}{ao:List (Addr×Obj)}{Z:St}{H:Hp}{s:Shared}{a:Addr}{y v:V}{u r:Value}{o:Option V}{A:Around}{E:Value->Shared->Prop}
theorem Inv.big(I:Inv X ao Z H s):sysModules<s.heap.objs.size:=by
 have h:mainGlobals<s.heap.objs.size:=(I.mod.glob.keeps I.bk).lt;exact Nat.lt_trans Ro h
theorem zj9(I:Inv X ao Z H s)(mu:G3 (H a))(hs:Heap.SameBut a s.heap h')(he:∃q,h'.get? a=some q)(new:bI X.prog X.w (upd H a ob) h' a ob) :
  Inv X ao Z (upd H a ob) {s with heap:=h',toks:=t'}:=
 I.write (x:=a) (e:=a) mu (.inl rfl) (λb q hb z=>(hs.2 b hb).trans z) he new
end
def Cr(i:Expr):Prop:=∀ov iv,subscripted i false ov iv=operate [ov,iv] (getItem ov iv)
theorem zjc{prog:Program}{w:World}{A:Around}{E:Value->Shared->Prop}{s:Shared}{env:Env}{value slice:Expr}{pos:Pos}{T id:String}{Q:Value->Shared->Prop}
  (hl:typeLookup (.type T) "__getitem__"=pure (some (.builtin id))) (hs:Cr slice)
  (h:wpAny (model prog w) A (eval value env) (λo s₁=>wpAny (model prog w) A (eval slice env) (λi s₂=>s₂.TypeIs o T/\wpAny (model prog w) A (getItem o i) Q E s₂) E s₁) E s) :
  wpAny (model prog w) A (eval (.Subscript value slice pos) env) Q E s:=by
 refine Subscript_ (f9 h (λo s₁ h₁=>f9 h₁ (λi s₂ h₂=>?_) λ_ _ x=>x) λ_ _ x=>x);obtain⟨hT,h₂⟩:=h₂;unfold subscriptTail;refine aA ?_;rw[getitemInPython_of_ne hT.not_modules];refine aA (wpAny_specialOf hT hl ?_);have fin:wpAny (model prog w) A (subscripted slice false o i) (λr s₃=>wpAny (model prog w) A (letTemporaryGo value o r >>= λ_=>pure r) Q E s₃) E s₂:=by
  rw[hs o i];exact wpAny_operating (f9 h₂ (λr s₃ h₃=>aA (wpAny_letTemporaryGo (aP h₃))) λ_ _ x=>x)
 first
  |exact aP (aA fin)
  |exact aA (aP (aA fin))
  |exact aA fin
structure M2(X:Cx)(o:Expr)(m:Str)(apos:Pos)(e f:Expr)(cpos:Pos):Prop where
 base:attributeBase o m X.env (eval o X.env)=eval o X.env
 few:((backTo cpos (starEach [e,f] X.env)).all (λx=>!x.1)&&(backToKw cpos (keywordEach [] X.env)).all (λx=>x.1.isSome)
 &&decide (([e,f]:List Expr).length+([]:List Keyword).length+(if ([]:List Keyword).isEmpty then 0 else 1)<30))=true
 line:(apos.endLine==cpos.line)=true
 trees:backTo cpos (starEach [e,f] X.env)=[(false,eval e X.env),(false,eval f X.env)]
end L2
namespace Mi
open PySem PySem.Spec PyProof.Rows L2
section
variable {X:Cx}{cA:Cl}{aq:Nat->Nat->Bool}{aj:Bool}{F:Fn}{EX:XS}{a b c d e o:Expr}{A B C Dd E' O:E}{pos pp p2 apos cpos:Pos}{es:List Expr}{Xs:Es}{fz:Bool}{p:Pr}{x:Str}{U:Ph}{H:Hp}{s:S}{lo hi:Option Expr}{Lo Hi:Eo}
def Jq(X:Cx)(cA:Cl)(aq:Nat->Nat->Bool)(aj:Bool)(F:Fn)(EX:XS)(oe:Option Expr)(m:Eo):Prop:=
 PO X oe (λZ H Q=>∃U J s,aW X.K cA U H Z J/\aD X.K cA U H s/\Run X.K cA (tQ aq aj F m J) U H s (λi _ U' H'=>Q i H') (eX X.K cA EX Z))
theorem PO.weak{oe:Option Expr}{t t':TO}(h:PO X oe t)(f:∀Z H Q,t' Z H Q->t Z H Q):PO X oe t':=by
 intro ao s Z H Q I q;exact h ao s Z H Q I (f Z H Q q)
theorem zmO:Jq X cA aq aj F EX none .no:=PO.weak zjo λZ H Q hh=>un hh λU J s hL hS h=>h.bC hS
theorem zlW(ha:SE X cA aq aj F EX a A):Jq X cA aq aj F EX (some a) (.yes A):=PO.weak (zi0 ha) λZ H Q hh=>un hh λU J s hL hS h=>by
 refine aX hL hS h λx H1 U1 d1 s1 x1 hL1 aG r1 h1=>?_;obtain⟨i,_,e,h3⟩:=Cq r1 h1;exact⟨i,e,h3.bC aG⟩
theorem Jr{β:Type}{Z:L2.St}{J:Vs}{m:Eo}{k:Option Int->M β}{P:β->S->Ph->Hp->Prop}(hL:aW X.K cA U H Z J)(hS:aD X.K cA U H s)(h:Run X.K cA (M.bd (tQ aq aj F m J) k) U H s P (eX X.K cA EX Z)){Q:Option Int->Hp->Prop}
  (f:∀i H1 U1 s1,Ext U H U1 H1->aW X.K cA U1 H1 Z J->aD X.K cA U1 H1 s1->Run X.K cA (k i) U1 H1 s1 P (eX X.K cA EX Z)->Q i H1) :
  ∃U J s,aW X.K cA U H Z J/\aD X.K cA U H s/\Run X.K cA (tQ aq aj F m J) U H s (λi _ U' H'=>Q i H') (eX X.K cA EX Z):=
 ⟨U,J,s,hL,hS,h.bd.imp λi s1 U1 H1 ⟨x1,r1,h1⟩=>f i H1 U1 s1 x1 (hL.mono x1 hS.lz) r1 h1⟩
theorem zmS(ha:SE X cA aq aj F EX a A)(hl:Jq X cA aq aj F EX lo Lo)(hh:Jq X cA aq aj F EX hi Hi):SE X cA aq aj F EX (.Subscript a (.Slice lo hi none p2) pos) (.sl fz A Lo Hi):=PE.weak (zhz zkD ha hl hh) λZ H Q hh=>un hh λU J s hL hS h=>by
 refine aX hL hS h λx H1 U1 d1 s1 x1 hL1 aG r1 h1=>Jr hL1 aG h1 λl H2 U2 s2 x2 hL2 aM h2=>Jr hL2 aM h2 λu H3 U3 s3 x3 nO fU h3=>?_;obtain⟨dd,rv,h4⟩:=Ji fU ((r1.mono x2 aG.lz).mono x3 aM.lz) h3;exact zji fU.zs rv (tR fU h4)
theorem Yl:∀bs:List Bool,(List.range bs.length).all (λi=>(bs[i]?).getD false)=bs.all id
 |[]=>rfl
 |b::r=>by
  rw[gW,O6,yR,List.all_map,yR];have:=Yl r;simp only[Function.comp_def,Dt,List.getElem?_cons_zero,Option.getD_some,id];rw[this]
theorem zgx(hc:X.aj=true):cZ X (.builtin "all") (λxs H Q=>∃(p:Addr) (bs:List Bool),xs=[.ref p]/\cR X.K H p (bs.map V.bl)/\Q (.bl (bs.all id)) H):=by
 intro ao s Z H xs us Q I r ⟨p,bs,e,hp,q⟩;subst e;obtain⟨u,rfl,ru⟩:=Vals.one r;cases (show u=Value.ref p from ru);obtain⟨its,rv,pl,hz⟩:=I.list hp;have hl:s.heap.IsList p its.toArray:=pl.isList;have hpn:p≠s.heap.objs.size:=by
  obtain⟨o,hg,_⟩:=hl;exact cY (bQ hg)
 refine call_all_walk (Ld hl ?_);refine⟨_,_,_,_,_,_,λi=>(bs[i]?).getD false,rfl,Walks.list (A:=X.A.in1) (I.ok.hd hc) _ p hpn its.toArray,⟨⟨_,eF _ rfl,rfl,rfl⟩,hl.push _⟩,?_,λh' tk hk=>?_⟩
 ·intro i v s' Q' E' hP hQ;have hi:its[i]?=some v:=by simpa using hP
  have hb:∃b,bs[i]?=some b:=by
   have cJ:i<its.length:=(fX.mp hi).1;have z:=rv.length;rw[fW] at z;exact⟨_,fj gV⟩
  obtain⟨b,hb⟩:=hb;obtain⟨u,e1,e2⟩:=rv.get (i:=i) (x:=V.bl b) (by rw[jP,hb];rfl);rw[hi] at e1;cases e1;cases (show v=Value.bool b from e2);have hQ:Q' ((bs[i]?).getD false) s':=hQ;rw[hb] at hQ;exact vI hQ
 ·have ez:(List.range its.toArray.size).all (λi=>(bs[i]?).getD false)=bs.all id:=by
   have z:=rv.length;rw[fW] at z;rw[fH,<-z];exact Yl bs
  rw[ez];refine⟨.bl (bs.all id),H,I.kept (h':=h') (t':=tk) (old_kept hk),rfl,q⟩
theorem zl2{K:W.Frag}:bH K cA .all (λxs H Q=>∃(p:Addr) (bs:List Bool),xs=[.ref p]/\cR K H p (bs.map V.bl)/\Q (.bl (bs.all id)) H):=by
 intro U H ds vs Q zt rs o;have o:bK K cA U H (Ce ds) Q:=o;unfold Ce at o;split at o
 ·obtain⟨v,rfl,⟨ad,us,rfl,l,q⟩⟩:=rs.one;obtain⟨z,e⟩:=o.some';obtain⟨bs,e1,e2⟩:=kZ.mp e;subst e2;exact⟨ad,bs,rfl,by rw[<-Yj e1 q];exact l,(o.of e).here (.bl _)⟩
 ·exact o.elim
theorem zh0{h:Heap}{x:D}{e:Value->Bool}:∀{xs:List D} {us:List Value},jq h xs us->(∀u∈us,∃d,Is h d u/\c7 50 d x=some (e u))->(∀d∈xs,∃k,c7 50 d x=some k)->us.countP e=sG x xs:=by
 intro xs
 induction xs with
 |nil=>intro us r _ _;cases r;rfl
 |cons d ds ih=>
  intro us r he hk;cases r with
  |@cons _ u _ us a r=>
   rw[Ai,ih r (λu hu=>he u (gU _ hu)) λd hd=>hk d (gU _ hd)];obtain⟨d',q,Ba⟩:=he u lg;obtain⟨k,Cu⟩:=hk d lg;have:=Yg 50 q a Ba Cu;show _+_=sG x ds+(if c7 50 d x=some true then 1 else 0);rw[Cu,this];cases k<;>rfl
def Js(K:W.Frag)(cA:Cl)(x:V)(xs:List V)(H:Hp)(Q:VK):Prop:=∃U ds d v b,xs=[v]/\Rv K cA U H (.fl ds) x/\Rv K cA U H d v/\memD d ds=some b/\Q (.int (sG d ds:Nat)) H
theorem zgk(hu:X.A.units+60<cLine):Mr X "list.count" (Js X.K cA):=by
 intro ao sh Z H x xs v us Q I rx r ⟨U,ds,d,y,b,e2,r1,r2,hm,q⟩;subst e2;obtain⟨u,rfl,ru⟩:=Vals.one r;have cV:X.A.in1.units+50<cLine:=by show X.A.units+1+50<cLine;lia
 have i1:=zM I r2 ru;cases zM I r1 rx with
 |@fl l _ its p rr=>
  obtain⟨e,he,_⟩:=R3 hm rr;obtain⟨⟨cls,dd,data,sl⟩,hg,hc,n,hd⟩:=p;simp only at hc hd;subst hc hd;refine call_meets PySem.F.slot_list_count ⟨_,hg,rfl⟩ PySem.F.entry_list_count (PySem.F.args_list_count_2 _ _) (SeqAt.list_countAt l _ n dd sl u e) ⟨hg,λw hw=>?_,?_⟩
  ·obtain⟨d',q1,q2⟩:=he w (by simpa using hw);exact E_ 50 cV q1 i1 q2
  ·refine⟨.int (sG d ds:Nat),H,I.tok _,?_,q⟩;rw[<-zh0 rr he (R0 hm)];exact⟨_,rfl⟩
 |oth k=>cases k
def Ym(K:W.Frag)(cA:Cl)(p:Pr)(r:V->List V->Hp->VK->Prop):Prop:=bH K cA p (λvs H Q=>∃x xs,vs=x::xs/\r x xs H Q)
theorem zhp{K:W.Frag}:Ym K cA .count (Js K cA):=by
 intro U H ds vs Q zt rs o;have o:bK K cA U H (qd ds) Q:=o;unfold qd at o;split at o
 ·obtain⟨v,v',rfl,r1,r2⟩:=rs.two (ds:=[]);obtain⟨z,e⟩:=o.some';obtain⟨b,e1,e2⟩:=kZ.mp e;subst e2;exact⟨_,_,rfl,U,_,_,_,b,rfl,r1,r2,e1,(o.of e).here (.int _)⟩
 ·exact o.elim
noncomputable def kdT:Kd->String
 |.list=>"list"
 |.str=>"str"
 |_=>"dict"
theorem zi4{K:W.Frag}{k:Kd}{dd:D}{v:V}(h:p8 k dd=true)(r:Rv K cA U H dd v):Ms K (kdT k) v H:=by
 cases k<;>cases dd<;>first
  |(cases h;done)
  |(obtain⟨a,vs,rfl,l,_⟩:=r;exact .inl ⟨rfl,vs,l⟩)
  |(rw[r.str];exact rfl)
  |(cases (show Rep K cA U H (.fd _ _) v from r) with|@fd _ _ _ q n=>exact .inr (.inr (.inl ⟨rfl,.inl ⟨_,q⟩⟩)))
theorem zjm{k:Kd}{id:String}{name:Str}{r:V->List V->Hp->VK->Prop}(pa:PlainAttrs (kdT k))(slot:Slot (kdT k) name id)(Ig:typeOf (.builtin id)=pure (.type "method_descriptor"))(hm:Mr X id r)(hr:Ym X.K cA p r)
  (ho:SE X cA aq aj F EX o O) (ha:SA X cA aq aj F EX (e::es) Xs)
  (cP:attributeBase o name X.env (eval o X.env)=eval o X.env:=by rfl)
  (pX:((backTo cpos (starEach (e::es) X.env)).all (λx=>!x.1)&&(backToKw cpos (keywordEach [] X.env)).all (λx=>x.1.isSome)
  &&decide ((e::es).length+([]:List Keyword).length+(if ([]:List Keyword).isEmpty then 0 else 1)<30))=true:=by rfl)
  (cQ:(apos.endLine==cpos.line)=true:=by rfl) (hs:starEach (e::es) X.env=(false,eval e X.env)::starEach es X.env:=by rfl) (gj:(backTo cpos (starEach es X.env)).any (·.1)=false:=by rfl) :
  SE X cA aq aj F EX (.Call (.Attribute o name apos) (e::es) [] cpos) (.meth fz p k O Xs):=PE.weak (Xa pa slot Ig hm ho ha cP pX cQ hs gj) λZ H Q hh=>un hh λU J s hL hS h=>by
 refine aX hL hS h λx H1 U1 d1 s1 x1 hL1 aG r1 h1=>?_;obtain⟨dd,rv,h2⟩:=Ji aG r1 h1;by_cases hk:p8 k dd=true
 ·rw[if_pos hk] at h2;refine⟨zi4 hk rv,oO hL1 aG h2 λys H2 U2 ds s2 x2 hL2 aM r2 h3=>?_⟩;obtain⟨ds,rs,h4⟩:=uP aM (.cons (r1.mono x2 aG.lz) r2) h3;obtain⟨_,_,e,q⟩:=hr U2 H2 ds _ _ aM.zs rs (tR aM h4);cases e;exact q
 ·rw[if_neg hk] at h2;exact h2.elim
noncomputable def M_:Kd->String->Bool
 |.int,"int"=>true
 |.int,"bool"=>true
 |.bool,"bool"=>true
 |.str,"str"=>true
 |.tuple,"tuple"=>true
 |.list,"list"=>true
 |.dict,"dict"=>true
 |_,_=>false
noncomputable def uV:Kd->Option Value
 |.int=>some (.type "int")
 |.bool=>some (.type "bool")
 |.str=>some (.type "str")
 |.tuple=>some (.type "tuple")
 |.list=>some (.type "list")
 |.dict=>some (.type "dict")
 |_=>none
theorem zl0{K:W.Frag}{k:Kd}{cu:Value}(h:uV k=some cu){T:String}(hT:T∈["NoneType","bool","int","str","tuple","list","dict"]):PySem.W.kitOne K (.type T) cu=some (M_ k T):=by
 simp only[jA,List.mem_nil_iff,or_false] at hT;cases k<;>simp only[uV] at h<;>cases h<;>rcases hT with rfl|rfl|rfl|rfl|rfl|rfl|rfl<;>rfl
structure Jt(K:W.Frag)(cA:Cl)(aq:Nat->Nat->Bool):Prop where
 xc:∀c,XC K (cA.a c)
 aq:∀c e,PySem.W.kitOne K (.ref (cA.a c)) (.ref (cA.a e))=some (aq c e)
 sy:∀c,PySem.W.kitOne K (.ref (cA.a c)) (.type "ValueError")=some true
noncomputable def Fd(cA:Cl):Kd->V
 |.cls e=>.ref (cA.a e)
 |.sy=>.ty "ValueError"
 |.int=>.ty "int"
 |.bool=>.ty "bool"
 |.str=>.ty "str"
 |.tuple=>.ty "tuple"
 |.list=>.ty "list"
 |.dict=>.ty "dict"
theorem zh3(Cs:uV k=none->Jt X.K cA aq) :
  cZ X (.builtin "isinstance") (λxs H Q=>∃U d v bb,xs=[v,Fd cA k]/\Rv X.K cA U H d v/\lW aq d k=some bb/\Q (.bl bb) H):=by
 intro ao sh Z H xs us Q I r ⟨U,d,v,bb,e,rd,hi,q⟩;subst e;obtain⟨u,w,rfl,ru,R6⟩:=Vals.two r;have uW:∀tk,EP X ao Z Q (.bool bb) {sh with toks:=tk}:=λtk=>⟨.bl bb,H,I.tok tk,rfl,q⟩;have bt:∀{T:String} {Hh:Heap->Prop},PySem.W.KitX X.K u (.type T) Hh->Hh sh.heap->T∈["NoneType","bool","int","str","tuple","list","dict"]->u≠Value.builtin "__main__.__loader__#opaque"->(∃cu,uV k=some cu/\w=cu/\M_ k T=bb)->wpAny (model X.prog X.w) X.A (PySem.call (.builtin "isinstance") [u,w]) (EP X ao Z Q) X.xe sh:=λ{T Hh} R7 hh hT hx ⟨cu,h1,h2,h3⟩=>by
  subst h2 h3;exact PySem.W.kia_one R7 I.lO hh (zl0 h1 hT) hx uW
 have wv:∀cu,uV k=some cu->w=cu:=λcu h=>by
  cases k<;>simp only[uV] at h<;>cases h<;>exact R6
 have fin:∀T,lW aq d k=(match uV k with|some _=>some (M_ k T)|none=>none)->∃cu,uV k=some cu/\w=cu/\M_ k T=bb:=λT h=>by
  rw[hi] at h;cases z:uV k with
  |none=>rw[z] at h;cases h
  |some cu=>rw[z] at h;cases h;exact⟨cu,rfl,wv cu z,rfl⟩
 cases d with
 |non=>
  cases (show Rep X.K cA U H .non v from rd);cases (show u=Value.none from ru);exact bt PySem.W.kitx_none trivial Zaa (λz=>nomatch z) (fin "NoneType" (by cases k<;>rfl))
 |bl b=>
  cases rd.bl;cases (show u=Value.bool b from ru);exact bt PySem.W.kitx_bool trivial Zaa (λz=>nomatch z) (fin "bool" (by cases k<;>rfl))
 |int i=>
  cases rd.int;obtain⟨t,z⟩:=(show ∃t,u=Value.int i t from ru);cases z;exact bt PySem.W.kitx_int trivial Zaa (λz=>nomatch z) (fin "int" (by cases k<;>rfl))
 |str y=>
  cases rd.str;obtain⟨t,z⟩:=(show ∃t,u=Value.str y t from ru);cases z;exact bt PySem.W.kitx_str trivial Zaa (λz=>nomatch z) (fin "str" (by cases k<;>rfl))
 |tup xs=>
  obtain⟨ad,vs,rfl,h1,h2⟩:=rd.tup;cases (show u=Value.ref ad from ru);obtain⟨its,_,ht,_⟩:=I.tuple h1.jG;obtain⟨o,q1,q2,_⟩:=ht;exact bt PySem.W.kitx_tuple ⟨o,q1,q2⟩ Zaa (λz=>nomatch z) (fin "tuple" (by cases k<;>rfl))
 |fl xs=>
  obtain⟨ad,vs,rfl,h1,h2⟩:=rd;cases (show u=Value.ref ad from ru);obtain⟨its,_,ht,_⟩:=I.list h1;obtain⟨o,q1,q2,_⟩:=ht.isList;exact bt PySem.W.kitx_list ⟨o,q1,q2⟩ Zaa (λz=>nomatch z) (fin "list" (by cases k<;>rfl))
 |fd ks vs=>
  cases (show Rep X.K cA U H (.fd ks vs) v from rd) with
  |@fd ad kk ii q1 n=>
   cases (show u=Value.ref ad from ru);obtain⟨_,_,vs,_,o,es',ep,g1,g2,_⟩:=(show bI X.prog X.w H sh.heap ad (.dK [(.inr kk,.int ii)]) from I.hok ad _ q1);exact bt PySem.W.kitx_dict ⟨o,g1,g2.1⟩ Zaa (λz=>nomatch z) (fin "dict" (by cases k<;>rfl))
 |ob c fs=>cases k<;>cases hi
 |any=>cases k<;>cases hi
 |exc c fs=>
  cases (show Rep X.K cA U H (.exc c fs) v from rd) with
  |@exc ad _ _ vs hx rs=>
   cases (show u=Value.ref ad from ru);have hI:∃ox od,PySem.W.InstAt sh.heap ad ox (cA.a c) od:=by
    obtain⟨_,⟨_,_,hx⟩|⟨dx,hx,_,hd,_⟩⟩:=hx
    ·obtain⟨⟨oe,vs,g1,g2,g3,g4⟩,_⟩:=(show bI X.prog X.w H sh.heap ad (xG ad (cA.a c) none) from I.hok ad _ hx);exact⟨oe,none,g1,g2,by unfold PySem.W.notCls;rw[g4],by rw[g3];trivial⟩
    ·obtain⟨⟨oe,vs,g1,g2,g3,g4⟩,_⟩:=(show bI X.prog X.w H sh.heap ad (xG ad (cA.a c) (some dx)) from I.hok ad _ hx);obtain⟨mA,⟨od,es,ep,e1,c1⟩,_⟩:=(show bI X.prog X.w H sh.heap dx (.xd _) from I.hok dx _ hd);exact⟨oe,some od,g1,g2,by unfold PySem.W.notCls;rw[g4],by rw[g3];exact e1⟩
   cases k with
   |cls e=>
    cases (show w=Value.ref (cA.a e) from R6);have z:some (aq c e)=some bb:=hi;cases z;exact PySem.W.kia_one (Xh ((Cs rfl).xc c)) I.lO hI ((Cs rfl).aq c e) (λz=>nomatch z) uW
   |sy=>
    cases (show w=Value.type "ValueError" from R6);have z:some true=some bb:=hi;cases z;exact PySem.W.kia_one (Xh ((Cs rfl).xc c)) I.lO hI ((Cs rfl).sy c) (λz=>nomatch z) uW
   |_=>cases hi
theorem zmw(Cs:uV k=none->Jt X.K cA aq)(hg:Gl X "isinstance")(hm:X.mg "isinstance"=none)(ha:SE X cA aq aj F EX a A)(hk:PE X kx (tC (Fd cA k)))(h1:starEach [a,kx] X.env=(false,eval a X.env)::starEach [kx] X.env:=by rfl)(h2:starEach [kx] X.env=(false,eval kx X.env)::starEach [] X.env:=by rfl)
  (cT:(backTo pos (starEach [kx] X.env)).any (·.1)=false:=by rfl):SE X cA aq aj F EX (.Call (.Name "isinstance" pp) [a,kx] [] pos) (.mX A k):=PE.weak (W3 (zh3 (cA:=cA) (k:=k) Cs) hg hm PyProof.Rows.boot_isinstance (rQ ha (rQ hk wV h2) h1) Ro Ro h1 cT) λZ H Q hh=>un hh λU J s hL hS h=>
 aX hL hS h λv H1 U1 d s1 x1 hL1 aG r1 h1=>by
  show ∃U d' v' bb,[v,Fd cA k]=[v',Fd cA k]/\_;obtain⟨dd,rv,h2⟩:=Ji aG r1 h1;obtain⟨bb,e,h3⟩:=Run.m9 h2;exact⟨U1,dd,v,bb,rfl,rv,e,h3.bC aG _ (.d (.bl bb))⟩
end
theorem Yn(n:Nat):∀is js:List Int,dR (c7 n) (is.map .int) (js.map .int)=some (decide (is=js))
 |[],[]=>rfl
 |[],_::_=>rfl
 |_::_,[]=>rfl
 |i::is,j::js=>by
  have e:c7 n (.int i) (.int j)=some (i==j):=by cases n<;>rfl
  simp only[jk,dR,Yn n is js,e]
  congr 1
  by_cases h:i=j
  ·subst h;by_cases h2:is=js<;>simp[h2]
  ·simp[h]
theorem zlF{a b:Kx}:c7 2 (sO a) (sO b)=some (decide (a=b)):=by
 cases a with
 |non=>cases b<;>rfl
 |int i=>cases b with
  |int j=>
   show some (i==j)=_;by_cases h:i=j
   ·subst h;simp
   ·have hn:¬Kx.int i=Kx.int j:=λz=>h (by cases z;rfl);simp[h,hn]
  |_=>rfl
 |row is=>cases b with
  |row js=>
   show dR (c7 1) (is.map .int) (js.map .int)=_;rw[Yn];by_cases h:is=js
   ·subst h;simp
   ·have hn:¬Kx.row is=Kx.row js:=λz=>h (by cases z;rfl);simp[h,hn]
  |_=>rfl
theorem Yo{x y:List Kx}:c7 3 (iJ x) (iJ y)=some (decide (x=y)):=by
 show dR (c7 2) (x.map sO) (y.map sO)=_
 induction x generalizing y with
 |nil=>cases y<;>rfl
 |cons a x ih=>cases y with
  |nil=>rfl
  |cons b y=>
   simp only[jk,dR,ih,zlF]
   congr 1
   by_cases h:a=b
   ·subst h;by_cases h2:x=y<;>simp[h2]
   ·simp[h]
theorem zdt:∀{xs:List D} {is:List Int},cH xs=some is->xs=is.map .int
 |[],is,h=>by cases h;rfl
 |x::r,is,h=>by
  cases x with
  |int i=>
   simp only[cH,kZ] at h;obtain⟨js,h1,rfl⟩:=h;rw[zdt h1];rfl
  |_=>cases h
theorem zj7{d:D}{k:Kx}(h:uN d=some k):d=sO k:=by
 cases d with
 |non=>cases h;rfl
 |int i=>cases h;rfl
 |tup xs=>
  simp only[uN,kZ] at h;obtain⟨js,h1,rfl⟩:=h;rw[zdt h1];rfl
 |_=>cases h
theorem Yp:∀{xs:List D} {k:List Kx},Cp xs=some k->xs=k.map sO
 |[],k,h=>by cases h;rfl
 |x::r,k,h=>by
  unfold Cp at h;cases e1:uN x with
  |none=>simp only[e1] at h;cases h
  |some a=>cases e2:Cp r with
   |none=>simp only[e1,e2] at h;cases h
   |some b=>
    simp only[e1,e2] at h;cases h;rw[zj7 e1,Yp e2];rfl
theorem zlX{d:D}{k:List Kx}(h:kOf d=some k):d=iJ k:=by
 cases d with
 |tup xs=>show D.tup xs=.tup _;rw[Yp h]
 |_=>cases h
noncomputable def Yq:Kx->Nat
 |.row is=>is.length+1
 |_=>1
noncomputable def uX:List Kx->Nat
 |[]=>0
 |x::r=>Yq x+uX r
section
variable {prog:Program}{w:World}{A:Around}{E:Value->Shared->Prop}{s:Shared}{h h':Heap}
theorem Yr:∀{is:List Int} {us:List Value},jq h (is.map .int) us->ItemsAre (intKind prog w) is us
 |[],us,r=>by cases r;exact .nil
 |i::is,us,r=>by
  cases r with
  |cons a r=>cases a with
   |int i t=>exact .cons (by simp[intKind,Value.isInt]) (Yr r)
   |oth k=>cases k
theorem uY{is:List Int}{a:Value}(x:Is h (.tup (is.map .int)) a):∃b,a=.ref b/\IsTupleKey (intKind prog w) h is b:=by
 cases x with
 |tup p r=>
  obtain⟨o,e,c,n,d⟩:=p;exact⟨_,rfl,o,_,n,e,c,d,by simpa using Yr r⟩
 |oth k=>cases k
theorem zjH{x:Kx}{u:Value}{Q:Int->Shared->Prop}(hu:A.units<cLine)(hx:Is s.heap (sO x) u)(q:Q (RP x) {s with toks:=s.toks+Yq x}):wpAny (model prog w) A (pyHash u) Q E s:=by
 cases x with
 |non=>
  cases hx with
  |non=>exact PySem.W.pyHash_slot (T:="NoneType") rfl F.slot_NoneType_hash F.entry_NoneType_hash (F.args_NoneType_hash_1 _) (beq_builtin_none _) (.inr hu) (aA (aP (aA (wpAny_mkInt (aP ⟨_,_,rfl,q⟩)))))
  |oth k=>cases k
 |int i=>
  cases hx with
  |int i t=>exact wpAny_pyHash_int q
  |oth k=>cases k
 |row is=>
  obtain⟨b,rfl,k⟩:=uY (prog:=prog) (w:=w) hx;exact wpAny_pyHash_tuple hu k q
theorem Ys{k:List Kx}:∀{r:List Kx} {us:List Value} {b:Array Int} {s:Shared} {Q:Array Int->Shared->Prop},A.units<cLine->jq s.heap (r.map sO) us->(∀b':Array Int,b'.toList=b.toList++r.map RP->Q b' {s with toks:=s.toks+uX r})->
  wpAny (model prog w) A (forIn us b λx r=>do let h <-pyHash x;pure PUnit.unit;pure (ForInStep.yield (r.push h))) Q E s
 |[],us,b,s,Q,hu,x,q=>by cases x;exact aP (q b Zaa)
 |a::r,us,b,s,Q,hu,x,q=>by
  cases x with
  |cons x1 x2=>
   rw[DR];refine aA (aA (zjH hu x1 (aA (aP (aP ?_)))));refine Ys (k:=k) hu x2 λb' e=>?_;have:=q b' (by simp[e]);simpa [uX,Nat.add_assoc] using this
theorem zh5{k:List Kx}{a:Addr}{Q:Int->Shared->Prop}(hu:A.units+1<cLine)(hk:Is s.heap (iJ k) (.ref a))(q:Q (qX k) {s with toks:=s.toks+(uX k+1)}):wpAny (model prog w) A (pyHash (.ref a)) Q E s:=by
 cases hk with
 |oth k=>cases k
 |tup p r=>
  obtain⟨o,e,c,n,d⟩:=p;refine PySem.W.pyHash_slot (T:="tuple") ⟨_,e,c⟩ F.slot_tuple_hash F.entry_tuple_hash (F.args_tuple_hash_1 _) (beq_builtin_none _) (.inr gV) ?_;show wpAny _ _ (Builtin.Tuple.tupleItemsOf (.ref a) >>= _) _ _ s;refine aA (wpAny_tupleItemsOf e d (aA ?_));rw[<-Lb];refine Ys (A:=A.in1) (k:=k) (show A.units+1<cLine from hu) (by simpa using r) λb hb=>?_;show wpAny _ _ (retInt (Builtin.Tuple.tupleHashOf b.toList)) _ _ _;rw[hb];exact aA (wpAny_mkInt (aP ⟨_,_,rfl,by simpa [Nat.add_assoc,qX] using q⟩))
theorem zh1(ht:∀a xs,h.IsTuple a xs->h'.IsTuple a xs)(hl:∀a xs,h.IsList a xs->h'.IsList a xs){d:D}{u:Value}(x:Is h d u):Is h' d u:=
 Is.rec (motive_1:=λd u _=>Is h' d u) (motive_2:=λd u _=>jq h' d u) .non .bl .int .str (λp _ r=>.tup (ht _ _ p) r) (λp _ r=>.fl (hl _ _ p) r) (λk=>.oth k) .nil (λ_ _ a r=>.cons a r) x
theorem zhW:∀{n:Nat} {x:Kx} {u:Value} {Q:Bool->Shared->Prop},Is s.heap (sO x) u->Q true s->wpAny (model prog w) A (eqIsQuiet (n+1) u) Q E s:=by
 intro n x u Q hx q;cases x with
 |non=>
  cases hx with
  |non=>rw[eqIsQuiet_byValue _ rfl];exact aP q
  |oth k=>cases k
 |int i=>
  cases hx with
  |int i t=>rw[eqIsQuiet_byValue _ rfl];exact aP q
  |oth k=>cases k
 |row is=>
  obtain⟨b,rfl,k⟩:=uY (prog:=prog) (w:=w) hx;have ty:=k.typeIs;obtain⟨o,items,m,ho,_,hd,hi⟩:=k;unfold eqIsQuiet;refine aA (wpAny_specialOf ty F.slot_tuple_eq.lookup ?_);show wpAny _ A (isInstance (.ref b) (.type "tuple") >>= _) Q E s;refine aA (Li ty isSubtype_tuple_tuple ?_);simp only[Bool.not_true,rG,nU];refine aA (rK ho hd (aA ?_));show wpAny _ A (forIn items _ _) _ E s;rw[<-Lb];refine wpAny_forIn_list _ (λl r t=>r.1=none/\t=s/\∀v∈l,carriedByValue v=true) _ (λv l r t z=>?_) (λr t z=>?_) _ _ ⟨rfl,rfl,hi.byValue⟩
  ·obtain⟨_,rfl,pY⟩:=z;rw[eqIsQuiet_byValue _ (pY v lg)];exact aA (aP (aP ⟨rfl,rfl,λy hy=>pY y (gU _ hy)⟩))
  ·obtain⟨r1,r2⟩:=r;obtain⟨z1,rfl,_⟩:=z;cases z1;exact aP q
theorem zga{k:List Kx}{a:Addr}{Q:Bool->Shared->Prop}(hk:Is s.heap (iJ k) (.ref a))(q:Q true s):wpAny (model prog w) A (eqIsQuiet 8 (.ref a)) Q E s:=by
 cases hk with
 |oth k=>cases k
 |@tup _ _ its p r=>
  obtain⟨o,ho,c,n,hd⟩:=p;unfold eqIsQuiet;refine aA (wpAny_specialOf ⟨_,ho,c⟩ F.slot_tuple_eq.lookup ?_);show wpAny _ A (isInstance (.ref a) (.type "tuple") >>= _) Q E s;refine aA (Li ⟨_,ho,c⟩ isSubtype_tuple_tuple ?_);simp only[Bool.not_true,rG,nU];refine aA (rK ho hd (aA ?_));show wpAny _ A (forIn its.toArray _ _) _ E s;rw[<-Lb];refine wpAny_forIn_list _ (λl r t=>r.1=none/\t=s/\∀v∈l,∃x,Is s.heap (sO x) v) _ (λv l r t z=>?_) (λr t z=>?_) _ _ ⟨rfl,rfl,?_⟩
  ·obtain⟨_,rfl,pY⟩:=z;obtain⟨x,hx⟩:=pY v lg;exact aA (zhW (n:=6) hx (aP ⟨rfl,rfl,λy hy=>pY y (gU _ hy)⟩))
  ·obtain⟨r1,r2⟩:=r;obtain⟨z1,rfl,_⟩:=z;cases z1;exact aP q
  ·intro v hv;have:∀{ks:List Kx} {us:List Value},jq s.heap (ks.map sO) us->∀v∈us,∃x,Is s.heap (sO x) v:=λ{ks}=>by
    induction ks with
    |nil=>intro us r v hv;cases r;cases hv
    |cons y ks ih=>
     intro us r v hv;cases r with
     |cons a r=>
      rcases jA.mp hv with rfl|hv
      ·exact⟨y,a⟩
      ·exact ih r v hv
   exact this r v (by simpa using hv)
end
noncomputable def gG(prog:Program)(w:World):HeapKind prog w (List Kx) where
 is:=λh k a=>Is h (iJ k) (.ref a)
 hash:=qX
 draws:=λk=>uX k+1
 room:=λA=>A.units+4<cLine
 inj:=λx y=>lC (RX 3 x y Yo)
 keeps:=λ{h h' k a d o es ep} x ho hd hs=>zh1 (λb xs ⟨q,e,c,n,z⟩=>⟨q,(hs.2 b λy=>by subst y;rw[ho] at e;cases e;rw[hd] at z;cases z).trans e,c,n,z⟩) (λb xs ⟨q,e,c,n,z⟩=>⟨q,(hs.2 b λy=>by subst y;rw[ho] at e;cases e;rw[hd] at z;cases z).trans e,c,n,z⟩) x
 pyHash:=λhu hk q=>zh5 gV hk q
 eqBool:=λ{A E s x y a b Q} hu hx hy q=>E_ 3 (show A.units+3<cLine by lia) hx hy Yo _ _ _ _ q
 quiet:=λhk q=>zga hk q
section
variable {K:W.Frag}{cA:Cl}{U U':Ph}{H H':Hp}{s:S}
theorem TupAt.kE(e:∀a,U'.z a->U.z a){a:Addr}{vs:List V}(h:TupAt K U H a vs):TupAt K U' H a vs:=h.imp (λ⟨p,n⟩=>⟨p,λz=>n (e a z)⟩) id
theorem LstAt.kE(e:∀a,U'.z a->U.z a){a:Addr}{vs:List V}(h:LstAt K U H a vs):LstAt K U' H a vs:=h.imp (λ⟨p,n⟩=>⟨p,λz=>n (e a z)⟩) id
theorem ExcAt.kE(e:∀a,U'.z a->U.z a){a:Addr}{c:Nat}{vs:List V}(h:ExcAt cA U H a c vs):ExcAt cA U' H a c vs:=
 ⟨λz=>h.1 (e a z),h.2.imp id λ⟨dx,p,n,q,l⟩=>⟨dx,p,λz=>n (e dx z),q,l⟩⟩
theorem qj.kE(e:∀a,U'.z a->U.z a){a:Addr}{c:Nat}{vs:List V}(h:qj cA U H a c vs):qj cA U' H a c vs:=⟨λz=>h.1 (e a z),h.2⟩
theorem Rep.kE(e:∀a,U'.z a->U.z a){d:D}{v:V}(h:Rep K cA U H d v):Rep K cA U' H d v:=
 Rep.rec (motive_1:=λd v _=>Rep K cA U' H d v) (motive_2:=λd v _=>aB K cA U' H d v) .non .bl .int .str (λh _ i=>.tup (h.kE e) i) (λh _ i=>.fl (h.kE e) i) (λh n=>.fd h (λz=>n (e _ z))) (λh _ i=>.exc (h.kE e) i) (λh _ i=>.ob (h.kE e) i) .any .nil (λ_ _ i j=>.cons i j) h
theorem aB.kE(e:∀a,U'.z a->U.z a){d:List D}{v:List V}(h:aB K cA U H d v):aB K cA U' H d v:=
 aB.rec (motive_1:=λd v _=>Rep K cA U' H d v) (motive_2:=λd v _=>aB K cA U' H d v) .non .bl .int .str (λh _ i=>.tup (h.kE e) i) (λh _ i=>.fl (h.kE e) i) (λh n=>.fd h (λz=>n (e _ z))) (λh _ i=>.exc (h.kE e) i) (λh _ i=>.ob (h.kE e) i) .any .nil (λ_ _ i j=>.cons i j) h
theorem lu.kE(e:∀a,U'.z a->U.z a){a:Addr}{o:SO}(h:lu K cA U H a o):lu K cA U' H a o:=h.map (λ_ _ q=>q) λ_ _ r=>r.kE e
theorem Rep.zl{d:D}{v:V}(h:Rep K cA U H d v)(l:List Addr):Rep K cA ⟨U.z,l⟩ H d v:=Rep.kE (U:=U) (U':=⟨U.z,l⟩) (λ_ z=>z) h
theorem aB.zl{d:List D}{v:List V}(h:aB K cA U H d v)(l:List Addr):aB K cA ⟨U.z,l⟩ H d v:=aB.kE (U:=U) (U':=⟨U.z,l⟩) (λ_ z=>z) h
theorem lu.zl{a:Addr}{o:SO}(h:lu K cA U H a o)(l:List Addr):lu K cA ⟨U.z,l⟩ H a o:=lu.kE (U:=U) (U':=⟨U.z,l⟩) (λ_ z=>z) h
noncomputable def adr(l:List Addr):List Nat->List Addr
 |[]=>[]
 |n::r=>match l[n]? with
  |some a=>a::adr l r
  |none=>adr l r
theorem Fe{l:List Addr}:∀{ns:List Nat} {a:Addr},a∈adr l ns->∃n∈ns,l[n]?=some a
 |[],a,h=>by cases h
 |n::r,a,h=>by
  unfold adr at h;cases e:l[n]? with
  |none=>
   simp only[e] at h;obtain⟨m,h1,h2⟩:=Fe h;exact⟨m,gU _ h1,h2⟩
  |some b=>
   simp only[e] at h;rcases jA.mp h with rfl|h
   ·exact⟨n,lg,e⟩
   ·obtain⟨m,h1,h2⟩:=Fe h;exact⟨m,gU _ h1,h2⟩
theorem Yt{s:S}:∀{ns:List Nat} {s0:S} {i n:Nat},iI s ns=some s0->ns[i]?=some n->s0[i]?=s[n]?/\∃o,s[n]?=some o
 |[],s0,i,n,h,e=>by simp at e
 |m::r,s0,i,n,h,e=>by
  unfold iI at h;cases e1:s[m]? with
  |none=>simp only[e1] at h;cases h
  |some o=>
   cases e2:iI s r with
   |none=>simp only[e1,e2] at h;cases h
   |some q=>
    simp only[e1,e2] at h;cases h;cases i with
    |zero=>simp at e;subst e;exact⟨by simp[e1],o,e1⟩
    |succ i=>simpa using Yt e2 (by simpa using e)
theorem Yu{s:S}:∀{ns:List Nat} {s0:S},iI s ns=some s0->s0.length=ns.length
 |[],s0,h=>by cases h;rfl
 |m::r,s0,h=>by
  unfold iI at h;cases e1:s[m]? with
  |none=>simp only[e1] at h;cases h
  |some o=>
   cases e2:iI s r with
   |none=>simp only[e1,e2] at h;cases h
   |some q=>
    simp only[e1,e2] at h;cases h;rw[gW,gW,Yu e2]
theorem Ju{l:List Addr}:∀{ns:List Nat} {i n:Nat},(∀n∈ns,∃a,l[n]?=some a)->ns[i]?=some n->(adr l ns)[i]?=l[n]?
 |[],i,n,_,e=>by simp at e
 |m::r,i,n,h,e=>by
  obtain⟨a,ha⟩:=h m lg;unfold adr;simp only[ha];cases i with
  |zero=>simp at e;subst e;simp[ha]
  |succ i=>simpa using Ju (λn hn=>h n (gU _ hn)) (by simpa using e)
theorem Jv{l:List Addr}:∀{ns:List Nat},(∀n∈ns,∃a,l[n]?=some a)->(adr l ns).length=ns.length
 |[],_=>rfl
 |m::r,h=>by
  obtain⟨a,ha⟩:=h m lg;unfold adr;simp only[ha];rw[gW,gW,Jv (λn hn=>h n (gU _ hn))]
theorem Yv{l:List Addr}(hl:l.Nodup):∀{ns:List Nat},ns.Nodup->(∀n∈ns,∃a,l[n]?=some a)->(adr l ns).Nodup
 |[],_,_=>Ao
 |m::r,hn,h=>by
  obtain⟨a,ha⟩:=h m lg;unfold adr;simp only[ha];obtain⟨h1,h2⟩:=wB.mp hn;refine wB.mpr ⟨λz=>?_,Yv hl h2 (λn hn=>h n (gU _ hn))⟩;obtain⟨n,q1,q2⟩:=Fe z;have:m=n:=(Pn (fX.mp ha).1 hl).mp (ha.trans q2.symm);exact h1 (this▸q1)
theorem Fg{s:S}:∀{ns:List Nat} {s1:S},(dB s ns s1).length=s.length
 |[],s1=>by cases s1<;>rfl
 |n::r,[]=>rfl
 |n::r,o::q=>by
  show (dB (s.set n o) r q).length=_;rw[Fg,pI]
theorem R8{s:S}:∀{ns:List Nat} {s1:S} {m:Nat},m∉ns->(dB s ns s1)[m]?=s[m]?
 |[],s1,m,_=>by cases s1<;>rfl
 |n::r,[],m,_=>rfl
 |n::r,o::q,m,h=>by
  show (dB (s.set n o) r q)[m]?=_;rw[R8 (λz=>h (gU _ z)),qH (λz=>h (by rw[z];exact lg))]
theorem Yw{s:S}:∀{ns:List Nat} {s1:S} {i m:Nat} {o:SO},ns.Nodup->ns[i]?=some m->s1[i]?=some o->m<s.length->(dB s ns s1)[m]?=some o
 |[],s1,i,m,o,_,e,_,_=>by simp at e
 |n::r,[],i,m,o,_,_,e,_=>by simp at e
 |n::r,q::qs,i,m,o,hn,e1,e2,hm=>by
  show (dB (s.set n q) r qs)[m]?=_;obtain⟨h1,h2⟩:=wB.mp hn;cases i with
  |zero=>
   simp at e1 e2;subst e1 e2;rw[R8 h1,yL hm]
  |succ i=>exact Yw h2 (by simpa using e1) (by simpa using e2) (by rw[pI];exact hm)
theorem zfy:∀{xs:List Xv} {vs:List V} (l0:List Addr) (z:Addr->Prop) (k:Nat),aR K cA U H xs vs->U.z=z->(∀i n,(locs xs)[i]?=some n->l0[k+i]?=U.l[n]?)->aR K cA ⟨z,l0⟩ H (dz k xs) vs
 :=by
 intro xs vs l0 z k r0
 induction r0 generalizing k with
 |nil=>exact λ_ _=>.nil
 |@cons x v xs vs a q ih=>
  intro ez h;cases a with
  |d a=>exact .cons (.d (a.kE λb hb=>by rw[ez];exact hb)) (ih k ez h)
  |@l n a' a=>
   refine .cons (.l ?_) (ih (k+1) ez λi m e=>?_)
   ·have:=h 0 n rfl;rw[Nat.add_zero] at this;show l0[k]?=_;rw[this];exact a
   ·have:=h (i+1) m (by simpa [locs] using e);rw[<-this]
    congr 1
    lia
theorem ze4:∀{xs:List Xv} {vs:List V},aR K cA U H xs vs->∀n∈locs xs,∃a,U.l[n]?=some a
 :=by
 intro xs vs r0
 induction r0 with
 |nil=>exact λn h=>by cases h
 |cons a q ih=>
  intro n h;cases a with
  |d a=>exact ih n h
  |l a=>
   rcases jA.mp h with rfl|h
   ·exact⟨_,a⟩
   ·exact ih n h
theorem Yx{xs:List Xv}{U1:Ph}{s0 s1:S}(hS:aD K cA U H s)(hn:(locs xs).Nodup)(ht:∀n∈locs xs,∃a,U.l[n]?=some a)(x:Ext ⟨U.z,adr U.l (locs xs)⟩ H U1 H')(r1:aD K cA U1 H' s1) :
  Ext U H ⟨U1.z,U.l⟩ H'/\aD K cA ⟨U1.z,U.l⟩ H' (dB s (locs xs) s1):=by
 have aq:∀a∈adr U.l (locs xs),a∈U.l:=λa ha=>by obtain⟨n,_,q⟩:=Fe ha;exact gJ q
 obtain⟨r,er,hr⟩:=x.more;have er:U1.l=adr U.l (locs xs)++r:=er;refine⟨⟨⟨[],by simp,by simp⟩,λa h=>x.ql a h,λa h=>x.j_ a h,λa o h t n=>x.frame a o h t λz=>n (aq a z),x.stay⟩,?_⟩;refine⟨by rw[Fg];exact hS.len,λn o a e1 e2=>?_,hS.uniq,λa ha=>x.ql a (hS.lz a ha),r1.zt⟩;have e2:U.l[n]?=some a:=e2;by_cases cV:n∈locs xs
 ·obtain⟨i,hi,ei⟩:=yN cV;have ei:(locs xs)[i]?=some n:=by rw[fj hi,ei]
  have ha:(adr U.l (locs xs))[i]?=some a:=by rw[Ju ht ei];exact e2
  have Yy:U1.l[i]?=some a:=by rw[er,pq (fX.mp ha).1];exact ha
  have cJ:i<s1.length:=by rw[<-r1.len];exact(fX.mp Yy).1
  have hb:=Yw (s:=s) (s1:=s1) hn ei (fj cJ) (by rw[<-hS.len];exact(fX.mp e2).1);rw[hb] at e1;cases e1;exact lu.zl (r1.obj i _ a (fj cJ) Yy) _
 ·rw[R8 cV] at e1;have R9:a∉adr U.l (locs xs):=λz=>by
   obtain⟨m,q1,q2⟩:=Fe z;have:n=m:=(Pn (fX.mp e2).1 hS.uniq).mp (e2.trans q2.symm);exact cV (this▸q1)
  exact(hS.obj n o a e1 e2).map (λ_ t q=>x.frame a _ q t R9) λ_ _ r=>Rep.zl ((Rep.zl r _).mono x λa ha=>hS.lz a (aq a ha)) _
theorem zev{F:List Xv->M Xv}{xs:List Xv}{vs:List V}{Q:VK}{EE:Nat->List D->Ph->Hp->Prop}(hS:aD K cA U H s)(r:aR K cA U H xs vs)
  (hE:∀c fs U1 U2 H',U1.z=U2.z->EE c fs U1 H'->EE c fs U2 H')
  (h:Run K cA (bU F xs) U H s (λx _ U' H'=>∀v,aU K cA U' H' x v->Q v H') (λc fs _ U' H'=>EE c fs U' H')) :
  ∃U0 s0,aR K cA U0 H (dz 0 xs) vs/\aD K cA U0 H s0/\Run K cA (F (dz 0 xs)) U0 H s0 (λx _ U' H'=>∀v,aU K cA U' H' x v->Q v H') (λc fs _ U' H'=>EE c fs U' H'):=by
 unfold Run bU at h;by_cases hn:(locs xs).Nodup
 ·simp only[if_pos hn] at h;have ht:=ze4 r;have aq:∀a∈adr U.l (locs xs),a∈U.l:=λa ha=>by obtain⟨n,_,q⟩:=Fe ha;exact gJ q
  cases e0:iI s (locs xs) with
  |none=>simp only[e0] at h
  |some s0=>
   simp only[e0] at h;refine⟨⟨U.z,adr U.l (locs xs)⟩,s0,zfy _ _ 0 r rfl (λi n e=>by rw[Nat.zero_add];exact Ju ht e),?_,?_⟩
   ·refine⟨by rw[Yu e0];exact Jv ht,λi o a e1 e2=>?_,Yv hS.uniq hn ht,λa ha=>hS.lz a (aq a ha),hS.zt⟩;have e2:(adr U.l (locs xs))[i]?=some a:=e2;have hi:i<(locs xs).length:=by rw[<-Jv ht];exact(fX.mp e2).1
    have ei:(locs xs)[i]?=some ((locs xs)[i]):=fj hi;rw[Ju ht ei] at e2;rw[(Yt e0 ei).1] at e1;exact lu.zl (hS.obj _ o a e1 e2) _
   ·unfold Run;cases e1:F (dz 0 xs) s0 with
    |none=>simp only[e1] at h
    |some q=>
     obtain⟨q,s1⟩:=q;simp only[e1] at h;cases q with
     |er c fs=>
      intro U1 H' x r1;obtain⟨x2,r2⟩:=Yx (s0:=s0) hS hn ht x r1;exact hE c fs ⟨U1.z,U.l⟩ U1 H' rfl (h ⟨U1.z,U.l⟩ H' x2 r2)
     |ok y=>
      intro U1 H' x r1 v rv;obtain⟨x2,r2⟩:=Yx (s0:=s0) hS hn ht x r1;cases y with
      |d w=>
       cases rv with
       |d rv=>exact h ⟨U1.z,U.l⟩ H' x2 r2 v (.d (Rep.zl rv _))
      |l n=>
       cases rv with
       |@l _ a hl=>
        obtain⟨rr,er,hr⟩:=x.more;have er:U1.l=adr U.l (locs xs)++rr:=er;cases em:(locs xs)[n]? with
        |some m=>
         simp only[em] at h;refine h _ H' x2 r2 _ (.l ?_);show U.l[m]?=some a;have ha:(adr U.l (locs xs))[n]?=U.l[m]?:=Ju ht em;have cJ:n<(adr U.l (locs xs)).length:=by rw[Jv ht];exact(fX.mp em).1
         rw[er,pq cJ] at hl;rw[<-ha];exact hl
        |none=>
         simp only[em] at h;have vV:(adr U.l (locs xs)).length<=n:=by rw[Jv ht];exact qG.mp em
         have Er:a∈rr:=by
          rw[er,pF vV] at hl;exact gJ hl
         have R9:a∉U.l:=λz=>by
          obtain⟨o,eo⟩:=hS.zt a (hS.lz a z);rw[hr a Er] at eo;cases eo
         cases eo:s1[n]? with
         |none=>simp only[eo] at h
         |some o=>
          simp only[eo] at h;have ho:=r1.obj n o a eo hl;refine h ⟨U1.z,U.l++[a]⟩ H' ⟨⟨[a],rfl,by simpa using hr a Er⟩,x2.ql,x2.j_,x2.frame,x2.stay⟩ ?_ _ (.l (by show (U.l++[a])[s.length]?=_;rw[<-hS.len];simp));refine⟨by show (U.l++[a]).length=_;rw[pA,pA,Fg,hS.len];rfl,λm o' a' e1 e2=>?_,?_,λb hb=>?_,r1.zt⟩
          ·have e2:(U.l++[a])[m]?=some a':=e2;by_cases hm:m<s.length
           ·rw[pq (by rw[Fg];exact hm)] at e1;rw[pq (by rw[hS.len];exact hm)] at e2;exact lu.zl (r2.obj m o' a' e1 e2) _
           ·have vW:m=s.length:=by
             have z:=(fX.mp e2).1;rw[pA,hS.len] at z;simp at z
             lia
            subst vW;rw[pF (by rw[Fg];exact cj _)] at e1;rw[pF (by rw[hS.len];exact cj _)] at e2;simp[Fg] at e1;simp[hS.len] at e2;subst e1 e2;exact lu.zl ho _
          ·show (U.l++[a]).Nodup;rw[Lg];refine⟨hS.uniq,by simp,λb hb c hc e=>?_⟩;simp at hc;subst hc e;exact R9 hb
          ·have hb:b∈U.l++[a]:=hb;rcases nG.mp hb with z|z
           ·exact x2.ql b (hS.lz b z)
           ·simp at z;subst z;exact r1.lz _ (gJ hl)
 ·simp only[if_neg hn] at h
end
section
variable {X:Cx}{cA:Cl}{aq:Nat->Nat->Bool}{aj:Bool}{F:Fn}{EX:XS}{a b c d e o:Expr}{A B C Dd E' O:E}{pos pp p2 apos cpos:Pos}{es:List Expr}{Xs:Es}{fz:Bool}{p:Pr}{x:Str}{U:Ph}{H:Hp}{s:S}
theorem Nb{K:W.Frag}{β:Type}{x:Xv}{v:V}{k:Nat×List D->M β}{P:β->S->Ph->Hp->Prop}{Ee:Nat->List D->S->Ph->Hp->Prop}(hS:aD K cA U H s)(r:aU K cA U H x v)(h:Run K cA (M.bd (dh x) k) U H s P Ee) :
  ∃n ad xs vs,x=.l n/\v=.ref ad/\s[n]?=some (.lst xs)/\U.l[n]?=some ad/\H ad=some (.lst vs)/\aB K cA U H xs vs/\Run K cA (k (n,xs)) U H s P Ee:=by
 cases r with
 |d _=>exact h.elim
 |@l n ad hl=>
  unfold Run M.bd dh at h;dsimp only at h;cases e:s[n]? with
  |none=>rw[e] at h;exact h.elim
  |some o=>
   rw[e] at h;cases o with
   |lst xs=>
    obtain⟨vs,q1,q2⟩:=hS.obj n _ _ e hl;exact⟨n,ad,xs,vs,rfl,rfl,e,hl,q1,q2,h⟩
   |_=>exact h.elim
theorem zjQ(ho:SE X cA aq aj F EX o O)(ha:SE X cA aq aj F EX a A)
  (cP:attributeBase o "append" X.env (eval o X.env)=eval o X.env:=by rfl)
  (pX:((backTo cpos (starEach [a] X.env)).all (λx=>!x.1)&&(backToKw cpos (keywordEach [] X.env)).all (λx=>x.1.isSome)
  &&decide ([a].length+([]:List Keyword).length+(if ([]:List Keyword).isEmpty then 0 else 1)<30))=true:=by rfl)
  (cQ:(apos.endLine==cpos.line)=true:=by rfl) (hs:starEach [a] X.env=(false,eval a X.env)::starEach [] X.env:=by rfl) (gj:(backTo cpos (starEach [] X.env)).any (·.1)=false:=by rfl) :
  SE X cA aq aj F EX (.Call (.Attribute o "append" apos) [a] [] cpos) (.push O A):=PE.weak (Xa O2 PySem.F.slot_list_append PySem.F.type_list_append QS ho (rQ ha wV hs) cP pX cQ hs gj) λZ H Q hh=>un hh λU J s hL hS h=>by
 refine aX hL hS h λx H1 U1 d1 s1 x1 hL1 aG r1 h1=>?_;obtain⟨n,ad,xs,vs,rfl,rfl,e1,f1,g1,q1,h2⟩:=Nb aG r1 h1;refine⟨.inl ⟨rfl,vs,cR.of g1⟩,aX hL1 aG h2 λy H2 U2 d2 s2 x2 hL2 aM r2 h3=>?_⟩;obtain⟨dd,_,rd,h4⟩:=M6 r2 h3;obtain⟨n',ad',ys,us,en,ea,e2,f2,g2,q2,h5⟩:=Nb aM (r1.mono x2 aG.lz) h4;cases en;cases ea;by_cases hz:ys.length<sizeLine
 ·have h5:Run X.K cA (M.bd (putL n (ys++[dd])) λ_=>M.ret (Xv.d .non)) U2 H2 s2 (λd _ U' H'=>∀v,aU X.K cA U' H' d v->Q v H') (eX X.K cA EX Z):=by
   have h6:Run X.K cA (if ys.length<sizeLine then M.bd (putL n (ys++[dd])) λ_=>M.ret (Xv.d .non) else M.no) U2 H2 s2 (λd _ U' H'=>∀v,aU X.K cA U' H' d v->Q v H') (eX X.K cA EX Z):=h5;rw[if_pos hz] at h6;exact h6
  refine⟨ad,us,y,rfl,rfl,g2,by rw[<-q2.len];exact hz,?_⟩;exact h5 U2 _ (Ext.write f2 ⟨_,g2⟩) (aM.write e2 f2 (q2.app (.cons rd .nil))) _ (.d .non)
 ·have h6:Run X.K cA (if ys.length<sizeLine then M.bd (putL n (ys++[dd])) λ_=>M.ret (Xv.d .non) else M.no) U2 H2 s2 (λd _ U' H'=>∀v,aU X.K cA U' H' d v->Q v H') (eX X.K cA EX Z):=h5;rw[if_neg hz] at h6;exact h6.elim
theorem zdT{α:Type}{xs:List α}{d:α}(h:xs.getLast?=some d):xs[xs.length-1]?=some d:=by
 rw[List.getLast?_eq_getElem?] at h;exact h
theorem aB.dropLast{K:W.Frag}{ds:List D}{vs:List V}(r:aB K cA U H ds vs):aB K cA U H ds.dropLast vs.dropLast:=by
 rw[List.dropLast_eq_take,List.dropLast_eq_take,r.len];exact r.take _
theorem zkw(ho:SE X cA aq aj F EX o O)(cP:attributeBase o "pop" X.env (eval o X.env)=eval o X.env:=by rfl)(cQ:(apos.endLine==cpos.line)=true:=by rfl) :
  SE X cA aq aj F EX (.Call (.Attribute o "pop" apos) [] [] cpos) (.pop O):=PE.weak (zk5 O2 PySem.F.slot_list_pop PySem.F.type_list_pop zlL ho cP cQ) λZ H Q hh=>un hh λU J s hL hS h=>by
 refine aX hL hS h λx H1 U1 d1 s1 x1 hL1 aG r1 h1=>?_;obtain⟨n,ad,xs,vs,rfl,rfl,e1,f1,g1,q1,h2⟩:=Nb aG r1 h1;refine⟨.inl ⟨rfl,vs,cR.of g1⟩,?_⟩;cases eg:xs.getLast? with
 |none=>simp only[eg] at h2;exact h2.elim
 |some dd=>
  simp only[eg] at h2;obtain⟨w,hw,jV⟩:=q1.get (zdT eg);rw[q1.len] at hw;refine⟨ad,vs,w,rfl,rfl,g1,hw,?_⟩;have x2:Ext U1 H1 U1 (upd H1 ad (.lst vs.dropLast)):=Ext.write f1 ⟨_,g1⟩;exact h2 U1 _ x2 (aG.write e1 f1 q1.dropLast) _ (.d (jV.mono x2 aG.lz))
noncomputable def lG(K:W.Frag)(cA:Cl)(m:List Xv->M Xv):Sp:=λvs H Q E=>∃U xs s,aR K cA U H xs vs/\aD K cA U H s/\Run K cA (m xs) U H s (λd _ U' H'=>∀v,aU K cA U' H' d v->Q v H') (λc fs _ U' H'=>∀dx,kj K cA U' H' c fs dx->E (.ref (cA.a c)) dx H')
theorem zkf{K:W.Frag}{U1 U2:Ph}{c:Nat}{fs:List D}{dx:Option Addr}(e:U1.z=U2.z)(h:kj K cA U2 H c fs dx):kj K cA U1 H c fs dx:=h.imp id λ⟨d,vs,a,b,c,l,r⟩=>⟨d,vs,a,by rw[e];exact b,c,l,r.kE λ_ z=>by rw[<-e];exact z⟩
theorem ziR{cm:Bool}{k f:Nat}{fa:Addr}{fd:FuncData}{ps:List Str}(Fo:cF X.prog X.w X.K X.mg X.base (fu X.prog X.w) cm k fa fd ps (lG X.K cA (F f)))(i_:cm=true->X.aj=true)(hr:bx k X.A)(hg:Gl X x)(hm:X.mg x=some (.ref fa))(hk:PySem.W.keepIn X.K (.ref fa)=true)(hb:Binds X.K fd ps [])(R:Raises X EX)
  (ha:SA X cA aq aj F EX (e::es) Xs) (rT:(x==("__debug__" : Str))=false:=by decide) (he:starEach (e::es) X.env=(false,eval e X.env)::starEach es X.env:=by rfl) (cT:(backTo pos (starEach es X.env)).any (·.1)=false:=by rfl) :
  SE X cA aq aj F EX (.Call (.Name x pp) (e::es) [] pos) (.call f Xs):=PE.weak (zh4 Fo i_ hr hg hm hk hb R ha rT he cT) λZ H Q hh=>un hh λU J s hL hS h=>
 oO hL hS h λvs H1 U1 ds s1 x1 hL1 aG r1 h1=>by
  obtain⟨U0,s0,a1,a2,a3⟩:=zev (EE:=λc fs U' H'=>∀dx,kj X.K cA U' H' c fs dx->EX Z (.ref (cA.a c)) dx H') aG r1 (λc fs U1 U2 H' ez z dx q=>z dx (zkf ez q)) h1;exact⟨U0,_,s0,a1,a2,a3⟩
end
section
variable {K:W.Frag}{cA:Cl}{U U':Ph}{H H':Hp}{s:S}
def cN(U:Ph)(H H':Hp):Prop:=∀a o,H a=some o->¬U.z a->H' a=some o
mutual
theorem Rep.out(x:cN U H H'):∀{d:D} {v:V},Rep K cA U H d v->Rep K cA U H' d v
 |_,_,.non=>.non
 |_,_,.bl b=>.bl b
 |_,_,.int i=>.int i
 |_,_,.str z=>.str z
 |_,_,.tup h r=>.tup (h.imp (λ⟨p,n⟩=>⟨p.imp (λq=>x _ _ q n) λ⟨o,q⟩=>⟨o,x _ _ q n⟩,n⟩) id) (aB.out x r)
 |_,_,.fl h r=>.fl (h.imp (λ⟨p,n⟩=>⟨p.imp (λq=>x _ _ q n) λ⟨o,q⟩=>⟨o,x _ _ q n⟩,n⟩) id) (aB.out x r)
 |_,_,.fd h n=>.fd (x _ _ h n) n
 |_,_,.exc h r=>.exc ⟨h.1,h.2.imp (λ⟨a,b,q⟩=>⟨a,b,x _ _ q h.1⟩) λ⟨dx,p,n,q,l⟩=>⟨dx,x _ _ p h.1,n,x _ _ q n,l⟩⟩ (aB.out x r)
 |_,_,.any v=>.any v
 |_,_,.ob h r=>.ob ⟨h.1,let ⟨dx,p,l⟩:=h.2;⟨dx,x _ _ p h.1,l⟩⟩ (aB.out x r)
theorem aB.out(x:cN U H H'):∀{ds:List D} {vs:List V},aB K cA U H ds vs->aB K cA U H' ds vs
 |_,_,.nil=>.nil
 |_,_,.cons h r=>.cons (Rep.out x h) (aB.out x r)
end
theorem aU.out(x:cN U H H'){d:Xv}{v:V}(h:aU K cA U H d v):aU K cA U H' d v:=by
 cases h with
 |d h=>exact .d (h.out x)
 |l h=>exact .l h
theorem aW.out(x:cN U H H')(h:aW K cA U H Z J):aW K cA U H' Z J:=⟨h.1,λi d e=>let ⟨v,a,b⟩:=h.2 i d e;⟨v,a,b.out x⟩⟩
theorem cN.refl:cN U H H:=λa o e _=>e
structure jH(K:W.Frag)(cA:Cl)(c:Src)(U:Ph)(H:Hp)(aZ:L2.It):Prop where
 stop:∀U' H₁ H' s' i,Ext U H U' H₁->cN U' H₁ H'->aD K cA U' H' s'->c.at i s'=some none->aZ.stop i H'
 go:∀U' H₁ H' s' i x,Ext U H U' H₁->cN U' H₁ H'->aD K cA U' H' s'->c.at i s'=some (some x)->aZ.go i H'
 ur:∀U' H₁ H' s' i x v H2,Ext U H U' H₁->cN U' H₁ H'->aD K cA U' H' s'->c.at i s'=some (some x)->aZ.ur i H' v H2->bG H' H2/\Rep K cA U' H2 x v
theorem LstAt.later(hz:∀a∈U.l,U.z a)(h:LstAt K U H a vs)(x:Ext U H U' H₁)(o:cN U' H₁ H'):LstAt K U' H' a vs:=
 (h.mono x hz).imp (λ⟨p,n⟩=>⟨p.imp (λq=>o _ _ q n) λ⟨w,q⟩=>⟨w,o _ _ q n⟩,n⟩) id
theorem TupAt.later(hz:∀a∈U.l,U.z a)(h:TupAt K U H a vs)(x:Ext U H U' H₁)(o:cN U' H₁ H'):TupAt K U' H' a vs:=
 (h.mono x hz).imp (λ⟨p,n⟩=>⟨p.imp (λq=>o _ _ q n) λ⟨w,q⟩=>⟨w,o _ _ q n⟩,n⟩) id
theorem jH.list(hz:∀a∈U.l,U.z a)(h:LstAt K U H a vs)(r:aB K cA U H xs vs):jH K cA (.fix xs) U H (Mf K a):=by
 refine⟨λU' H₁ H' s' i x o hS e=>⟨vs,(h.later hz x o).sU,?_⟩,λU' H₁ H' s' i d x o hS e=>?_,λU' H₁ H' s' i d v H2 x o hS e y=>?_⟩
 ·have e:xs[i]?=none:=cO e;exact qG.mp ((r.mono x hz).none e)
 ·have e:xs[i]?=some d:=cO e;obtain⟨v,q,_⟩:=r.get e;exact⟨vs,v,(h.later hz x o).sU,q⟩
 ·have e:xs[i]?=some d:=cO e;obtain⟨rfl,y⟩:=y;obtain⟨w,q,jV⟩:=((r.mono x hz).out o).get e;have:=y vs (h.later hz x o).sU;rw[q] at this;cases this;exact⟨bG.refl,jV⟩
theorem jH.tuple(hz:∀a∈U.l,U.z a)(h:TupAt K U H a vs)(r:aB K cA U H xs vs):jH K cA (.fix xs) U H (Qm K a):=by
 refine⟨λU' H₁ H' s' i x o hS e=>⟨vs,(h.later hz x o).jG,?_⟩,λU' H₁ H' s' i d x o hS e=>?_,λU' H₁ H' s' i d v H2 x o hS e y=>?_⟩
 ·have e:xs[i]?=none:=cO e;exact qG.mp ((r.mono x hz).none e)
 ·have e:xs[i]?=some d:=cO e;obtain⟨v,q,_⟩:=r.get e;exact⟨vs,v,(h.later hz x o).jG,q⟩
 ·have e:xs[i]?=some d:=cO e;obtain⟨rfl,y⟩:=y;obtain⟨w,q,jV⟩:=((r.mono x hz).out o).get e;have:=y vs (h.later hz x o).jG;rw[q] at this;cases this;exact⟨bG.refl,jV⟩
theorem R_(h:(Src.live n).at i s=some o):∃xs,s[n]?=some (.lst xs)/\xs[i]?=o:=by
 unfold Src.at at h;dsimp only at h;cases e:s[n]? with
 |none=>rw[e] at h;cases h
 |some ob=>
  rw[e] at h;cases ob with
  |lst xs=>exact⟨xs,rfl,cO h⟩
  |_=>cases h
theorem jH.live(h:U.l[n]?=some a):jH K cA (.live n) U H (Mf K a):=by
 refine⟨λU' H₁ H' s' i x o hS e=>?_,λU' H₁ H' s' i d x o hS e=>?_,λU' H₁ H' s' i d v H2 x o hS e y=>?_⟩
 ·obtain⟨xs,e1,e2⟩:=R_ e;obtain⟨vs,q1,q2⟩:=hS.obj n _ a e1 (x.get h);exact⟨vs,cR.of q1,qG.mp (q2.none e2)⟩
 ·obtain⟨xs,e1,e2⟩:=R_ e;obtain⟨vs,q1,q2⟩:=hS.obj n _ a e1 (x.get h);obtain⟨v,q3,_⟩:=q2.get e2;exact⟨vs,v,cR.of q1,q3⟩
 ·obtain⟨xs,e1,e2⟩:=R_ e;obtain⟨vs,q1,q2⟩:=hS.obj n _ a e1 (x.get h);obtain⟨w,q3,jV⟩:=q2.get e2;obtain⟨rfl,y⟩:=y;have:=y vs (cR.of q1);rw[q3] at this;cases this;exact⟨bG.refl,jV⟩
theorem Sd:(lY a b)[i]?=if i<(b-a).toNat then some (.int (a+i)) else none:=by
 unfold lY;rw[jP,List.getElem?_range']
where
 List.getElem?_range' {n i:Nat}:Option.map (λ(i:Nat)=>D.int (a+i)) (List.range n)[i]?=if i<n then some (.int (a+i)) else none:=by
  by_cases h:i<n
  ·rw[if_pos h,Gk h];rfl
  ·rw[if_neg h,List.getElem?_eq_none (by simp;lia)];rfl
theorem jH.range{a b:Int}:jH K cA (.fix (lY a b)) U H (Hq a (b-a).toNat):=by
 refine⟨λU' H₁ H' s' i x o hS e=>?_,λU' H₁ H' s' i d x o hS e=>?_,λU' H₁ H' s' i d v H2 x o hS e y=>?_⟩
 ·have e:(lY a b)[i]?=none:=cO e;rw[Sd] at e;split at e
  ·cases e
  ·exact Lh (by assumption)
 ·have e:(lY a b)[i]?=some d:=cO e;rw[Sd] at e;split at e
  ·assumption
  ·cases e
 ·have e:(lY a b)[i]?=some d:=cO e;rw[Sd] at e;split at e
  ·cases e;obtain⟨rfl,rfl⟩:=y;exact⟨bG.refl,.int _⟩
  ·cases e
end
noncomputable def Sg(K:W.Frag)(te:TE):TI:=λZ H R=>te Z H λv H1=>∃a,v=.ref a/\(((∃xs,cR K H1 a xs)/\R (Mf K a) H1)\/((∃xs,gK K H1 a xs)/\R (Qm K a) H1))
theorem zkX(he:PE X l te):PI X tg l (Sg X.K te):=by
 intro ao s Z H R I h;refine aQ (he ao s Z H _ I h) λv s1 hx=>Py hx λx H1 I1 r1 a e q=>?_;subst e;cases r1;rcases q with ⟨⟨xs,hq⟩,q⟩|⟨⟨xs,hq⟩,q⟩
 ·obtain⟨its,rv,p,hz⟩:=I1.list hq;refine Ld p.isList ?_;refine⟨s1.heap.objs.size,[s1.heap.objs.size],_,_,H1,rfl,I1.kept (t':=s1.toks) λb o e=>cD _ e,zfV a _,⟨_,eF _ rfl,rfl,rfl⟩,λb hb=>?_,q⟩;have e:b=s1.heap.objs.size:=by simpa using hb
  subst e;exact I1.uw (cj _) (I1.hok.fresh (cj _))
 ·obtain⟨its,rv,p,hz⟩:=I1.tuple hq;refine wpAny_pyIter_tuple (show s1.heap.IsTuple a its.toArray from p) ?_;refine⟨s1.heap.objs.size,[s1.heap.objs.size],_,_,H1,rfl,I1.kept (t':=s1.toks) λb o e=>cD _ e,zfa a _,⟨_,eF _ rfl,rfl,rfl⟩,λb hb=>?_,q⟩;have e:b=s1.heap.objs.size:=by simpa using hb
  subst e;exact I1.uw (cj _) (I1.hok.fresh (cj _))
section
variable {X:Cx}{cA:Cl}{aq:Nat->Nat->Bool}{aj:Bool}{F:Fn}{EX:XS}{a b tg:Expr}{A B:E}{pos pp:Pos}
noncomputable def tI(K:W.Frag)(cA:Cl)(EX:XS)(m:Vs->M (Src×Nat)):TI:=λZ H R=>∃U J s,aW K cA U H Z J/\aD K cA U H s/\Run K cA (m J) U H s (λcn _ U1 H1=>∀aZ,jH K cA cn.1 U1 H1 aZ->R aZ H1) (eX K cA EX Z)
def SI(X:Cx)(cA:Cl)(aq:Nat->Nat->Bool)(aj:Bool)(F:Fn)(EX:XS)(tg iter:Expr)(w:Wk):Prop:=PI X tg iter (tI X.K cA EX (gF aq aj F w))
theorem PI.weak{iter:Expr}{t t':TI}(h:PI X tg iter t)(f:∀Z H Q,t' Z H Q->t Z H Q):PI X tg iter t':=λao s Z H Q I q=>h ao s Z H Q I (f Z H Q q)
theorem zl5(ha:SE X cA aq aj F EX a A):SI X cA aq aj F EX tg a (.seq A):=PI.weak (zkX ha) λZ H R hh=>un hh λU J s hL hS h=>by
 refine aX hL hS h λv H1 U1 d s1 x1 hL1 aG r1 h1=>?_;cases r1 with
 |@l n ad hl=>
  unfold Run src at h1;dsimp only at h1;cases e:s1[n]? with
  |none=>rw[e] at h1;exact h1.elim
  |some o=>
   rw[e] at h1;cases o with
   |lst xs=>
    obtain⟨vs,q1,q2⟩:=aG.obj n _ _ e hl;exact⟨ad,rfl,.inl ⟨⟨vs,cR.of q1⟩,h1 U1 H1 Ext.refl aG _ (jH.live hl)⟩⟩
   |_=>exact h1.elim
 |d r1=>
  cases r1 with
  |tup q r=>exact⟨_,rfl,.inr ⟨⟨_,q.jG⟩,h1 U1 H1 Ext.refl aG _ (jH.tuple aG.lz q r)⟩⟩
  |fl q r=>exact⟨_,rfl,.inl ⟨⟨_,q.sU⟩,h1 U1 H1 Ext.refl aG _ (jH.list aG.lz q r)⟩⟩
  |_=>exact h1.elim
theorem Yz{i:Int}(h:gw i=true) : -(2^62)<=i/\i<2^62:=by
 unfold gw at h;rw[eG,yP,yP] at h;exact⟨by lia,h.2⟩
theorem YB{K:W.Frag}{U:Ph}{H:Hp}{s:S}{i j:Int}{P:Src×Nat->S->Ph->Hp->Prop}{Ee:Nat->List D->S->Ph->Hp->Prop}(hS:aD K cA U H s)(h:Run K cA (if (gw i&&gw j)=true then M.ret (Src.fix (lY i j),(lY i j).length) else M.no) U H s P Ee):(-(2^62)<=i/\i<2^62/\-(2^62)<=j/\j<2^62)/\P (.fix (lY i j),(lY i j).length) s U H:=by
 by_cases hk:(gw i&&gw j)=true
 ·rw[if_pos hk] at h;rw[eG] at hk;obtain⟨a,b⟩:=Yz hk.1;obtain⟨c,d⟩:=Yz hk.2;exact⟨⟨a,b,c,d⟩,h.bC hS⟩
 ·rw[if_neg hk] at h;exact h.elim
theorem zmN(qu:Gl X "range")(hmg:X.mg "range"=none)(ha:SE X cA aq aj F EX a A)(hb:SE X cA aq aj F EX b B)(h1:starEach [a,b] X.env=(false,eval a X.env)::starEach [b] X.env)(h2:starEach [b] X.env=(false,eval b X.env)::starEach [] X.env) :
  SI X cA aq aj F EX tg (.Call (.Name "range" pp) [a,b] [] pos) (.rg A B):=PI.weak (zgC qu hmg (rQ ha (rQ hb wV h2) h1) (by rw[h1,h2];rfl) (by rw[h2];rfl)) λZ H R hh=>un hh λU J s hL hS h=>by
 refine aX hL hS h λx H1 U1 d1 s1 x1 hL1 aG r1 h1=>aX hL1 aG h1 λy H2 U2 d2 s2 x2 hL2 aM r2 h2=>?_;obtain⟨i,_,e1,h3⟩:=Cq (r1.mono x2 aG.lz) h2;obtain⟨j,_,e2,h4⟩:=Cq r2 h3;obtain⟨hz,q⟩:=YB aM h4;subst e1 e2;exact⟨i,j,rfl,hz,q _ jH.range⟩
theorem zk8(qu:Gl X "range")(hmg:X.mg "range"=none)(hb:SE X cA aq aj F EX b B)(h2:starEach [b] X.env=(false,eval b X.env)::starEach [] X.env) :
  SI X cA aq aj F EX tg (.Call (.Name "range" pp) [b] [] pos) (.rg (.c (.int 0)) B):=PI.weak (zfH qu hmg (rQ hb wV h2) (by rw[h2];rfl)) λZ H R hh=>un hh λU J s hL hS h=>by
 have h:Run X.K cA (M.bd (ev aq aj F B J) λy=>M.bd (int (.d (.int 0))) λi=>M.bd (int y) λj=>if (gw i&&gw j)=true then M.ret (Src.fix (lY i j),(lY i j).length) else M.no) U H s _ _:=h;refine aX hL hS h λy H2 U2 d2 s2 x2 hL2 aM r2 h2=>?_;obtain⟨j,_,e2,h4⟩:=Cq r2 (show Run X.K cA (M.bd (int d2) λj=>if (gw 0&&gw j)=true then M.ret (Src.fix (lY 0 j),(lY 0 j).length) else M.no) U2 H2 s2 _ _ from h2);obtain⟨hz,q⟩:=YB aM h4;subst e2;refine⟨j,rfl,hz.2.2.1,hz.2.2.2,q _ ?_⟩;have:=jH.range (K:=X.K) (cA:=cA) (U:=U2) (H:=H2) (a:=0) (b:=j);rw[Int.sub_zero] at this;exact this
end
section
variable {K:W.Frag}{cA:Cl}{U U' U0:Ph}{H H' H0:Hp}{s:S}
theorem Run.bd0(x:Ext U0 H0 U H)(h:Run K cA (M.bd m k) U0 H0 s P Ee) :
  Run K cA m U H s (λa s1 U1 H1=>Ext U H U1 H1/\aD K cA U1 H1 s1/\Run K cA (k a) U0 H0 s1 P Ee) Ee:=by
 unfold Run M.bd at *;cases e:m s with
 |none=>rw[e] at h;exact h
 |some r=>
  obtain⟨r,s1⟩:=r;rw[e] at h;cases r with
  |er c f=>exact λU1 H1 x1 r1=>h U1 H1 (x.trans x1) r1
  |ok a=>exact λU1 H1 x1 r1=>⟨x1,r1,h⟩
theorem Jw{α β:Type}{m:M α}{k:α->M β}{P:β->S->Ph->Hp->Prop}{Ee Ee':Nat->List D->S->Ph->Hp->Prop}(x:Ext U0 H0 U H)(h:Run K cA (M.bd (M.qt m) k) U0 H0 s P Ee) :
  Run K cA m U H s (λa s1 U1 H1=>Ext U H U1 H1/\aD K cA U1 H1 s1/\Run K cA (k a) U0 H0 s1 P Ee) Ee':=by
 have h2:=h.bd0 x;unfold Run at h2 ⊢;unfold M.qt at h2;cases e:m s with
 |none=>rw[e] at h2;exact h2
 |some r=>
  obtain⟨r,s1⟩:=r;rw[e] at h2;cases r with
  |ok a=>exact h2
  |er c f=>exact h2.elim
theorem Sh{α β:Type}{m m':M α}{k:α->M β}{P:β->S->Ph->Hp->Prop}{Ee:Nat->List D->S->Ph->Hp->Prop}(e:m s=m' s)(h:Run K cA (M.bd m k) U H s P Ee):Run K cA (M.bd m' k) U H s P Ee:=by
 unfold Run M.bd at *;rw[<-e];exact h
end
section
variable {X:Cx}{cA:Cl}{aq:Nat->Nat->Bool}{aj:Bool}{F:Fn}{EX:XS}{elt iter tg:Expr}{A B:E}{pos p:Pos}{ifs:List Expr}{scope:Scope}{N:List Str}{cond:Eo}{fr aL:List Nat}{many:Nat}{fz:Bool}{w:Wk}
def Cv(X:Cx)(cA:Cl)(aq:Nat->Nat->Bool)(aj:Bool)(F:Fn)(EX:XS)(ifs:List Expr)(m:Eo):Prop:=Ep X ifs (qm X.K cA EX (lZ aq aj F m))
theorem zlM:Cv X cA aq aj F EX [] .no:=λao s Z H Q I ⟨U,J,st,hL,hS,h⟩=>ziY ao s Z H Q I (h.bC hS)
theorem zjw(h:ST X cA aq aj F EX c C):Cv X cA aq aj F EX [c] (.yes C):=zjV h
structure dU(K:W.Frag)(cA:Cl)(g:TG)(aL:List Nat):Prop where
 run:∀(U:Ph) (H:Hp) (s:S) (Z:L2.St) (J J':Vs) (d:D) (v:V) (Q:L2.St->Hp->Prop),aW K cA U H Z J->aD K cA U H s->Rep K cA U H d v->fD aL d J=some J'->
  (∀Z',aW K cA U H Z' J'->Z'.length=Z.length->(∀i,i∉aL->Z'[i]?=Z[i]?)->Q Z' H)->g v Z H Q
theorem je{K:W.Frag}(i:Nat):dU K cA (dN i) [i] where
 run:=λU H s Z J J' d v Q hL hS r e k=>by
  cases e;exact k _ (hL.set (.d r)) (pI ..) λj hj=>qH (by simpa using λz=>hj (by simp[z]))
theorem Jx{K:W.Frag}(i j:Nat):dU K cA (uo K 2 (iD (dN i) (iD (dN j) uh))) [i,j] where
 run:=λU H s Z J J' d v Q hL hS r e k=>by
  have e:(j9 d).bind (λds=>gB [i,j] (ds.map Xv.d) J)=some J':=e;obtain⟨ds,e1,e2⟩:=yK.mp e;cases r with
  |@tup ad xs vs h1 h2=>
   have e1:xs=ds:=cO e1;subst e1;cases h2 with
   |nil=>cases e2
   |cons r1 t1=>
    cases t1 with
    |nil=>cases e2
    |cons r2 t2=>
     cases t2 with
     |nil=>
      have e2:=cO e2;subst e2;refine⟨ad,_,rfl,h1.jG,rfl,_,_,rfl,_,_,rfl,rfl,k _ ((hL.set (.d r1)).set (.d r2)) (by rw[pI,pI]) λm hm=>?_⟩;rw[qH (λz=>hm (by simp[z])),qH (λz=>hm (by simp[z]))]
     |cons r3 t3=>cases e2
  |_=>cases e1
noncomputable def bB(many:Nat)(fr:List Nat)(Z:L2.St):L2.St:=List.replicate many none++fr.map λj=>(Z[j]?).join
theorem YC{U:Ph}{H:Hp}{Z:L2.St}{J:Vs}(hL:aW X.K cA U H Z J){Z':L2.St}(hl:Z'.length=many+fr.length)(hf:∀(i:Nat) j v,fr[i]?=some j->Z[j]?=some (some v)->Z'[many+i]?=some (some v)):aW X.K cA U H Z' (blk many fr J):=by
 refine⟨by unfold blk;simp[hl],λi d e=>?_⟩;unfold blk at e;by_cases hi:i<many
 ·rw[pq (by simpa using hi),Ad,if_pos hi] at e;cases e
 ·rw[pF (by simpa using Lh hi),Gg,jP] at e;cases z:fr[i-many]? with
  |none=>rw[z] at e;cases e
  |some j=>
   rw[z] at e;have e3:J[j]?.join=some d:=by simpa using e
   obtain⟨v,q1,q2⟩:=hL.2 j d (M7 e3);refine⟨v,?_,q2⟩;have:=hf (i-many) j v z q1;rw[show many+(i-many)=i by omega] at this;exact this
structure fG(U:Ph)(H:Hp)(Dd:Addr)(o:HO):Prop where
 at_:H Dd=some o
 nl:Dd∉U.l
 z:U.z Dd
 t:NT o:=by exact trivial
abbrev Keep(U:Ph)(H:Hp)(Dd:Addr)(vs:List V):Prop:=fG U H Dd (.lst vs)
theorem fG.mono{U U':Ph}{H H':Hp}{Dd:Addr}{o:HO}(x:Ext U H U' H')(k:fG U H Dd o):fG U' H' Dd o:=by
 refine⟨x.frame _ _ k.at_ k.t k.nl,λz=>?_,x.ql _ k.z,k.t⟩;obtain⟨r,er,hr⟩:=x.more;rw[er] at z;rcases nG.mp z with z|z
 ·exact k.nl z
 ·have:=hr _ z;rw[k.at_] at this;cases this
theorem fG.ext{U:Ph}{H:Hp}{Dd:Addr}{o u:HO}(k:fG U H Dd o)(tu:NT u:=by exact trivial):(∀a o,H a=some o->¬U.z a->(upd H Dd u) a=some o)/\fG U (upd H Dd u) Dd u:=
 ⟨λa o e n=>by rw[bT (λz=>n (by rw[z];exact k.z))];exact e,iB,k.nl,k.z,tu⟩
end
section
variable {K:W.Frag}{cA:Cl}{U U':Ph}{H H':Hp}
theorem aD.keep{s:S}{Dd:Addr}{o u:HO}(h:aD K cA U H s)(k:fG U H Dd o)(tu:NT u:=by exact trivial):aD K cA U (upd H Dd u) s:=by
 have x:cN U H (upd H Dd u):=(k.ext tu).1;refine⟨h.len,λn o a e1 e2=>?_,h.uniq,h.lz,λa z=>?_⟩
 ·have na:a≠Dd:=λy=>k.nl (by rw[<-y];exact gJ e2);exact(h.obj n o a e1 e2).map (λ_ _ q=>by rw[bT na];exact q) λ_ _ r=>r.out x
 ·by_cases e:a=Dd
  ·subst e;exact⟨_,iB⟩
  ·obtain⟨o,q⟩:=h.zt a z;exact⟨o,by rw[bT e];exact q⟩
theorem Ext.keep{U1:Ph}{H1:Hp}{Dd:Addr}{vs:List V}{u:HO}(x:Ext U1 H1 U H)(hD:H1 Dd=none):Ext U1 H1 U (upd H Dd u):=by
 refine⟨x.more,x.ql,x.j_,λa o h t n=>?_,λa o h=>?_⟩
 ·rw[bT (λz=>by rw[z,hD] at h;cases h)];exact x.frame a o h t n
 ·rw[bT (λz=>by rw[z,hD] at h;cases h)];exact x.stay a o h
theorem YD{U1:Ph}{H1:Hp}{s':S}{fz:Bool}{acc:List D}{vs:List V}{Dd:Addr}{Q:VK}{Ee:Nat->List D->S->Ph->Hp->Prop}(h:Run K cA (newL fz acc) U1 H1 s' (λd _ U' H'=>∀v,aU K cA U' H' d v->Q v H') Ee)
  (x2:Ext U1 H1 U' H') (hD:H1 Dd=none) (nz:¬U1.z Dd) (aM:aD K cA U' H' s') (k:Keep U' H' Dd vs) (pC:aB K cA U' H' acc vs):Q (.ref Dd) H':=by
 cases fz with
 |true=>
  have zq:∀a,(λa=>U'.z a/\a≠Dd) a->U'.z a:=λa z=>z.1;refine h ⟨λa=>U'.z a/\a≠Dd,U'.l⟩ H' ⟨x2.more,λa z=>⟨x2.ql a z,λe=>nz (by rw[<-e];exact z)⟩,λa z=>x2.j_ a z.1,x2.frame,x2.stay⟩ ?_ _ (.d (.fl (.inl ⟨.inl k.at_,λz=>z.2 rfl⟩) (aB.kE (U:=U') zq pC)));refine⟨aM.len,λn o a e1 e2=>lu.kE (U:=U') zq (aM.obj n o a e1 e2),aM.uniq,λa ha=>⟨aM.lz a ha,λe=>k.nl (by rw[<-e];exact ha)⟩,λa z=>aM.zt a z.1⟩
 |false=>
  obtain⟨r,er,hr⟩:=x2.more;refine h ⟨U'.z,U'.l++[Dd]⟩ H' ⟨⟨r++[Dd],by show U'.l++[Dd]=_;rw[er,Lf],λb hb=>?_⟩,x2.ql,x2.j_,x2.frame,x2.stay⟩ ?_ _ (.l (by show (U'.l++[Dd])[s'.length]?=_;rw[<-aM.len];simp))
  ·rcases nG.mp hb with z|z
   ·exact hr b z
   ·simp at z;subst z;exact hD
  ·refine⟨by show (U'.l++[Dd]).length=_;rw[pA,pA,aM.len];rfl,λm o' a' e1 e2=>?_,?_,λb hb=>?_,aM.zt⟩
   ·have e2:(U'.l++[Dd])[m]?=some a':=e2;by_cases hm:m<s'.length
    ·rw[pq hm] at e1;rw[pq (by rw[aM.len];exact hm)] at e2;exact lu.zl (aM.obj m o' a' e1 e2) _
    ·have vW:m=s'.length:=by
      have z:=(fX.mp e2).1;rw[pA,aM.len] at z;simp at z;omega
     subst vW;rw[pF (cj _)] at e1;rw[pF (by rw[aM.len];exact cj _)] at e2;simp at e1;simp[aM.len] at e2;subst e1 e2;exact⟨vs,k.at_,aB.zl pC _⟩
   ·show (U'.l++[Dd]).Nodup;rw[Lg];refine⟨aM.uniq,by simp,λb hb c hc e=>?_⟩;simp at hc;subst hc e;exact k.nl hb
   ·have hb:b∈U'.l++[Dd]:=hb;rcases nG.mp hb with z|z
    ·exact aM.lz b z
    ·simp at z;subst z;exact k.z
noncomputable def Ph.mark(U:Ph)(p:Addr):Ph:=⟨λa=>U.z a\/a=p,U.l⟩
theorem YF{s:S}{p:Addr}(hS:aD K cA U H s)(hp:H p=none):Ext U H (U.mark p) (upd H p (.lst []))/\aD K cA (U.mark p) (upd H p (.lst [])) s/\Keep (U.mark p) (upd H p (.lst [])) p []:=by
 have g:=bG.new (o:=.lst []) hp;have nz:=hS.nz hp;refine⟨⟨⟨[],by simp[Ph.mark],by simp⟩,λa z=>.inl z,λa z=>z.imp id λe=>by rw[e];exact hp,λa o h _ _=>g a o h,λa o h=>⟨o,g a o h⟩⟩,⟨hS.len,λn o a e1 e2=>?_,hS.uniq,λa ha=>.inl (hS.lz a ha),λa z=>?_⟩,iB,λz=>nz (hS.lz p z),.inr rfl,trivial⟩
 ·have x:Ext U H (U.mark p) (upd H p (.lst [])):=⟨⟨[],by simp[Ph.mark],by simp⟩,λa z=>.inl z,λa z=>z.imp id λe=>by rw[e];exact hp,λa o h _ _=>g a o h,λa o h=>⟨o,g a o h⟩⟩;exact(hS.obj n o a e1 e2).map (λu _=>g _ u) λ_ _ r=>r.mono x hS.lz
 ·rcases z with z|z
  ·obtain⟨o,e⟩:=hS.zt a z;exact⟨o,g _ _ e⟩
  ·subst z;exact⟨_,iB⟩
end
section
variable {X:Cx}{cA:Cl}{aq:Nat->Nat->Bool}{aj:Bool}{F:Fn}{EX:XS}{elt iter tg:Expr}{A B:E}{pos p:Pos}{ifs:List Expr}{scope:Scope}{N:List Str}{cond:Eo}{fr aL:List Nat}{many:Nat}{fz:Bool}{w:Wk}
noncomputable abbrev bV(aq:Nat->Nat->Bool)(aj:Bool)(F:Fn)(B:E)(cond:Eo)(aL:List Nat)(Jb:Vs):D->List D->M (List D):=λd acc=>M.bd (M.opt (fD aL d Jb)) λJ'=>M.bd (M.qt (lZ aq aj F cond J')) λok=>
    if ok=true then M.bd (M.qt (ev aq aj F B J')) λy=>M.bd (dat y) λe=>if acc.length<sizeLine then M.ret (acc++[e]) else M.no else M.ret acc
theorem Fj{H:Hp}{a:Addr}{o:HO}(h:H a=some o):upd H a o=H:=funext λb=>by
 by_cases z:b=a
 ·subst z;rw[iB,h]
 ·rw[bT z]
theorem zhc{K:W.Frag}{g:TG}{U1 U':Ph}{H1 H2:Hp}{s':S}{Z':L2.St}{Jb:Vs}{Dd:Addr}{acc:List D}{vs:List V}{xi:D}{v:V}{β:Type}{kk:List D->M β}{P:β->S->Ph->Hp->Prop}{Ee:Nat->List D->S->Ph->Hp->Prop}(hT:dU K cA g aL)(cV:∀i∈aL,i<many)
  (hD:H1 Dd=none) (x2:Ext U1 H1 U' H2) (hL2:aW K cA U' H2 Z' Jb) (aM:aD K cA U' H2 s') (kp:Keep U' H2 Dd vs) (pC:aB K cA U' H2 acc vs) (rx:Rep K cA U' H2 xi v)
  (h:Run K cA (M.bd (bV aq aj F B cond aL Jb xi acc) kk) U1 H1 s' P Ee) {Nn:L2.St->Hp->Prop}
  (hN:∀Z3 H3 U3 s3 m_ xT,Z3.length=Z'.length->(∀i,many<=i->Z3[i]?=Z'[i]?)->Ext U1 H1 U3 H3->Ext U' H2 U3 (upd H3 Dd (.lst vs))->aD K cA U3 H3 s3->Keep U3 H3 Dd xT->aB K cA U3 H3 m_ xT->Run K cA (kk m_) U1 H1 s3 P Ee->Nn Z3 H3) :
  g v Z' H2 λZ3 H3=>qm K cA (λ_ _ _ _=>False) (lZ aq aj F cond) Z3 H3 λok H4=>
   if ok=true then tE K cA (λ_ _ _ _=>False) (ev aq aj F B) Z3 H4 λy H5=>∃ys,H5 Dd=some (.lst ys)/\ys.length<sizeLine/\Nn Z3 (upd H5 Dd (.lst (ys++[y]))) else Nn Z3 H4:=by
 unfold bV at h;rw[gM] at h;obtain⟨J',e1,h1⟩:=Run.m9 h;refine hT.run U' H2 s' Z' Jb J' xi v _ hL2 aM rx e1 λZ3 nO Cw Fl=>?_;rw[gM] at h1;have kf:∀i,many<=i->Z3[i]?=Z'[i]?:=λi hi=>Fl i λz=>absurd (cV i z) (D_.mpr hi);refine⟨U',J',s',nO,aM,(Jw x2 h1).imp λok s4 U4 H4 ⟨x4,qY,h6⟩=>?_⟩;cases ok with
 |false=>
  refine iF (hN Z3 H4 U4 s4 acc vs Cw kf (x2.trans x4) (by rw[Fj (kp.mono x4).at_];exact x4) qY (kp.mono x4) (pC.mono x4 aM.lz) ?_);rw[if_neg Ro] at h6;exact h6
 |true=>
  rw[if_pos rfl,gM] at h6;refine iT ⟨U4,J',s4,nO.mono x4 aM.lz,qY,(Jw (x2.trans x4) h6).imp λy s5 U5 H5 ⟨x5,Jy,h7⟩ u ru=>?_⟩;rw[gM] at h7;have k5:=(kp.mono x4).mono x5;have r5:=(pC.mono x4 aM.lz).mono x5 qY.lz;have Sq:=(x2.trans x4).trans x5;obtain⟨dd,ey,rd,h8⟩ : ∃d,y=.d d/\Rep K cA U5 H5 d u/\Run K cA (M.bd (if acc.length<sizeLine then M.ret (acc++[d]) else M.no) kk) U1 H1 s5 P Ee:=by
   cases ru with
   |l _=>exact h7.elim
   |d r=>exact⟨_,rfl,r,h7⟩
  by_cases hz:acc.length<sizeLine
  ·rw[if_pos hz] at h8;refine⟨vs,k5.at_,by rw[<-r5.len];exact hz,?_⟩;have ox:cN U5 H5 (upd H5 Dd (.lst (vs++[u]))):=k5.ext.1;exact hN Z3 _ U5 s5 (acc++[dd]) (vs++[u]) Cw kf (Ext.keep (vs:=vs) Sq hD) (by rw[Wd,Fj k5.at_];exact x4.trans x5) (Jy.keep k5) k5.ext.2 ((r5.app (.cons rd .nil)).out ox) h8
  ·rw[if_neg hz] at h8;exact h8.elim
theorem YG{g:TG}{iter':Expr}(hT:dU X.K cA g aL)(cV:∀i∈aL,i<many){Z:L2.St}{H:Hp}{Q:VK}(hh:tE X.K cA EX (ev aq aj F (.comp fz B aL w fr many cond)) Z H Q) :
  uJ (tI X.K cA EX (gF aq aj F w)) (bB many fr) g (qm X.K cA (λ_ _ _ _=>False) (lZ aq aj F cond)) (tE X.K cA (λ_ _ _ _=>False) (ev aq aj F B)) Z H Q:=un hh λU J s hL hS h=>by
 by_cases dD:aj=true
 ·have h:Run X.K cA (if aj=true then M.bd (gF aq aj F w J) λcn=>M.bd (walk cn.1 (bV aq aj F B cond aL (blk many fr J)) (cn.2+1) 0 []) λxs=>newL fz xs else M.no) U H s (λd _ U' H'=>∀v,aU X.K cA U' H' d v->Q v H') (eX X.K cA EX Z):=h;rw[if_pos dD] at h;refine⟨U,J,s,hL,hS,h.bd.imp λcn s1 U1 H1 ⟨x1,aG,h1⟩ aZ hJ=>?_⟩;have hL1:=hL.mono x1 hS.lz;obtain⟨c,n⟩:=cn;dsimp only at h1 hJ;intro Dd hD;obtain⟨x0,Ss,k0⟩:=YF aG hD;have Cy:∀{Z':L2.St},(Z'.length=many+fr.length/\∀i,many<=i->Z'[i]?=(bB many fr Z)[i]?)->∀{U' H'},Ext U1 H1 U' H'->aW X.K cA U' H' Z' (blk many fr J):=λ{Z'} hZ {U' H'} x=>YC (hL1.mono x aG.lz) hZ.1 λi j v e1 e2=>by
   rw[hZ.2 _ (by omega)];unfold bB;rw[pF Zaa,Gg,jP,show many+i-many=i by omega,e1];simp[e2]
  refine⟨λi m Z' H'=>m=n+1-i/\(Z'.length=many+fr.length/\∀i,many<=i->Z'[i]?=(bB many fr Z)[i]?)/\∃U' s' acc vs,Ext U1 H1 U' H'/\aD X.K cA U' H' s'/\Keep U' H' Dd vs/\aB X.K cA U' H' acc vs /\
   Run X.K cA (M.bd (walk c (bV aq aj F B cond aL (blk many fr J)) (n+1-i) i acc) λxs=>newL fz xs) U1 H1 s' (λd _ U' H'=>∀v,aU X.K cA U' H' d v->Q v H') (eX X.K cA EX Z),⟨n+1,rfl,⟨by simp[bB],λi _=>rfl⟩,U1.mark Dd,s1,[],[],x0,Ss,k0,.nil,h1⟩,?_⟩
  rintro i m Z' H' ⟨rfl,hZ,U',s',acc,vs,x2,aM,kp,pC,h3⟩;have hL2:=Cy hZ x2;cases ek:n+1-i with
  |zero=>rw[ek] at h3;exact h3.elim
  |succ k=>
   rw[ek] at h3;cases ei:c.at i s' with
   |none=>
    exfalso
    unfold Run M.bd walk at h3;simp only[ei] at h3
   |some oi=>
    cases oi with
    |none=>
     refine .inl ⟨hJ.stop U' H' H' s' i x2 cN.refl aM ei,?_⟩;have h4:Run X.K cA (newL fz acc) U1 H1 s' (λd _ U' H'=>∀v,aU X.K cA U' H' d v->Q v H') (eX X.K cA EX Z):=by
      unfold Run M.bd walk at h3;simp only[ei] at h3;exact h3
     exact YD h4 x2 hD (aG.nz hD) aM kp pC
    |some xi=>
     refine .inr ⟨hJ.go U' H' H' s' i xi x2 cN.refl aM ei,λZ2 H2=>(Z2.length=many+fr.length/\∀i,many<=i->Z2[i]?=(bB many fr Z)[i]?)/\∃U' s' acc vs,Ext U1 H1 U' H2/\aD X.K cA U' H2 s'/\Keep U' H2 Dd vs/\aB X.K cA U' H2 acc vs /\
      Run X.K cA (M.bd (walk c (bV aq aj F B cond aL (blk many fr J)) k (i+1) acc) λxs=>newL fz xs) U1 H1 s' (λd _ U' H'=>∀v,aU X.K cA U' H' d v->Q v H') (eX X.K cA EX Z),λZ2 H2 hn=>⟨k,by omega,by omega,hn.1,?_⟩,λv H2 hy=>?_⟩
     ·have:n+1-(i+1)=k:=by omega
      rw[this];exact hn.2
     ·obtain⟨gr,rx⟩:=hJ.ur U' H' H' s' i xi v H2 x2 cN.refl aM ei hy;have h4:Run X.K cA (M.bd (bV aq aj F B cond aL (blk many fr J) xi acc) λacc'=>M.bd (walk c (bV aq aj F B cond aL (blk many fr J)) k (i+1) acc') λxs=>newL fz xs) U1 H1 s' (λd _ U' H'=>∀v,aU X.K cA U' H' d v->Q v H') (eX X.K cA EX Z):=by
       have h5:=Sh (m':=M.bd (bV aq aj F B cond aL (blk many fr J) xi acc) λacc'=>walk c (bV aq aj F B cond aL (blk many fr J)) k (i+1) acc') (by rw[walk];simp only[ei]) h3;rw[gM] at h5;exact h5
      exact zhc hT cV hD (x2.trans gr.ext) (hL2.mono gr.ext aM.lz) (aM.grow gr) (kp.mono gr.ext) (pC.mono gr.ext aM.lz) rx h4 λZ3 H3 U3 s3 m_ xT l3 f3 x3 _ fU k3 r3 h6=>⟨⟨l3.trans hZ.1,λi hi=>(f3 i hi).trans (hZ.2 i hi)⟩,U3,s3,m_,xT,x3,fU,k3,r3,h6⟩
 ·have h:Run X.K cA (if aj=true then M.bd (gF aq aj F w J) λcn=>M.bd (walk cn.1 (bV aq aj F B cond aL (blk many fr J)) (cn.2+1) 0 []) λxs=>newL fz xs else M.no) U H s (λd _ U' H'=>∀v,aU X.K cA U' H' d v->Q v H') (eX X.K cA EX Z):=h;rw[if_neg dD] at h;exact h.elim
theorem Nf{XN:List Str}(pB:∀(i:Nat) (y:Str) (j:Nat),N[many+i]?=some y->fr[i]?=some j->scope.names.lookup y=some .free/\XN[j]?=some y)(Z:L2.St)(i:Nat)(x:Str)(v:V)(e1:N[i]?=some x)(e2:(bB many fr Z)[i]?=some (some v)):scope.names.lookup x=some .free/\∃j:Nat,XN[j]?=some x/\Z[j]?=some (some v):=by
 unfold bB at e2;by_cases hi:i<many
 ·rw[pq (by simpa using hi),Ad,if_pos hi] at e2;cases e2
 ·rw[pF (by simpa using Lh hi),Gg,jP] at e2;cases z:fr[i-many]? with
  |none=>rw[z] at e2;cases e2
  |some j=>
   rw[z] at e2;have e3:(Z[j]?).join=some v:=by simpa using e2
   obtain⟨a1,a2⟩:=pB (i-many) x j (by rw[show many+(i-many)=i by omega];exact e1) z;exact⟨a1,j,a2,M7 e3⟩
theorem YH{g:TG}(hc:X.aj=true)(B':b_ X.env.scope scope)(hi:SI X cA aq aj F EX tg iter w)(hN:N.length=many+fr.length)
  (pB:∀(i:Nat) (y:Str) (j:Nat),N[many+i]?=some y->fr[i]?=some j->scope.names.lookup y=some .free/\X.N[j]?=some y)
  (hg:∀cl C s3 H3 fp ao,PG (X.blk scope cl N C s3 H3 fp ao) tg g) (hT:dU X.K cA g aL) (cV:∀i∈aL,i<many)
  (ht:∀cl C s3 H3 fp ao,Cv (X.blk scope cl N C s3 H3 fp ao) cA aq aj F (λ_ _ _ _=>False) ifs cond) (he:∀cl C s3 H3 fp ao,SE (X.blk scope cl N C s3 H3 fp ao) cA aq aj F (λ_ _ _ _=>False) elt B)
  (hs:∀x,foldedSetIterable iter X.env x=pure x:=by intro _;rfl):SE X cA aq aj F EX (.ListComp elt [⟨tg,iter,ifs,0⟩] scope pos) (.comp fz B aL w fr many cond):=
 PE.weak (zjb hc B' hi (⟨hg,ht,he⟩ : Parts X elt tg ifs scope N g (qm X.K cA (λ_ _ _ _=>False) (lZ aq aj F cond)) (tE X.K cA (λ_ _ _ _=>False) (ev aq aj F B))) (ZY:=bB many fr) (λZ=>by simp[bB,hN]) (λZ i x v e1 e2=>Nf pB Z i x v e1 e2) hs) λZ H Q hh=>YG (iter':=iter) hT cV hh
end
section
variable (K:W.Frag)(cA:Cl)
def aV(m:MS)(U:Ph)(H:Hp)(s:S)(D:Ends)(EX:XS):Prop:=match m s with
 |some (.nx J,s')=>∀U' H' Z',Ext U H U' H'->aD K cA U' H' s'->aW K cA U' H' Z' J->D.nx Z' H'
 |some (.bk J,s')=>∀U' H' Z',Ext U H U' H'->aD K cA U' H' s'->aW K cA U' H' Z' J->D.bk Z' H'
 |some (.ct J,s')=>∀U' H' Z',Ext U H U' H'->aD K cA U' H' s'->aW K cA U' H' Z' J->D.ct Z' H'
 |some (.rt d,s')=>∀U' H' v,Ext U H U' H'->aD K cA U' H' s'->aU K cA U' H' d v->D.rt v H'
 |some (.er c fs J,s')=>∀U' H' Z',Ext U H U' H'->aD K cA U' H' s'->aW K cA U' H' Z' J->∀dx,kj K cA U' H' c fs dx->EX Z' (.ref (cA.a c)) dx H'
 |none=>False
noncomputable def tS(EX:XS)(m:Vs->MS):TS:=λD Z H=>∃U J s,aW K cA U H Z J/\aD K cA U H s/\aV K cA (m J) U H s D EX
end
section
variable {K:W.Frag}{cA:Cl}{U U':Ph}{H H':Hp}{s:S}{Z:L2.St}{J:Vs}{EX:XS}{D:Ends}
theorem aV.ext{m:MS}(x:Ext U H U' H')(h:aV K cA m U H s D EX):aV K cA m U' H' s D EX:=by
 unfold aV at *;split at h<;>first
  |exact λU2 H2 a y r l=>h U2 H2 a (x.trans y) r l
  |exact h.elim
theorem aV.ofM{α:Type}{m:M α}{k:α->MS}(hL:aW K cA U H Z J)(hz:∀a∈U.l,U.z a)(h:aV K cA (ofM m J k) U H s D EX):Run K cA m U H s (λa s1 U1 H1=>Ext U H U1 H1/\aD K cA U1 H1 s1/\aV K cA (k a) U1 H1 s1 D EX) (eX K cA EX Z):=by
 unfold aV Mi.ofM at h;unfold Run;cases e:m s with
 |none=>rw[e] at h;exact h
 |some r=>
  obtain⟨r,s1⟩:=r;rw[e] at h;cases r with
  |er c fs=>exact λU1 H1 x r=>h U1 H1 Z x r (hL.mono x hz)
  |ok a=>
   intro U1 H1 x r;refine⟨x,r,?_⟩;have h2:aV K cA (k a) U H s1 D EX:=h;exact h2.ext x
theorem aV.then_(h:aV K cA (bO m k) U H s D EX):aV K cA m U H s {D with nx:=λZ' H'=>∃U' J' s',aW K cA U' H' Z' J'/\aD K cA U' H' s'/\aV K cA (k J') U' H' s' D EX} EX:=by
 unfold aV bO at h;unfold aV;cases e:m s with
 |none=>rw[e] at h;exact h
 |some r=>
  obtain⟨r,s1⟩:=r;rw[e] at h;cases r with
  |nx J=>
   intro U1 H1 Z1 x r l;have h2:aV K cA (k J) U H s1 D EX:=h;exact⟨U1,J,s1,l,r,h2.ext x⟩
  |bk J=>exact h
  |ct J=>exact h
  |rt d=>exact h
  |er c fs J=>exact h
end
section
variable (X:Cx)(cA:Cl)(aq:Nat->Nat->Bool)(aj:Bool)(F:Bool->Fn)(EX:XS)
def SS(st:Stmt)(m:St):Prop:=PS X st (tS X.K cA EX (ex aq aj F m))
def vX(st:List Stmt)(m:cB):Prop:=pO X st (tS X.K cA EX (exs aq aj F m))
end
section
variable {X:Cx}{cA:Cl}{aq:Nat->Nat->Bool}{aj:Bool}{F:Bool->Fn}{EX:XS}{a b c d e:Expr}{A B C:E}{pos p p2:Pos}{st:Stmt}{sts body orelse:List Stmt}{m:St}{ms mb me mh:cB}{es:List Expr}{Xs:Es}{x y n:Str}{i j:Nat}
theorem PS.weak{t t':TS}(h:PS X st t)(f:∀D Z H,t' D Z H->t D Z H):PS X st t':=λao s Z H D I q=>h ao s Z H D I (f D Z H q)
theorem pO.weak{t t':TS}(h:pO X sts t)(f:∀D Z H,t' D Z H->t D Z H):pO X sts t':=λao s Z H D I q=>h ao s Z H D I (f D Z H q)
theorem zmH:SS X cA aq aj F EX st .no:=λ_ _ _ _ _ _ ⟨_,_,_,_,_,h⟩=>h.elim
theorem zj3:vX X cA aq aj F EX [] .nil:=pO.weak Ws λD Z H hh=>un hh λU J s hL hS h=>h U H Z Ext.refl hS hL
theorem zht(h1:SS X cA aq aj F EX st m)(h2:vX X cA aq aj F EX sts ms):vX X cA aq aj F EX (st::sts) (.cons m ms):=pO.weak (Wt h1 h2) λD Z H hh=>un hh λU J s hL hS h=>by
 have h:aV X.K cA (bO (ex aq aj F m J) λJ'=>exs aq aj F ms J') U H s D EX:=h;exact⟨U,J,s,hL,hS,h.then_⟩
theorem znl(ha:SE X cA aq aj (F aj) EX a A)(hs:swapsWith a none pos.line X.env=pure false:=by rfl):SS X cA aq aj F EX (.Expr a pos) (.ex A):=PS.weak (zjP ha hs) λD Z H hh=>un hh λU J s hL hS h=>
 ⟨U,J,s,hL,hS,(aV.ofM hL hS.lz h).imp λd s1 U1 H1 ⟨x1,aG,h1⟩ v rv=>h1 U1 H1 Z Ext.refl aG (hL.mono x1 hS.lz)⟩
theorem zkU(ha:SE X cA aq aj (F aj) EX a A):SS X cA aq aj F EX (.Return (some a) pos) (.ret A):=PS.weak (zlR ha) λD Z H hh=>un hh λU J s hL hS h=>
 ⟨U,J,s,hL,hS,(aV.ofM hL hS.lz h).imp λd s1 U1 H1 ⟨x1,aG,h1⟩ v rv=>h1 U1 H1 v Ext.refl aG rv⟩
theorem zkx(hN:X.N.Nodup)(hi:X.N[i]?=some x)(hx:Loc X.env.scope x)(ha:SE X cA aq aj (F aj) EX a A)(hs:swapsWith a (some (.Name x p)) pos.line X.env=pure false:=by rfl)(hf:X.fn x=true\/X.env.scope.names.lookup x=some .local:=by first|exact .inl rfl|exact .inr rfl) :
  SS X cA aq aj F EX (.Assign [.Name x p] a pos) (.asg (.nm i) A):=PS.weak (zkA hN hi hx ha hs hf) λD Z H hh=>un hh λU J s hL hS h=>
 ⟨U,J,s,hL,hS,(aV.ofM hL hS.lz h).imp λd s1 U1 H1 ⟨x1,aG,h1⟩ v rv=>h1 U1 H1 _ Ext.refl aG ((hL.mono x1 hS.lz).set rv)⟩
theorem Sv{k}(hc:X.aj=true)(hN:X.N.Nodup)(hi:X.N[i]?=some x)(hj:X.N[j]?=some y)(hx:Loc X.env.scope x)(hy:Loc X.env.scope y)(xU:X.fn x=true\/X.env.scope.names.lookup x=some .local)(xV:X.fn y=true\/X.env.scope.names.lookup y=some .local) :
  PG X (.Tuple [.Name x px,.Name y py] k pos) (uo X.K 2 (iD (dN i) (iD (dN j) uh))):=zk7 hc (Wv (Ma hN hi hx xU) (Wv (Ma hN hj hy xV) zjj))
theorem YJ{K:W.Frag}{U:Ph}{H:Hp}{s:S}{J:Vs}{Z:L2.St}{D:Ends}{d:Xv}{v:V}(dD:aj=true)(hL:aW K cA U H Z J)(hS:aD K cA U H s)(rv:aU K cA U H d v)(h:aV K cA (store aq aj (F aj) (.tp [i,j]) d J) U H s D EX):uo K 2 (iD (dN i) (iD (dN j) uh)) v Z H D.nx:=by
 have h:aV K cA (if aj=true then ofM (M.bd (dat d) λd=>M.opt ((j9 d).bind λds=>gB [i,j] (ds.map Xv.d) J)) J (λJ' s=>some (Out.nx J',s)) else λ_=>none) U H s D EX:=h;rw[if_pos dD] at h;obtain⟨dd,e0,rd,h1⟩:=M6 rv (aV.ofM hL hS.lz h);obtain⟨J',e,_,aG,h2⟩:=Run.opt hS h1;refine(Jx i j).run U H s Z J J' dd v _ hL hS rd e λZ' hL' _ _=>h2 U H Z' Ext.refl hS hL'
theorem zj2{k}(hc:X.aj=true)(dD:aj=true)(hN:X.N.Nodup)(hi:X.N[i]?=some x)(hj:X.N[j]?=some y)(hx:Loc X.env.scope x)(hy:Loc X.env.scope y)(xU:X.fn x=true\/X.env.scope.names.lookup x=some .local)(xV:X.fn y=true\/X.env.scope.names.lookup y=some .local)(ha:SE X cA aq aj (F aj) EX a A)
  (hs:swapsWithSole [.Tuple [.Name x px,.Name y py] k pt] a pos.line X.env=pure false:=by rfl) (hw:swappedStores [.Tuple [.Name x px,.Name y py] k pt] a X.env=pure none:=by rfl)
  (h1:(assignEach [.Tuple [.Name x px,.Name y py] k pt] X.env).map (·.2)=[assign (.Tuple [.Name x px,.Name y py] k pt) X.env]:=by rfl) :
  SS X cA aq aj F EX (.Assign [.Tuple [.Name x px,.Name y py] k pt] a pos) (.asg (.tp [i,j]) A):=PS.weak (Ww ha (Sv hc hN hi hj hx hy xU xV) hs hw h1) λD Z H hh=>un hh λU J s hL hS h=>
 ⟨U,J,s,hL,hS,(aV.ofM hL hS.lz h).imp λd s1 U1 H1 ⟨x1,aG,h1⟩ v rv=>YJ dD (hL.mono x1 hS.lz) aG rv h1⟩
theorem zkC(hO:SE X cA aq aj (F aj) EX oo O)(hI:SE X cA aq aj (F aj) EX ii I')(ha:SE X cA aq aj (F aj) EX a A)
  (Sw:∀v,assign (.Subscript oo ii p) X.env v=(do
   let ov <-holding [v] (eval oo X.env)
   let iv <-holding [v,ov] (eval ii X.env)
   standAt p
   holding [v,ov,iv] (setItem ov iv v)
   release [v,ov,iv] []):=by intro _;rfl) (hs:swapsWithSole [.Subscript oo ii p] a pos.line X.env=pure false:=by rfl) (hw:swappedStores [.Subscript oo ii p] a X.env=pure none:=by rfl)
  (h1:(assignEach [.Subscript oo ii p] X.env).map (·.2)=[assign (.Subscript oo ii p) X.env]:=by rfl) :
  SS X cA aq aj F EX (.Assign [.Subscript oo ii p] a pos) (.asg (.aq O I') A):=PS.weak (Ww ha (zk6 hO hI zhR Sw) hs hw h1) λD Z H hh=>un hh λU J s hL hS h=>by
 refine⟨U,J,s,hL,hS,(aV.ofM hL hS.lz h).imp λd s1 U1 H1 ⟨x1,aG,h1⟩ v rv=>?_⟩;obtain⟨dd,e0,rd,h2⟩:=M6 rv (aV.ofM (hL.mono x1 hS.lz) aG.lz h1);refine aX (hL.mono x1 hS.lz) aG h2 λxo H2 U2 d2 s2 x2 hL2 aM r2 h3=>aX hL2 aM h3 λyi H3 U3 d3 s3 x3 nO fU r3 h4=>?_;obtain⟨k,_,ek,h5⟩:=Cq r3 h4;obtain⟨n,ad,xs,vs,_,ea,e1,f1,g1,q1,h6⟩:=Nb fU (r2.mono x3 aM.lz) h5;subst ek ea;cases ej:L2.rW xs.length k with
 |none=>simp only[ej] at h6;exact h6.elim
 |some jj=>
  simp only[ej] at h6;refine⟨ad,vs,k,jj,rfl,rfl,g1,by rw[<-q1.len];exact ej,?_⟩;have rv3:=(rd.mono x2 aG.lz).mono x3 aM.lz;have qY:=fU.write e1 f1 (q1.set rv3 jj);have x4:Ext U3 H3 U3 (upd H3 ad (.lst (vs.set jj v))):=Ext.write f1 ⟨_,g1⟩;obtain⟨_,_,h8⟩:=h6 U3 _ x4 qY;exact h8 U3 _ Z Ext.refl qY (nO.mono x4 fU.lz)
theorem zl9{kt k2 uq}(hc:X.aj=true)(dD:aj=true)(hN:X.N.Nodup)(hi:X.N[i]?=some x)(hj:X.N[j]?=some y)(wO:i≠j)(hx:X.env.scope.names.lookup x=some .local)(hy:X.env.scope.names.lookup y=some .local)
  (ha:SE X cA aq aj (F aj) EX a A) (hb:SE X cA aq aj (F aj) EX b B) (h1:starEach [a,b] X.env=(false,eval a X.env)::starEach [b] X.env) (h2:starEach [b] X.env=(false,eval b X.env)::starEach [] X.env)
  (hw:swappedStores [.Tuple [.Name x px,.Name y py] kt pt] (.Tuple [a,b] k2 uq) X.env=pure (some [x,y]))
  (hs:swapsWithSole [.Tuple [.Name x px,.Name y py] kt pt] (.Tuple [a,b] k2 uq) pos.line X.env=pure false:=by rfl) :
  SS X cA aq aj F EX (.Assign [.Tuple [.Name x px,.Name y py] kt pt] (.Tuple [a,b] k2 uq) pos) (.par i j A B):=PS.weak (zkR hc hN hi hj wO hx hy (rQ ha (rQ hb wV h2) h1) hw hs) λD Z H hh=>un hh λU J s hL hS h=>by
 have h:aV X.K cA (if aj=true then ofM (M.bd (ev aq aj (F aj) A J) λx=>M.bd (ev aq aj (F aj) B J) λy=>M.ret (x,y)) J (λxy s=>some (.nx ((J.set i (some xy.1)).set j (some xy.2)),s)) else λ_=>none) U H s D EX:=h;rw[if_pos dD] at h;refine aX hL hS (aV.ofM hL hS.lz h) λx H1 U1 d1 s1 x1 hL1 aG r1 h1=>aX hL1 aG h1 λy H2 U2 d2 s2 x2 hL2 aM r2 h2=>?_;obtain⟨_,_,h3⟩:=h2.bC aM;exact⟨x,y,rfl,h3 U2 H2 _ Ext.refl aM ((hL2.set (r1.mono x2 aG.lz)).set r2)⟩
theorem zkK{pos':Pos}(hN:X.N.Nodup)(hi:X.N[i]?=some x)(hx:Loc X.env.scope x)(ha:SE X cA aq aj (F aj) EX a A)(hf:X.fn x=true\/X.env.scope.names.lookup x=some .local)(hr:PS X (.AugAssign (.Name x p) .Add a pos) (Ho i (tE X.K cA EX (ev aq aj (F aj) A)) (Wx λi j=>i+j))) :
  SS X cA aq aj F EX (.AugAssign (.Name x p) .Add a pos) (.aug i A):=PS.weak hr λD Z H hh=>un hh λU J s hL hS h=>by
 have h:=aV.ofM hL hS.lz h;obtain⟨xv,e,h1⟩:=Run.m9 h;obtain⟨v,q1,q2⟩:=hL.2 i xv (M7 e);refine⟨v,q1,aX hL hS h1 λy H1 U1 d1 s1 x1 hL1 aG r1 h2=>?_⟩;obtain⟨p1,_,e1,h3⟩:=Cq (q2.mono x1 hS.lz) h2;obtain⟨p2,_,e2,h4⟩:=Cq r1 h3;obtain⟨_,_,h5⟩:=h4.bC aG;exact⟨p1,p2,e1,e2,h5 U1 H1 _ Ext.refl aG (hL1.set (.d (.int _)))⟩
theorem znd(hc:ST X cA aq aj (F aj) EX c C)(ht:vX X cA aq aj F EX body mb)(he:vX X cA aq aj F EX orelse me):SS X cA aq aj F EX (.If c body orelse pos) (.iff C mb me):=PS.weak (zm7 hc ht he) λD Z H hh=>un hh λU J s hL hS h=>by
 refine⟨U,J,s,hL,hS,(aV.ofM hL hS.lz h).imp λk s1 U1 H1 ⟨x1,aG,h1⟩=>?_⟩;cases k with
 |true=>exact iT ⟨U1,J,s1,hL.mono x1 hS.lz,aG,h1⟩
 |false=>exact iF ⟨U1,J,s1,hL.mono x1 hS.lz,aG,h1⟩
theorem zjA{g:TG}{elt iter tg:Expr}{ifs:List Expr}{scope:Scope}{N:List Str}{cond:Eo}{fr aL:List Nat}{many:Nat}{fz:Bool}{w:Wk}{spos py:Pos}(hc:X.aj=true)(oR:X.N.Nodup)(rY:X.N[i]?=some y)(hx:Loc X.env.scope y)(hf:X.fn y=true\/X.env.scope.names.lookup y=some .local)(B':b_ X.env.scope scope)(hi:SI X cA aq aj (F aj) EX tg iter w)(hN:N.length=many+fr.length)
  (pB:∀(i:Nat) (y:Str) (j:Nat),N[many+i]?=some y->fr[i]?=some j->scope.names.lookup y=some .free/\X.N[j]?=some y)
  (hg:∀cl C s3 H3 fp ao,PG (X.blk scope cl N C s3 H3 fp ao) tg g) (hT:dU X.K cA g aL) (cV:∀i∈aL,i<many)
  (ht:∀cl C s3 H3 fp ao,Cv (X.blk scope cl N C s3 H3 fp ao) cA aq aj (F aj) (λ_ _ _ _=>False) ifs cond) (he:∀cl C s3 H3 fp ao,SE (X.blk scope cl N C s3 H3 fp ao) cA aq aj (F aj) (λ_ _ _ _=>False) elt B)
  (uK:swapsWith (.ListComp elt [⟨tg,iter,ifs,0⟩] scope pos) (some (.Name y py)) spos.line X.env=pure true) (hs:∀x,foldedSetIterable iter X.env x=pure x:=by intro _;rfl) :
  SS X cA aq aj F EX (.Assign [.Name y py] (.ListComp elt [⟨tg,iter,ifs,0⟩] scope pos) spos) (.asg (.nm i) (.comp fz B aL w fr many cond)):=
 PS.weak (ze5 hc oR rY hx hf B' hi (⟨hg,ht,he⟩ : Parts X elt tg ifs scope N g (qm X.K cA (λ_ _ _ _=>False) (lZ aq aj (F aj) cond)) (tE X.K cA (λ_ _ _ _=>False) (ev aq aj (F aj) B))) (ZY:=bB many fr) (λZ=>by simp[bB,hN]) (λZ i x v e1 e2=>Nf pB Z i x v e1 e2) uK hs) λD Z H hh=>un hh λU J s hL hS h=>
  YG (iter':=iter) hT cV ⟨U,J,s,hL,hS,(aV.ofM hL hS.lz h).imp λd s1 U1 H1 ⟨x1,aG,h1⟩ v rv=>h1 U1 H1 _ Ext.refl aG ((hL.mono x1 hS.lz).set rv)⟩
noncomputable def oU(m:MS)(kN:Vs->MS):MS:=λs=>match m s with
 |some (.nx J',s')=>kN J' s'
 |some (.ct J',s')=>kN J' s'
 |some (.bk J',s')=>some (.nx J',s')
 |r=>r
theorem YK{K:W.Frag}{U:Ph}{H:Hp}{s:S}{D:Ends}{m:MS}{kN:Vs->MS}{N:L2.St->Hp->Prop}(hN:∀U' J' s' Z' H',Ext U H U' H'->aW K cA U' H' Z' J'->aD K cA U' H' s'->aV K cA (kN J') U' H' s' D EX->N Z' H')(h:aV K cA (oU m kN) U H s D EX) :
  aV K cA m U H s {D with nx:=N,ct:=N,bk:=D.nx} EX:=by
 unfold aV oU at h;unfold aV;cases e:m s with
 |none=>rw[e] at h;exact h
 |some r=>
  obtain⟨r,s1⟩:=r;rw[e] at h;cases r with
  |nx J'=>
   intro U1 H1 Z1 x r l;have h2:aV K cA (kN J') U H s1 D EX:=h;exact hN U1 J' s1 Z1 H1 x l r (h2.ext x)
  |ct J'=>
   intro U1 H1 Z1 x r l;have h2:aV K cA (kN J') U H s1 D EX:=h;exact hN U1 J' s1 Z1 H1 x l r (h2.ext x)
  |bk J'=>exact h
  |rt d=>exact h
  |er c fs J'=>exact h
theorem zhx(hp:PassesOwn (model X.prog X.w) X.A X.env X.xe)(hc:ST X cA aq aj (F aj) EX c C)(hb:vX X cA aq aj F EX body mb):SS X cA aq aj F EX (.While c body [] pos) (.wh C mb):=PS.weak (zhE hp hc hb) λD Z H hh=>un hh λU J s hL hS h=>by
 refine⟨λm Z H=>∃U J s,aW X.K cA U H Z J/\aD X.K cA U H s/\aV X.K cA (cU (λJ=>M.bd (ev aq aj (F aj) C J) bool) (λJ=>exs aq aj F mb J) m J) U H s D EX,⟨zK,U,J,s,hL,hS,h⟩,?_⟩;rintro m Z H ⟨U,J,s,hL,hS,h⟩;cases m with
 |zero=>exact h.elim
 |succ m=>
  refine⟨U,J,s,hL,hS,(aV.ofM (k:=λok=>if ok=true then oU (exs aq aj F mb J) (cU (λJ=>M.bd (ev aq aj (F aj) C J) bool) (λJ=>exs aq aj F mb J) m) else λs=>some (.nx J,s)) hL hS.lz h).imp λk s1 U1 H1 ⟨x1,aG,h1⟩=>?_⟩;cases k with
  |true=>
   rw[if_pos rfl] at h1 ⊢;refine⟨_,λZ' H' z=>⟨m,Gs m,z⟩,U1,J,s1,hL.mono x1 hS.lz,aG,YK (λU' J' s' Z' H' _ l r q=>?_) h1⟩;exact⟨U',J',s',l,r,q⟩
  |false=>
   rw[if_neg Gm] at h1 ⊢;exact h1 U1 H1 Z Ext.refl aG (hL.mono x1 hS.lz)
def SG(X:Cx)(cA:Cl)(aq:Nat->Nat->Bool)(aj:Bool)(F:Bool->Fn)(EX:XS)(tg:Expr)(t:Tg):Prop:=∃g:TG,PG X tg g/\∀(U:Ph) (H:Hp) (s:S) (Z:L2.St) (J:Vs) (d:Xv) (v:V) (D:Ends),aW X.K cA U H Z J->aD X.K cA U H s->aU X.K cA U H d v->
 aV X.K cA (store aq aj (F aj) t d J) U H s D EX->g v Z H D.nx
theorem zjq(hN:X.N.Nodup)(hi:X.N[i]?=some x)(hx:Loc X.env.scope x)(hf:X.fn x=true\/X.env.scope.names.lookup x=some .local:=by first|exact .inl rfl|exact .inr rfl):SG X cA aq aj F EX (.Name x pos) (.nm i):=
 ⟨_,Ma hN hi hx hf,λU H s Z J d v D hL hS r h=>h U H _ Ext.refl hS (hL.set r)⟩
theorem zkc{k}(hc:X.aj=true)(dD:aj=true)(hN:X.N.Nodup)(hi:X.N[i]?=some x)(hj:X.N[j]?=some y)(hx:Loc X.env.scope x)(hy:Loc X.env.scope y)(xU:X.fn x=true\/X.env.scope.names.lookup x=some .local)(xV:X.fn y=true\/X.env.scope.names.lookup y=some .local) :
  SG X cA aq aj F EX (.Tuple [.Name x px,.Name y py] k pos) (.tp [i,j]):=
 ⟨_,Sv hc hN hi hj hx hy xU xV,λU H s Z J d v D hL hS r h=>YJ dD hL hS r h⟩
theorem zlm(hp:PassesOwn (model X.prog X.w) X.A X.env X.xe)(hc:X.aj=true)(dD:aj=true)(ha:SI X cA aq aj (F aj) EX tg a w)(hg:SG X cA aq aj F EX tg t)(hb:vX X cA aq aj F EX body mb)
  (hs:∀x,foldedSetIterable a X.env x=pure x:=by intro _;rfl):SS X cA aq aj F EX (.For tg a body [] pos) (.fr t w mb):=by
 obtain⟨g,hG,hg⟩:=hg;refine PS.weak (zmd hp hc ha hG hb hs) λD Z H hh=>un hh λU J s hL hS h=>?_;have h:aV X.K cA (if aj=true then ofM (gF aq aj (F aj) w J) J λcn=>cM cn.1 (λd J=>bO (store aq aj (F aj) t (.d d) J) λJ'=>exs aq aj F mb J') (cn.2+1) 0 J else λ_=>none) U H s D EX:=h;rw[if_pos dD] at h;refine⟨U,J,s,hL,hS,(aV.ofM hL hS.lz h).imp λcn s1 U1 H1 ⟨x1,aG,h1⟩ aZ hJ=>?_⟩;have hL1:=hL.mono x1 hS.lz;obtain⟨c,n⟩:=cn;dsimp only at h1 hJ;refine⟨λi m Z' H'=>∃U' J' s',Ext U1 H1 U' H'/\aW X.K cA U' H' Z' J'/\aD X.K cA U' H' s'/\aV X.K cA (cM c (λd J=>bO (store aq aj (F aj) t (.d d) J) λJ'=>exs aq aj F mb J') m i J') U' H' s' D EX,⟨n+1,U1,J,s1,Ext.refl,hL1,aG,h1⟩,?_⟩;rintro i m Z' H' ⟨U',J',s',x2,hL2,aM,h4⟩;cases m with
 |zero=>exact h4.elim
 |succ m=>
  cases ei:c.at i s' with
  |none=>
   exfalso
   unfold aV cM at h4;simp only[ei] at h4
  |some oi=>
   cases oi with
   |none=>
    refine .inl ⟨hJ.stop U' H' H' s' i x2 cN.refl aM ei,?_⟩;unfold aV cM at h4;simp only[ei] at h4;exact h4 U' H' Z' Ext.refl aM hL2
   |some xi=>
    refine .inr ⟨hJ.go U' H' H' s' i xi x2 cN.refl aM ei,_,λZ3 H3 z=>⟨m,Gs m,z⟩,λv H3 hy=>?_⟩;obtain⟨gr,rx⟩:=hJ.ur U' H' H' s' i xi v H3 x2 cN.refl aM ei hy;have h5:aV X.K cA (oU (bO (store aq aj (F aj) t (.d xi) J') λJ'=>exs aq aj F mb J') (cM c (λd J=>bO (store aq aj (F aj) t (.d d) J) λJ'=>exs aq aj F mb J') m (i+1))) U' H' s' D EX:=by
     unfold aV at h4 ⊢;have e:cM c (λd J=>bO (store aq aj (F aj) t (.d d) J) λJ'=>exs aq aj F mb J') (m+1) i J' s'=oU (bO (store aq aj (F aj) t (.d xi) J') λJ'=>exs aq aj F mb J') (cM c (λd J=>bO (store aq aj (F aj) t (.d d) J) λJ'=>exs aq aj F mb J') m (i+1)) s':=by
      rw[cM];simp only[ei];rfl
     rw[e] at h4;exact h4
    exact hg U' H3 s' Z' J' (.d xi) v _ (hL2.mono gr.ext aM.lz) (aM.grow gr) (.d rx) (aV.then_ (YK (λU4 J4 s4 Z4 H4 x4 l4 r4 q4=>⟨U4,J4,s4,(x2.trans gr.ext).trans x4,l4,r4,q4⟩) (h5.ext gr.ext)))
end
end Mi
namespace L2
open PySem PySem.Spec PyProof.Rows
structure oV(K:W.Frag)(x qual:Str)(st:Stmt)(f:Addr)(fd:FuncData):Prop where
 ex:∃(oc:Value) (od:Option Addr) (kV doc pm:Value) (an:Option Addr) (cdv ct:Value) (osl:Array (Option Value)),
  fd=PySem.W.fnOf x qual (aY st) (aJ st) (au st) .none kV doc pm an cdv ct/\K.lookup f=some ⟨oc,od,.func fd,osl⟩/\PySem.W.codeIn K cdv qual=true
 kp:PySem.W.keepIn K (.ref f)=true
end L2
namespace Mi
open PySem PySem.Spec PyProof.Rows L2
section
variable {P:Program}{w:World}{K:W.Frag}{mg:Str->Option Value}{base:Heap}{cA:Cl}{aq:Nat->Nat->Bool}{T:Nat->Option Df}
theorem Sx{U:Ph}{H:Hp}{N:List Str}{ds:List Xv}{vs:List V}{m p:Nat}(r:aR K cA U H ds vs)(hp:p=ds.length)(hm:m=N.length):aW K cA U H (L2.start N vs) (ds.map some++List.replicate (m-p) none):=by
 subst hp hm;unfold L2.start;have hl:=r.len;refine⟨by simp[hl],λi d e=>?_⟩;by_cases hi:i<ds.length
 ·rw[pq (by simpa using hi),jP] at e;cases z:ds[i]? with
  |none=>rw[z] at e;cases e
  |some x=>
   rw[z] at e;cases e;obtain⟨v,a,b⟩:=r.get z;exact⟨v,by rw[pq (by simp;lia),jP,a];rfl,b⟩
 ·rw[pF (by simpa using hi),Ad] at e;split at e<;>cases e
theorem Ng{U:Ph}{H:Hp}{s:S}{ds:List Xv}{k n:Nat}{cm:Bool}{df:Df}{Q:VK}{E:XK}(hT:T n=some df)
  (h:Run K cA (call aq T (k+1) cm n ds) U H s (λd _ U' H'=>∀v,aU K cA U' H' d v->Q v H') (λc fs _ U' H'=>∀dx,kj K cA U' H' c fs dx->E (.ref (cA.a c)) dx H')) :
  ds.length=df.eU/\aV K cA (exs aq cm (λc=>call aq T k c) df.body (ds.map some++List.replicate (df.many-df.eU) none)) U H s {nx:=λ_ H'=>Q .non H',rt:=Q} (λ_ C dx H'=>E C dx H'):=by
 unfold call at h;simp only[hT] at h;by_cases hl:ds.length=df.eU
 ·refine⟨hl,?_⟩;rw[if_pos hl] at h;unfold Run at h;unfold aV;cases e:exs aq cm (λc=>call aq T k c) df.body (ds.map some++List.replicate (df.many-df.eU) none) s with
  |none=>simp only[e] at h
  |some r=>
   obtain⟨r,s1⟩:=r;simp only[e] at h;cases r with
   |nx J=>exact λU' H' Z' x r l=>h U' H' x r _ (.d .non)
   |rt d=>exact λU' H' v x r rv=>h U' H' x r v rv
   |er c fs J=>exact λU' H' Z' x r l=>h U' H' x r
   |bk J=>exact h.elim
   |ct J=>exact h.elim
 ·rw[if_neg hl] at h;exact h.elim
theorem dW:cF P w K mg base (fu P w) cm 0 f fd ps (lG K cA (call aq T 0 cm n)):=
 ⟨λvs H Q E ⟨_,_,_,_,_,h⟩=>h.elim,λA outer s H args us vs Q E _ _ _ _ _ ⟨_,_,_,_,_,h⟩=>h.elim⟩
theorem YL{x qual:Str}{st:Stmt}{f:Addr}{fd:FuncData}{N ps:List Str}{k n:Nat}{cm:Bool}{df:Df}(F:oV K x qual st f fd)(S:bW N ps (au st))(hT:T n=some df)(hp:df.eU=ps.length)(hm:df.many=N.length)
  (hb:∀(cdv:Value) (A:Around) (outer:List Env) (s:Shared) (H:Hp) (E:XK),bx (k+1) A->
   vX (dH (fu P w) P w K mg base N qual (au st) f cdv A outer s H E cm) cA aq cm (λc=>call aq T k c) (λ_ C dx H'=>E C dx H') (aJ st) df.body) :
  cF P w K mg base (fu P w) cm (k+1) f fd ps (lG K cA (call aq T (k+1) cm n)):=by
 obtain⟨oc,od,kV,doc,pm,an,cdv,ct,osl,rfl,lk,iC⟩:=F.ex;refine Qy lk iC S (λvs H Q E ⟨U,ds,s,r,hS,h⟩=>?_) λA outer s H vs Q E hr ⟨U,ds,st',r,hS,h⟩=>?_
 ·rw[<-r.len,(Ng hT h).1,hp]
 ·obtain⟨hl,h2⟩:=Ng hT h;exact⟨_,hb cdv A outer s H E hr,U,_,st',Sx r hl.symm hm,hS,h2⟩
theorem zlu{x qual:Str}{st:Stmt}{f:Addr}{fd:FuncData}{N ps:List Str}{k n:Nat}{cm:Bool}{df:Df}(F:oV K x qual st f fd)(S:bW N ps (au st))(hT:T n=some df)(hp:df.eU=ps.length)(hm:df.many=N.length)
  (hb:∀(cdv:Value) (A:Around) (outer:List Env) (s:Shared) (H:Hp) (E:XK),bx k (A.deeper (envOfC qual (au st) s.heap.objs.size f cdv))->
   vX (dH (fu P w) P w K mg base N qual (au st) f cdv A outer s H E cm) cA aq cm (λc=>call aq T k c) (λ_ C dx H'=>E C dx H') (aJ st) df.body) :
  cF P w K mg base (fu P w) cm (k+1) f fd ps (lG K cA (call aq T (k+1) cm n)):=YL F S hT hp hm λcdv A outer s H E hr=>hb cdv A outer s H E (hr.deeper _)
end
theorem zlI{K:W.Frag}{cA:Cl}{m:List Xv->M Xv}{H:Hp}{a:Addr}{ns:List Int}(hq:cR K H a (ns.map V.int))(hm:∃s',m [.d (.fl (ns.map D.int))] []=some (.ok (.d (.bl true)),s')) :
  lG K cA m [.ref a] H (λv _=>v=.bl true) λ_ _ _=>False:=by
 have rs:∀(l:List Int) U,aB K cA U H (l.map D.int) (l.map V.int):=λl U=>by
  induction l with
  |nil=>exact .nil
  |cons i l ih=>exact .cons (.int i) ih
 have hl:LstAt K ⟨λ_=>False,[]⟩ H a (ns.map V.int):=by
  rcases hq with h|h
  ·exact .inl ⟨h,λz=>z⟩
  ·exact .inr (.inr h)
 refine⟨⟨λ_=>False,[]⟩,[.d (.fl (ns.map D.int))],[],.cons (.d (.fl hl (rs ns _))) .nil,⟨rfl,(λn o b e1 e2=>by simp at e1),Ao,(λb hb=>by cases hb),(λb z=>False.elim z)⟩,?_⟩;obtain⟨s',e⟩:=hm;unfold Run;rw[e];intro U' H' _ _ v rv;cases rv with
 |d rv=>cases rv;rfl
theorem zgj:Raises X (λ_ _ _ _=>False):=λ_ _ _ _ _ _ _ _ _ _ _ _ _ z=>z.elim
theorem xW(r:bx k A):A.units+60<cLine:=by have:=r.un;lia
noncomputable def aC:Expr->Bool
 |.Starred _ _=>false
 |_=>true
theorem bf(h:aC e=true):starEach (e::es) env=(false,eval e env)::starEach es env:=by
 cases e<;>first|rfl|cases h
theorem bD:∀{es:List Expr} {env:Env} {pos:Pos},es.all aC=true->(backTo pos (starEach es env)).any (·.1)=false
 |[],_,_,_=>rfl
 |e::es,env,pos,h=>by
  rw[yR,eG] at h;rw[bf h.1];show (false||(backTo pos (starEach es env)).any (·.1))=false;rw[bD h.2];rfl
theorem q_:∀{es:List Expr} {env:Env} {pos:Pos},es.all aC=true->(backTo pos (starEach es env)).all (λx=>!x.1)=true
 |[],_,_,_=>rfl
 |e::es,env,pos,h=>by
  rw[yR,eG] at h;rw[bf h.1];show (true&&(backTo pos (starEach es env)).all (λx=>!x.1))=true;rw[q_ h.2];rfl
theorem nj(h1:aC e=true)(h2:es.all aC=true)(h3:decide (es.length<28)=true):((backTo pos (starEach (e::es) env)).all (λx=>!x.1)&&(backToKw pos (keywordEach [] env)).all (λx=>x.1.isSome)&&decide ((e::es).length+([]:List Keyword).length+(if ([]:List Keyword).isEmpty then 0 else 1)<30))=true:=by
 rw[q_ (es:=e::es) (by rw[yR,h1,h2];rfl)];have:=lC h3;have z:(e::es).length+([]:List Keyword).length+(if ([]:List Keyword).isEmpty then 0 else 1)<30:=by
  show es.length+1+0+0<30
  lia
 rw[nH z];rfl
noncomputable def qw(sc scope:Scope):Bool:=(match scope.kind with|.function=>true|_=>false)&&scope.names.all λy=>match y.2 with
 |.cell=>(match scope.names.lookup y.1 with|some .cell=>true|_=>false)
 |.free=>(match sc.names.lookup y.1 with|some .cell=>true|some .free=>true|_=>false)
 |.local=>(match scope.names.lookup y.1 with|some .local=>true|_=>false)
 |_=>true
theorem b_.of(h:qw sc scope=true):b_ sc scope:=by
 unfold qw at h;rw[eG,gY] at h;obtain⟨h1,h2⟩:=h;refine⟨?_,λy hy z=>?_,λy hy z=>?_,λy hy z=>?_⟩
 ·split at h1
  ·assumption
  ·cases h1
 ·have:=h2 y hy;rw[z] at this;dsimp only at this;split at this
  ·assumption
  ·cases this
 ·have:=h2 y hy;rw[z] at this;dsimp only at this;split at this
  ·exact .inl (by assumption)
  ·exact .inr (by assumption)
  ·cases this
 ·have:=h2 y hy;rw[z] at this;dsimp only at this;split at this
  ·assumption
  ·cases this
noncomputable def frB(scope:Scope)(XN:List Str):List Str->List Nat->Bool
 |y::N,j::fr=>(match scope.names.lookup y with|some .free=>true|_=>false)&&decide (XN[j]?=some y)&&frB scope XN N fr
 |[],[]=>true
 |_,_=>false
theorem YM:∀{N:List Str} {fr:List Nat},frB scope XN N fr=true->N.length=fr.length/\∀(i:Nat) (y:Str) (j:Nat),N[i]?=some y->fr[i]?=some j->scope.names.lookup y=some .free/\XN[j]?=some y
 |[],[],_=>⟨rfl,λi y j h=>by simp at h⟩
 |[],_::_,h=>by cases h
 |_::_,[],h=>by cases h
 |y::N,j::fr,h=>by
  unfold frB at h;rw[eG,eG,yP] at h;obtain⟨⟨h1,h2⟩,h3⟩:=h;obtain⟨l,q⟩:=YM h3;refine⟨by simp[l],λi z m e1 e2=>?_⟩;cases i with
  |zero=>
   simp at e1 e2;subst e1 e2;refine⟨?_,h2⟩;split at h1
   ·assumption
   ·cases h1
  |succ i=>exact q i z m (by simpa using e1) (by simpa using e2)
noncomputable def okN(x:Str):Bool:=!(x==("__debug__" : Str)) && !(x==("__classdict__" : Str)) && !decide (x="__name__")
theorem uZ(h:okN x=true):(x==("__debug__" : Str))=false/\(x==("__classdict__" : Str))=false/\x≠"__name__":=by
 unfold okN at h;simp only[eG,Bool.not_eq_true',decide_eq_false_iff_not] at h;exact⟨h.1.1,h.1.2,h.2⟩
theorem Nh{env:Env}{k:NameKind}(hk:k≠.free):∀{names:List (Str×NameKind)} {x:Str},names.lookup x=some k->
  (names.map λ(n,k)=>if (k==NameKind.free&&env.scope.kind==.function&&env.kindOf n==some .cell) then (n,NameKind.cell) else (n,k)).lookup x=some k
 |[],x,h=>by simp at h
 |(n,q)::r,x,h=>by
  rw[pH] at h;rw[jk,pH];have hd:∀c:Bool,(if c=true then (n,NameKind.cell) else (n,q)).1=n:=λc=>by cases c<;>rfl
  rw[hd];by_cases z:x=n
  ·subst z;simp only[DN] at h ⊢;cases h
   split
   ·rename_i y;simp only[eG,nR] at y;exact absurd y.1.1 hk
   ·rfl
  ·have z':(x==n)=false:=by simpa using z
   simp only[z'] at h ⊢;exact Nh hk h
noncomputable def u5(K:W.Frag):Sp:=λvs H Q _=>∃(a:Addr) (ns:List Int),vs=[.ref a]/\cR K H a (ns.map V.int)/\ns.length<=63/\True/\∀H',Q (.bl true) H'
theorem ziT{K:W.Frag}{cA:Cl}{m:List Xv->M Xv}(hm:∀ns:List Int,ns.length<=63->∃s',m [.d (.fl (ns.map D.int))] []=some (.ok (.d (.bl true)),s'))(vs:List V)(H:Hp)(Q:VK)(E:XK)(h:u5 K vs H Q E):lG K cA m vs H Q E:=by
 obtain⟨a,ns,rfl,hq,hl,hO,k⟩:=h;obtain⟨U,ds,s,r1,r2,h⟩:=zlI (cA:=cA) (m:=m) hq (hm ns hl);refine⟨U,ds,s,r1,r2,?_⟩;unfold Run at h ⊢;split at h
 ·intro U' H' x r v rv;rw[h U' H' x r v rv];exact k H'
 ·exact λU' H' x r dx q=>(h U' H' x r dx q).elim
 ·exact h
theorem Cz{K:W.Frag}{fd:FuncData}{p:Str}(h:∀a,bindArgs fd ⟨[a],[]⟩=pure [(p,a)]):Binds K fd [p] []:=.all λus hl=>by
 cases us with
 |nil=>cases hl
 |cons a r=>cases r with
  |nil=>exact h a
  |cons b r=>cases hl
theorem u6{K:W.Frag}{fd:FuncData}{p q:Str}(h:∀a b,bindArgs fd ⟨[a,b],[]⟩=pure [(p,a),(q,b)]):Binds K fd [p,q] []:=.all λus hl=>by
 cases us with
 |nil=>cases hl
 |cons a r=>cases r with
  |nil=>cases hl
  |cons b r=>cases r with
   |nil=>exact h a b
   |cons c r=>cases hl
theorem u9{K:W.Frag}{fd:FuncData}{p q t:Str}(h:∀a b c,bindArgs fd ⟨[a,b,c],[]⟩=pure [(p,a),(q,b),(t,c)]):Binds K fd [p,q,t] []:=.all λus hl=>by
 cases us with
 |nil=>cases hl
 |cons a r=>cases r with
  |nil=>cases hl
  |cons b r=>cases r with
   |nil=>cases hl
   |cons c r=>cases r with
    |nil=>exact h a b c
    |cons d r=>cases hl
theorem u_{K:W.Frag}{fd:FuncData}{p q t u:Str}(h:∀a b c d,bindArgs fd ⟨[a,b,c,d],[]⟩=pure [(p,a),(q,b),(t,c),(u,d)]):Binds K fd [p,q,t,u] []:=.all λus hl=>by
 cases us with
 |nil=>cases hl
 |cons a r=>cases r with
  |nil=>cases hl
  |cons b r=>cases r with
   |nil=>cases hl
   |cons c r=>cases r with
    |nil=>cases hl
    |cons d r=>cases r with
     |nil=>exact h a b c d
     |cons e r=>cases hl
theorem YQ:bootBuiltins "int"=some (.type "int"):=by decide +kernel
theorem YS:bootBuiltins "bool"=some (.type "bool"):=by decide +kernel
theorem Jz:bootBuiltins "tuple"=some (.type "tuple"):=by decide +kernel
theorem YT:bootBuiltins "list"=some (.type "list"):=by decide +kernel
structure JE(X:Cx)(cA:Cl)(aq:Nat->Nat->Bool)(aj:Bool)(F:Fn)(EX:XS)(e:Expr)(m:E):Prop where
 o:SE X cA aq aj F EX e m
structure JA(X:Cx)(cA:Cl)(aq:Nat->Nat->Bool)(aj:Bool)(F:Fn)(EX:XS)(e:List Expr)(m:Es):Prop where
 o:SA X cA aq aj F EX e m
structure JT(X:Cx)(cA:Cl)(aq:Nat->Nat->Bool)(aj:Bool)(F:Fn)(EX:XS)(e:Expr)(m:E):Prop where
 o:ST X cA aq aj F EX e m
structure JW(X:Cx)(cA:Cl)(aq:Nat->Nat->Bool)(aj:Bool)(F:Fn)(EX:XS)(e:Expr)(m:E):Prop where
 o:SW X cA aq aj F EX e m
structure JC(X:Cx)(cA:Cl)(aq:Nat->Nat->Bool)(aj:Bool)(F:Fn)(EX:XS)(e:List Expr)(m:Eo):Prop where
 o:Cv X cA aq aj F EX e m
structure JO(X:Cx)(cA:Cl)(aq:Nat->Nat->Bool)(aj:Bool)(F:Fn)(EX:XS)(e:Option Expr)(m:Eo):Prop where
 o:Jq X cA aq aj F EX e m
structure JI(X:Cx)(cA:Cl)(aq:Nat->Nat->Bool)(aj:Bool)(F:Fn)(EX:XS)(tg e:Expr)(m:Wk):Prop where
 o:SI X cA aq aj F EX tg e m
structure JG(X:Cx)(cA:Cl)(aq:Nat->Nat->Bool)(aj:Bool)(F:Bool->Fn)(EX:XS)(e:Expr)(m:Tg):Prop where
 o:SG X cA aq aj F EX e m
structure JS(X:Cx)(cA:Cl)(aq:Nat->Nat->Bool)(aj:Bool)(F:Bool->Fn)(EX:XS)(e:Stmt)(m:St):Prop where
 o:SS X cA aq aj F EX e m
structure JB(X:Cx)(cA:Cl)(aq:Nat->Nat->Bool)(aj:Bool)(F:Bool->Fn)(EX:XS)(e:List Stmt)(m:cB):Prop where
 o:vX X cA aq aj F EX e m
structure JK(X:Cx)(x:Str)(k:NameKind):Prop where
 o:X.env.scope.names.lookup x=some k
structure JP(X:Cx)(cA:Cl)(op:CmpOp)(p:Pr):Prop where
 o:∃r,fO X (compareOp op) r/\bH X.K cA p (r2 r)
structure JQ(X:Cx)(cA:Cl)(op:Operator)(p:Pr):Prop where
 o:∃r,fO X (binaryOp op) r/\bH X.K cA p (r2 r)
structure JN(X:Cx)(cA:Cl)(kx:Expr)(k:Kd):Prop where
 o:PE X kx (tC (Fd cA k))
structure JR(X:Cx)(EX:XS):Prop where
 o:Raises X EX
structure JH(X:Cx):Prop where
 o:PassesOwn (model X.prog X.w) X.A X.env X.xe
structure JY(X:Cx)(tg:Expr)(g:TG):Prop where
 o:PG X tg g
noncomputable def lH:NameKind->Bool
 |.local=>true
 |.cell=>true
 |_=>false
noncomputable def CG:NameKind->Bool
 |.local=>true
 |.cell=>true
 |.free=>true
 |_=>false
section
variable {X:Cx}{cA:Cl}{aq:Nat->Nat->Bool}{aj:Bool}{F:Fn}{EX:XS}{a b c d e:Expr}{A B C Dd E':E}{pos p p2 apos:Pos}{es:List Expr}{Xs:Es}{x y:Str}{k k':NameKind}{q q1 q2 q3:Pr}{fz:Bool}
theorem YW(h:scope.names.lookup x=some k)(hk:(match k with|.free=>false|_=>true)=true):JK (X.blk scope cl N Cc s3 H3 fp ao) x k:=
 ⟨Nh (by intro z;subst z;cases hk) h⟩
theorem YX(i:Nat)(hN:X.N[i]?=some x)(h:JK X x k)(hv:CG k=true)(hd:okN x=true):JE X cA aq aj F EX (.Name x pos) (.v i):=
 ⟨X6 i hN (by cases k<;>first|exact .inl h.o|exact .inr (.inl h.o)|exact .inr (.inr h.o)|cases hv) (uZ hd).1 (uZ hd).2.1⟩
theorem zop(i:Nat)(hN:N[i]?=some x)(h:scope.names.lookup x=some .free)(hd:okN x=true):JE (X.blk scope cl N Cc s3 H3 fp ao) cA aq aj F EX (.Name x pos) (.v i):=
 ⟨X6 i hN (.inr (Mw h)) (uZ hd).1 (uZ hd).2.1⟩
theorem aO{i j p}:JE X cA aq aj F EX (.Constant (.int i) j p) (.c (.int i)):=⟨zky⟩
theorem rm{i j p}:JE X cA aq aj F EX (.Constant (.bool i) j p) (.c (.bl i)):=⟨zm5⟩
theorem vd{j p}:JE X cA aq aj F EX (.Constant .none j p) (.c .non):=⟨zkY⟩
theorem Ni(h:∃t,X.mg x=some (.int i t))(hg:JK X x .globalImplicit)(hd:okN x=true):JE X cA aq aj F EX (.Name x pos) (.c (.int i)):=by
 obtain⟨t,h⟩:=h;exact⟨zka hg.o h (uZ hd).1⟩
theorem nQ:JQ X cA .Add .add:=⟨_,zfF,zlz⟩
theorem zP:JQ X cA .Sub .aq:=⟨_,zl4,zlT⟩
theorem xX:JQ X cA .Mult .mul:=⟨_,zkT,zmk⟩
theorem Fp:JQ X cA .FloorDiv .fdiv:=⟨_,zkg,zi3⟩
theorem zQ:JQ X cA .Mod .mod:=⟨_,zlv,zks⟩
theorem zmZ:JQ X cA .Pow .pow:=⟨_,zkH,zlK⟩
theorem dj(h:JQ X cA op q)(ha:JE X cA aq aj F EX a A)(hb:JE X cA aq aj F EX b B):JE X cA aq aj F EX (.BinOp a op b pos) (.pr fz q (.cons A (.cons B .nil))):=by
 obtain⟨r,h1,h2⟩:=h.o;exact⟨zlE h1 h2 ha.o hb.o⟩
theorem zR(ha:JE X cA aq aj F EX a A):JE X cA aq aj F EX (.UnaryOp .USub a pos) (.pr true .neg (.cons A .nil)):=⟨zna zkm zkV ha.o⟩
theorem YZ(ha:JE X cA aq aj F EX a A):JE X cA aq aj F EX (.UnaryOp .Not a pos) (.not A):=⟨zma ha.o⟩
theorem vY{op}(ha:JE X cA aq aj F EX a A):JE X cA aq aj F EX (.BoolOp op [a] pos) A:=⟨zlx ha.o⟩
theorem xY{rest:List Expr}(ha:JE X cA aq aj F EX a A)(hb:JE X cA aq aj F EX (.BoolOp .And (b::rest) pos) B):JE X cA aq aj F EX (.BoolOp .And (a::b::rest) pos) (.and A B):=⟨zle ha.o hb.o⟩
theorem Y0{rest:List Expr}(ha:JE X cA aq aj F EX a A)(hb:JE X cA aq aj F EX (.BoolOp .Or (b::rest) pos) B):JE X cA aq aj F EX (.BoolOp .Or (a::b::rest) pos) (.or A B):=⟨znN ha.o hb.o⟩
theorem oW{k:Nat}(hr:bx k X.A):JP X cA .Eq .eq:=⟨_,zlV (xW hr),znc⟩
theorem Nj{k:Nat}(hr:bx k X.A):JP X cA .NotEq .ne:=⟨_,zlJ (xW hr),zmK⟩
theorem Fq{k:Nat}(hr:bx k X.A):JP X cA .Lt .lt:=⟨_,Hv.or (zmr (by have:=xW hr;lia)),zmP⟩
theorem Y4:JP X cA .LtE .le:=⟨_,zmU,znM⟩
theorem Sy:JP X cA .Gt .gt:=⟨_,zm8,znt⟩
theorem SJ:JP X cA .GtE .ge:=⟨_,znn,zmG⟩
theorem CJ{k:Nat}(hr:bx k X.A):JP X cA .In .inn:=⟨_,zlB (xW hr),zm0⟩
noncomputable def mz:Expr->Bool
 |.Set _ _ _=>false
 |_=>true
theorem vf(h:mz b=true):behindInMarks op b=false:=by cases b<;>first|rfl|cases h
theorem xZ(ho:JP X cA op q)(ha:JE X cA aq aj F EX a A)(hb:JE X cA aq aj F EX b B)(h1:mz b=true:=by rfl):JE X cA aq aj F EX (.Compare a [op] [b] pos) (.pr true q (.cons A (.cons B .nil))):=by
 obtain⟨r,h2,h3⟩:=ho.o;exact⟨zkq h2 h3 ha.o hb.o (vf h1)⟩
theorem g_(ho:JP X cA op q)(ha:JE X cA aq aj F EX a A)(hb:JE X cA aq aj F EX b B)(h1:mz b=true:=by rfl):JT X cA aq aj F EX (.Compare a [op] [b] pos) (.pr true q (.cons A (.cons B .nil))):=by
 obtain⟨r,h2,h3⟩:=ho.o;exact⟨zl1 h2 h3 ha.o hb.o (vf h1)⟩
theorem zmF(h1:JP X cA op q1)(h2:JP X cA op' q2)(ha:JE X cA aq aj F EX a A)(hb:JE X cA aq aj F EX b B)(hc:JE X cA aq aj F EX c C)(hm:mz c=true:=by rfl):JE X cA aq aj F EX (.Compare a [op,op'] [b,c] pos) (.xK q1 q2 A B C):=by
 obtain⟨r,h3,h4⟩:=h1.o;obtain⟨r',h5,h6⟩:=h2.o;exact⟨zlw h3 h4 h5 h6 ha.o hb.o hc.o (vf hm)⟩
theorem znC{j p}(ha:JE X cA aq aj F EX a A):JE X cA aq aj F EX (.Compare a [.Is] [.Constant .none j p] pos) (.pr true .xH (.cons A .nil)):=⟨zmi ha.o⟩
theorem Y5{j p}(ha:JE X cA aq aj F EX a A):JE X cA aq aj F EX (.Compare a [.IsNot] [.Constant .none j p] pos) (.pr true .rZ (.cons A .nil)):=⟨ziL ha.o⟩
theorem znI{j p}(ha:JE X cA aq aj F EX a A):JT X cA aq aj F EX (.Compare a [.Is] [.Constant .none j p] pos) (.pr true .xH (.cons A .nil)):=⟨zlf ha.o⟩
theorem Nk{j p}(ha:JE X cA aq aj F EX a A):JT X cA aq aj F EX (.Compare a [.IsNot] [.Constant .none j p] pos) (.pr true .rZ (.cons A .nil)):=⟨zjl ha.o⟩
noncomputable def zT:Expr->Bool
 |.Call _ _ _ _=>true
 |.Name _ _=>true
 |.Subscript _ _ _=>true
 |.Attribute _ _ _=>true
 |_=>false
theorem lA(ha:JE X cA aq aj F EX a A)(he:zT a=true:=by rfl):JT X cA aq aj F EX a A:=⟨zms ha.o (by cases a<;>first|(intro _;rfl)|cases he)⟩
theorem pD(ha:JT X cA aq aj F EX a A):JT X cA aq aj F EX (.UnaryOp .Not a pos) (.not A):=⟨zmp ha.o⟩
theorem CK(ha:JT X cA aq aj F EX a A):JW X cA aq aj F EX (.BoolOp .And [a] pos) A:=⟨zjv ha.o⟩
theorem JD(ha:JT X cA aq aj F EX a A):JW X cA aq aj F EX (.BoolOp .Or [a] pos) A:=⟨zmj ha.o⟩
theorem CP{rest:List Expr}(ha:JT X cA aq aj F EX a A)(hb:JW X cA aq aj F EX (.BoolOp .And (b::rest) pos) B):JW X cA aq aj F EX (.BoolOp .And (a::b::rest) pos) (.and A B):=⟨zlU ha.o hb.o⟩
theorem JF{rest:List Expr}(ha:JT X cA aq aj F EX a A)(hb:JW X cA aq aj F EX (.BoolOp .Or (b::rest) pos) B):JW X cA aq aj F EX (.BoolOp .Or (a::b::rest) pos) (.or A B):=⟨zmL ha.o hb.o⟩
theorem tU(h:JW X cA aq aj F EX a A):JT X cA aq aj F EX a A:=⟨zoh h.o⟩
theorem Nm(hc:JT X cA aq aj F EX c C)(ha:JE X cA aq aj F EX a A)(hb:JE X cA aq aj F EX b B):JE X cA aq aj F EX (.IfExp c a b pos) (.ite C A B):=⟨zlt hc.o ha.o hb.o⟩
theorem aK:JA X cA aq aj F EX [] .nil:=⟨zlr⟩
theorem aF(ha:JE X cA aq aj F EX a A)(hr:JA X cA aq aj F EX es Xs)(hs:aC a=true:=by rfl):JA X cA aq aj F EX (a::es) (.cons A Xs):=⟨zjI ha.o hr.o (bf hs)⟩
theorem jt{k}(ha:JA X cA aq aj F EX es Xs)(hz:decide (Es.len Xs<=sizeLine)=true:=by rfl):JE X cA aq aj F EX (.Tuple es k pos) (.tup Xs):=⟨zl7 ha.o (lC hz)⟩
theorem qx(ha:JA X cA aq aj F EX es Xs)(hz:decide (Es.len Xs<=sizeLine)=true:=by rfl):JE X cA aq aj F EX (.List es pos) (.lst fz Xs):=⟨zlp ha.o (lC hz)⟩
noncomputable def vg:Expr->Bool
 |.Constant _ _ _=>true
 |.Name _ _=>true
 |.Call _ _ _ _=>true
 |.BinOp _ _ _ _=>true
 |.UnaryOp _ _ _=>true
 |.Subscript _ _ _=>true
 |.IfExp _ _ _ _=>true
 |.Attribute _ _ _=>true
 |.Compare _ _ _ _=>true
 |.BoolOp _ _ _=>true
 |_=>false
theorem cW(ha:JE X cA aq aj F EX a A)(hb:JE X cA aq aj F EX b B)(hs:vg b=true:=by rfl):JE X cA aq aj F EX (.Subscript a b pos) (.pr true .ix (.cons A (.cons B .nil))):=⟨zmJ zmV ha.o hb.o (by cases b<;>first|(intro _ _;rfl)|cases hs)⟩
theorem Y6:JO X cA aq aj F EX none .no:=⟨zmO⟩
theorem Np(ha:JE X cA aq aj F EX a A):JO X cA aq aj F EX (some a) (.yes A):=⟨zlW ha.o⟩
theorem SM{lo hi:Option Expr}{Lo Hi:Eo}(ha:JE X cA aq aj F EX a A)(hl:JO X cA aq aj F EX lo Lo)(hh:JO X cA aq aj F EX hi Hi):JE X cA aq aj F EX (.Subscript a (.Slice lo hi none p2) pos) (.sl fz A Lo Hi):=⟨zmS ha.o hl.o hh.o⟩
theorem zkP(f:Nat){cm:Bool}{k:Nat}{fa:Addr}{fd:FuncData}{ps:List Str}(Fo:cF X.prog X.w X.K X.mg X.base (fu X.prog X.w) cm k fa fd ps (lG X.K cA (F f)))(i_:cm=true->X.aj=true)(hr:bx k X.A)(hm:X.mg x=some (.ref fa))(hk:PySem.W.keepIn X.K (.ref fa)=true)(hb:Binds X.K fd ps [])(R:JR X EX)(hg:JK X x .globalImplicit)
  (ha:JA X cA aq aj F EX (e::es) Xs) (hd:okN x=true) (he:aC e=true:=by rfl) (cT:es.all aC=true:=by rfl) :
  JE X cA aq aj F EX (.Call (.Name x p) (e::es) [] pos) (.call f Xs):=⟨ziR Fo i_ hr hg.o hm hk hb R.o ha.o (uZ hd).1 (bf he) (bD cT)⟩
theorem zU(hv:Fd cA kd=.ty T)(hm:X.mg x=none)(hb:bootBuiltins x=some (.type T))(hg:JK X x .globalImplicit)(hd:okN x=true):JN X cA (.Name x pos) kd:=⟨λao s Z H Q I h=>by
 rw[hv] at h;exact vP I hg.o hm hb ⟨.ty T,H,I,rfl,h⟩ (uZ hd).2.2 (uZ hd).1⟩
theorem zV(h0:(uV kd).isSome=true)(hm:X.mg "isinstance"=none)(hg:JK X "isinstance" .globalImplicit)(ha:JE X cA aq aj F EX a A)(hk:JN X cA kx kd)(h1:aC a=true:=by rfl)(h2:aC kx=true:=by rfl):JE X cA aq aj F EX (.Call (.Name "isinstance" p) [a,kx] [] pos) (.mX A kd):=
 ⟨zmw (λz=>by rw[z] at h0;cases h0) hg.o hm ha.o hk.o (bf h1) (bf h2) (bD (by rw[yR,h2];rfl))⟩
theorem yc(hm:X.mg "len"=none)(hg:JK X "len" .globalImplicit)(ha:JA X cA aq aj F EX (e::es) Xs)(he:aC e=true:=by rfl)(cT:es.all aC=true:=by rfl):JE X cA aq aj F EX (.Call (.Name "len" p) (e::es) [] pos) (.pr fz .len Xs):=⟨zL zdm zkr hg.o hm PySem.boot_len ha.o Ro Ro (bf he) (bD cT)⟩
theorem zm3(hm:X.mg "abs"=none)(hg:JK X "abs" .globalImplicit)(ha:JA X cA aq aj F EX (e::es) Xs)(he:aC e=true:=by rfl)(cT:es.all aC=true:=by rfl):JE X cA aq aj F EX (.Call (.Name "abs" p) (e::es) [] pos) (.pr fz .abs Xs):=⟨zL zgV zkG hg.o hm PyProof.Rows.boot_abs ha.o Ro Ro (bf he) (bD cT)⟩
theorem zkO(hc:X.aj=true)(hm:X.mg "max"=none)(hg:JK X "max" .globalImplicit)(ha:JA X cA aq aj F EX (e::es) Xs)(he:aC e=true:=by rfl)(cT:es.all aC=true:=by rfl):JE X cA aq aj F EX (.Call (.Name "max" p) (e::es) [] pos) (.pr fz .max2 Xs):=⟨zL (zfO hc) zjD hg.o hm PyProof.Rows.boot_max ha.o Ro Ro (bf he) (bD cT)⟩
theorem SN(hc:X.aj=true)(hm:X.mg "min"=none)(hg:JK X "min" .globalImplicit)(ha:JA X cA aq aj F EX (e::es) Xs)(he:aC e=true:=by rfl)(cT:es.all aC=true:=by rfl):JE X cA aq aj F EX (.Call (.Name "min" p) (e::es) [] pos) (.pr fz .min2 Xs):=⟨zL (zgr hc) zjh hg.o hm PyProof.Rows.boot_min ha.o Ro Ro (bf he) (bD cT)⟩
theorem zld(hm:X.mg "int"=none)(hg:JK X "int" .globalImplicit)(ha:JA X cA aq aj F EX (e::es) Xs)(he:aC e=true:=by rfl)(cT:es.all aC=true:=by rfl):JE X cA aq aj F EX (.Call (.Name "int" p) (e::es) [] pos) (.pr fz .xJ Xs):=⟨RV zgt ziP hg.o hm PyProof.Rows.boot_int ha.o Ro Ro (bf he) (bD cT)⟩
theorem zhC(hm:X.mg "divmod"=none)(hg:JK X "divmod" .globalImplicit)(ha:JA X cA aq aj F EX (e::es) Xs)(he:aC e=true:=by rfl)(cT:es.all aC=true:=by rfl):JE X cA aq aj F EX (.Call (.Name "divmod" p) (e::es) [] pos) (.pr fz .divmod Xs):=⟨zL zd0 zgg hg.o hm PyProof.Rows.boot_divmod ha.o Ro Ro (bf he) (bD cT)⟩
theorem Nq(hc:X.aj=true)(hm:X.mg "all"=none)(hg:JK X "all" .globalImplicit)(ha:JA X cA aq aj F EX (e::es) Xs)(he:aC e=true:=by rfl)(cT:es.all aC=true:=by rfl):JE X cA aq aj F EX (.Call (.Name "all" p) (e::es) [] pos) (.pr fz .all Xs):=⟨zL (zgx hc) zl2 hg.o hm PyProof.Rows.boot_all ha.o Ro Ro (bf he) (bD cT)⟩
theorem zlY(hm:X.mg "list"=none)(hg:JK X "list" .globalImplicit)(ha:JA X cA aq aj F EX (e::es) Xs)(he:aC e=true:=by rfl)(cT:es.all aC=true:=by rfl):JE X cA aq aj F EX (.Call (.Name "list" p) (e::es) [] pos) (.pr fz .list Xs):=⟨RV zdC zi2 hg.o hm YT ha.o Ro Ro (bf he) (bD cT)⟩
theorem CQ(hm:X.mg "tuple"=none)(hg:JK X "tuple" .globalImplicit)(ha:JA X cA aq aj F EX (e::es) Xs)(he:aC e=true:=by rfl)(cT:es.all aC=true:=by rfl):JE X cA aq aj F EX (.Call (.Name "tuple" p) (e::es) [] pos) (.pr fz .tuple Xs):=⟨RV zcF zhd hg.o hm Jz ha.o Ro Ro (bf he) (bD cT)⟩
theorem zjX{k:Nat}(hr:bx k X.A)(ho:JE X cA aq aj F EX a A)(ha:JA X cA aq aj F EX (e::es) Xs)(cP:attributeBase a "count" X.env (eval a X.env)=eval a X.env:=by rfl)(pX:decide (es.length<28)=true:=by rfl)(cQ:(apos.endLine==pos.line)=true:=by rfl)(hs:aC e=true:=by rfl)(gj:es.all aC=true:=by rfl) :
  JE X cA aq aj F EX (.Call (.Attribute a "count" apos) (e::es) [] pos) (.meth true .count .list A Xs):=⟨zjm (k:=.list) O2 PySem.F.slot_list_count PySem.F.type_list_count (zgk (by have:=hr.un;lia)) zhp ho.o ha.o cP (nj hs gj pX) cQ (bf hs) (bD gj)⟩
theorem JM(ho:JE X cA aq aj F EX a A)(hb:JE X cA aq aj F EX b B)(cP:attributeBase a "append" X.env (eval a X.env)=eval a X.env:=by rfl)(cQ:(apos.endLine==pos.line)=true:=by rfl)(hs:aC b=true:=by rfl) :
  JE X cA aq aj F EX (.Call (.Attribute a "append" apos) [b] [] pos) (.push A B):=⟨zjQ ho.o hb.o cP (nj hs rfl rfl) cQ (bf hs) rfl⟩
theorem znu(ho:JE X cA aq aj F EX a A)(cP:attributeBase a "pop" X.env (eval a X.env)=eval a X.env:=by rfl)(cQ:(apos.endLine==pos.line)=true:=by rfl) :
  JE X cA aq aj F EX (.Call (.Attribute a "pop" apos) [] [] pos) (.pop A):=⟨zkw ho.o cP cQ⟩
theorem oX:JC X cA aq aj F EX [] .no:=⟨zlM⟩
theorem tV(h:JT X cA aq aj F EX c C):JC X cA aq aj F EX [c] (.yes C):=⟨zjw h.o⟩
theorem jJ(ha:JE X cA aq aj F EX a A):JI X cA aq aj F EX tg a (.seq A):=⟨zl5 ha.o⟩
theorem Ft(hmg:X.mg "range"=none)(qu:JK X "range" .globalImplicit)(ha:JE X cA aq aj F EX a A)(hb:JE X cA aq aj F EX b B)(h1:aC a=true:=by rfl)(h2:aC b=true:=by rfl):JI X cA aq aj F EX tg (.Call (.Name "range" p) [a,b] [] pos) (.rg A B):=⟨zmN qu.o hmg ha.o hb.o (bf h1) (bf h2)⟩
theorem vh(hmg:X.mg "range"=none)(qu:JK X "range" .globalImplicit)(hb:JE X cA aq aj F EX b B)(h2:aC b=true:=by rfl):JI X cA aq aj F EX tg (.Call (.Name "range" p) [b] [] pos) (.rg (.c (.int 0)) B):=⟨zk8 qu.o hmg hb.o (bf h2)⟩
noncomputable def JV(scope:Scope)(x:Str):Bool:=match scope.names.lookup x with
 |some .local=>true
 |some .cell=>true
 |_=>false
theorem Fw(h:JV scope x=true):Loc (X.blk scope cl N Cc s3 H3 fp ao).env.scope x/\((X.blk scope cl N Cc s3 H3 fp ao).fn x=true\/(X.blk scope cl N Cc s3 H3 fp ao).env.scope.names.lookup x=some .local):=by
 unfold JV at h;split at h
 ·rename_i z;exact⟨.inl (lookup_relabel_local z),.inr (lookup_relabel_local z)⟩
 ·rename_i z;exact⟨.inr (Nh (by intro y;cases y) z),.inl (by show (scope.names.lookup x==some NameKind.cell)=true;rw[z];rfl)⟩
 ·cases h
theorem jf(i:Nat)(SQ:N.Nodup)(hi:N[i]?=some x)(hl:JV scope x=true):JY (X.blk scope cl N Cc s3 H3 fp ao) (.Name x tp) (dN i):=
 ⟨Ma SQ hi (Fw hl).1 (Fw hl).2⟩
theorem Nr(i j:Nat)(hc:X.aj=true)(SQ:N.Nodup)(hi:N[i]?=some x)(hj:N[j]?=some y)(hl:JV scope x=true)(vW:JV scope y=true):JY (X.blk scope cl N Cc s3 H3 fp ao) (.Tuple [.Name x px,.Name y py] kt tp) (uo X.K 2 (iD (dN i) (iD (dN j) uh))):=
 ⟨Sv (X:=X.blk scope cl N Cc s3 H3 fp ao) hc SQ hi hj (Fw hl).1 (Fw vW).1 (Fw hl).2 (Fw vW).2⟩
theorem vZ{scope:Scope}{XN:List Str}{M0 N:List Str}{fr:List Nat}(h:frB scope XN N fr=true):(M0++N).length=M0.length+fr.length/\∀(i:Nat) (y:Str) (j:Nat),(M0++N)[M0.length+i]?=some y->fr[i]?=some j->scope.names.lookup y=some .free/\XN[j]?=some y:=by
 obtain⟨l,q⟩:=YM h;refine⟨by rw[pA,l],λi y j e1 e2=>q i y j ?_ e2⟩;rw[pF gV] at e1;rw[show M0.length+i-M0.length=i by lia] at e1;exact e1
theorem nq{elt iter tg:Expr}{ifs:List Expr}{scope:Scope}{cond:Eo}{aL:List Nat}{g:TG}{w:Wk}(sc:Scope)(XN M0 N:List Str)(fr:List Nat)(hc:X.aj=true)(CT:X.env.scope=sc)(oR:X.N=XN)(hB:qw sc scope=true)(hf:frB scope XN N fr=true)(hT:dU X.K cA g aL)(cV:aL.all (λi=>decide (i<M0.length))=true)
  (hi:JI X cA aq aj F EX tg iter w) (hg:∀cl C s3 H3 fp ao,JY (X.blk scope cl (M0++N) C s3 H3 fp ao) tg g)
  (ht:∀cl C s3 H3 fp ao,JC (X.blk scope cl (M0++N) C s3 H3 fp ao) cA aq aj F (λ_ _ _ _=>False) ifs cond) (he:∀cl C s3 H3 fp ao,JE (X.blk scope cl (M0++N) C s3 H3 fp ao) cA aq aj F (λ_ _ _ _=>False) elt B)
  (hs:∀x,foldedSetIterable iter X.env x=pure x:=by intro _;rfl):JE X cA aq aj F EX (.ListComp elt [⟨tg,iter,ifs,0⟩] scope pos) (.comp fz B aL w fr M0.length cond):=
 ⟨YH hc (b_.of (CT▸hB)) hi.o (vZ (oR▸hf)).1 (vZ (oR▸hf)).2 (λa b c d e f=>(hg a b c d e f).o) hT (λi hi=>lC (gY.mp cV i hi)) (λa b c d e f=>(ht a b c d e f).o) (λa b c d e f=>(he a b c d e f).o) hs⟩
theorem Kaa{scope eY:Scope}{env:Env}(h:b_ scope eY):b_ (relabel scope env) eY:=⟨h.kind,h.Xj,λy hy z=>by
 rcases h.free y hy z with q|q
 ·exact .inl (Nh (by intro y;cases y) q)
 ·exact Mw q,h.loc⟩
theorem Y7{elt iter tg:Expr}{ifs:List Expr}{scope eY:Scope}{cond:Eo}{aL:List Nat}{g:TG}{w:Wk}{cl:List (Str×Addr)}{zW:List Str}{Cc:Addr}{s3:Shared}{H3:Hp}{fp:List Addr}{ao:List (Addr×Obj)}(XN M0 N:List Str)(fr:List Nat)(hc:X.aj=true)(oR:zW=XN)(hB:qw scope eY=true)(hf:frB eY XN N fr=true)(hT:dU X.K cA g aL)(cV:aL.all (λi=>decide (i<M0.length))=true)
  (hi:JI (X.blk scope cl zW Cc s3 H3 fp ao) cA aq aj F EX tg iter w) (hg:∀cl2 C s3' JZ fp' jm,JY ((X.blk scope cl zW Cc s3 H3 fp ao).blk eY cl2 (M0++N) C s3' JZ fp' jm) tg g)
  (ht:∀cl2 C s3' JZ fp' jm,JC ((X.blk scope cl zW Cc s3 H3 fp ao).blk eY cl2 (M0++N) C s3' JZ fp' jm) cA aq aj F (λ_ _ _ _=>False) ifs cond) (he:∀cl2 C s3' JZ fp' jm,JE ((X.blk scope cl zW Cc s3 H3 fp ao).blk eY cl2 (M0++N) C s3' JZ fp' jm) cA aq aj F (λ_ _ _ _=>False) elt B)
  (hs:∀x,foldedSetIterable iter (X.blk scope cl zW Cc s3 H3 fp ao).env x=pure x:=by intro _;rfl):JE (X.blk scope cl zW Cc s3 H3 fp ao) cA aq aj F EX (.ListComp elt [⟨tg,iter,ifs,0⟩] eY pos) (.comp fz B aL w fr M0.length cond):=by
 subst oR;exact⟨YH (X:=X.blk scope cl zW Cc s3 H3 fp ao) hc (Kaa (b_.of hB)) hi.o (vZ hf).1 (vZ hf).2 (λa b c d e f=>(hg a b c d e f).o) hT (λi hi=>lC (gY.mp cV i hi)) (λa b c d e f=>(ht a b c d e f).o) (λa b c d e f=>(he a b c d e f).o) hs⟩
theorem Fx:JR X (λ_ _ _ _=>False):=⟨zgj⟩
theorem dG{P:Program}{w:World}{K:W.Frag}{mg:Str->Option Value}{base:Heap}{N:List Str}{qual:Str}{scope:Scope}{f:Addr}{cd:Value}{A:Around}{outer:List Env}{s:Shared}{H:Hp}{E:XK}{cm:Bool} :
  JR (dH (fu P w) P w K mg base N qual scope f cd A outer s H E cm) (λ_ C dx H'=>E C dx H'):=⟨zfp⟩
theorem oY{CX:rR}{P:Program}{w:World}{K:W.Frag}{mg:Str->Option Value}{base:Heap}{N:List Str}{qual:Str}{scope:Scope}{f:Addr}{cd:Value}{A:Around}{outer:List Env}{s:Shared}{H:Hp}{E:XK}{cm:Bool} :
  JH (dH CX P w K mg base N qual scope f cd A outer s H E cm):=⟨PassesOwn.leaving⟩
end
section
variable {X:Cx}{cA:Cl}{aq:Nat->Nat->Bool}{aj:Bool}{F:Bool->Fn}{EX:XS}{a b c d e:Expr}{A B C:E}{pos p p2:Pos}{st:Stmt}{sts body orelse:List Stmt}{m:St}{ms mb me mh:cB}{es:List Expr}{Xs:Es}{x y n:Str}{k k':NameKind}
theorem v7(h:JK X x k)(hv:lH k=true):Loc X.env.scope x:=by cases k<;>first|exact .inl h.o|exact .inr h.o|cases hv
theorem v8(h:JK X x k)(hv:X.fn x=true\/k=.local):X.fn x=true\/X.env.scope.names.lookup x=some .local:=by
 rcases hv with hv|hv
 ·exact .inl hv
 ·subst hv;exact .inr h.o
theorem aN:JB X cA aq aj F EX [] .nil:=⟨zj3⟩
theorem aH(h1:JS X cA aq aj F EX st m)(h2:JB X cA aq aj F EX sts ms):JB X cA aq aj F EX (st::sts) (.cons m ms):=⟨zht h1.o h2.o⟩
theorem Y8:JS X cA aq aj F EX st .no:=⟨zmH⟩
theorem yd(ha:JE X cA aq aj (F aj) EX a A)(hs:swapsWith a none pos.line X.env=pure false:=by rfl):JS X cA aq aj F EX (.Expr a pos) (.ex A):=⟨znl ha.o hs⟩
theorem cg(ha:JE X cA aq aj (F aj) EX a A):JS X cA aq aj F EX (.Return (some a) pos) (.ret A):=⟨zkU ha.o⟩
theorem h_(i:Nat)(hN:X.N.Nodup)(hi:X.N[i]?=some x)(hx:JK X x k)(hl:lH k=true)(ha:JE X cA aq aj (F aj) EX a A)(hs:swapsWith a (some (.Name x p)) pos.line X.env=pure false:=by rfl)(hf:X.fn x=true\/k=.local:=by first|exact .inl rfl|exact .inr rfl):JS X cA aq aj F EX (.Assign [.Name x p] a pos) (.asg (.nm i) A):=
 ⟨zkx hN hi (v7 hx hl) ha.o hs (v8 hx hf)⟩
theorem Fy{elt iter tg:Expr}{ifs:List Expr}{scope:Scope}{cond:Eo}{aL:List Nat}{g:TG}{w:Wk}{fz:Bool}{py spos:Pos}(i:Nat)(sc:Scope)(XN M0 N:List Str)(fr:List Nat)(hN:X.N.Nodup)(rY:X.N[i]?=some y)(hx:JK X y k)(hl:lH k=true)(hc:X.aj=true)(CT:X.env.scope=sc)(oR:X.N=XN)(hB:qw sc scope=true)(hf:frB scope XN N fr=true)(hT:dU X.K cA g aL)(cV:aL.all (λi=>decide (i<M0.length))=true)
  (hi:JI X cA aq aj (F aj) EX tg iter w) (hg:∀cl C s3 H3 fp ao,JY (X.blk scope cl (M0++N) C s3 H3 fp ao) tg g)
  (ht:∀cl C s3 H3 fp ao,JC (X.blk scope cl (M0++N) C s3 H3 fp ao) cA aq aj (F aj) (λ_ _ _ _=>False) ifs cond) (he:∀cl C s3 H3 fp ao,JE (X.blk scope cl (M0++N) C s3 H3 fp ao) cA aq aj (F aj) (λ_ _ _ _=>False) elt B)
  (uK:swapsWith (.ListComp elt [⟨tg,iter,ifs,0⟩] scope pos) (some (.Name y py)) spos.line X.env=pure true:=by rfl) (SX:X.fn y=true\/k=.local:=by first|exact .inl rfl|exact .inr rfl) (hs:∀x,foldedSetIterable iter X.env x=pure x:=by intro _;rfl) :
  JS X cA aq aj F EX (.Assign [.Name y py] (.ListComp elt [⟨tg,iter,ifs,0⟩] scope pos) spos) (.asg (.nm i) (.comp fz B aL w fr M0.length cond)):=
 ⟨zjA hc hN rY (v7 hx hl) (v8 hx SX) (b_.of (CT▸hB)) hi.o (vZ (oR▸hf)).1 (vZ (oR▸hf)).2 (λa b c d e f=>(hg a b c d e f).o) hT (λi hi=>lC (gY.mp cV i hi)) (λa b c d e f=>(ht a b c d e f).o) (λa b c d e f=>(he a b c d e f).o) uK hs⟩
theorem J0(i j:Nat){k0}(hc:X.aj=true)(dD:aj=true)(hN:X.N.Nodup)(hi:X.N[i]?=some x)(hj:X.N[j]?=some y)(hx:JK X x k)(hy:JK X y k')(S5:lH k=true)(S6:lH k'=true)(ha:JE X cA aq aj (F aj) EX a A)
  (xU:X.fn x=true\/k=.local:=by first|exact .inl rfl|exact .inr rfl) (xV:X.fn y=true\/k'=.local:=by first|exact .inl rfl|exact .inr rfl)
  (hs:swapsWithSole [.Tuple [.Name x px,.Name y py] k0 pt] a pos.line X.env=pure false:=by rfl) (hw:swappedStores [.Tuple [.Name x px,.Name y py] k0 pt] a X.env=pure none:=by rfl) (h1:(assignEach [.Tuple [.Name x px,.Name y py] k0 pt] X.env).map (·.2)=[assign (.Tuple [.Name x px,.Name y py] k0 pt) X.env]:=by rfl) :
  JS X cA aq aj F EX (.Assign [.Tuple [.Name x px,.Name y py] k0 pt] a pos) (.asg (.tp [i,j]) A):=⟨zj2 hc dD hN hi hj (v7 hx S5) (v7 hy S6) (v8 hx xU) (v8 hy xV) ha.o hs hw h1⟩
theorem Fz(hO:JE X cA aq aj (F aj) EX oo O)(hI:JE X cA aq aj (F aj) EX ii I')(ha:JE X cA aq aj (F aj) EX a A)
  (Sw:∀v,assign (.Subscript oo ii p) X.env v=(do
   let obj <-holding [v] (eval oo X.env)
   let at_ <-holding [v,obj] (eval ii X.env)
   standAt p
   holding [v,obj,at_] (setItem obj at_ v)
   release [v,obj,at_] []):=by intro _;rfl) (hs:swapsWithSole [.Subscript oo ii p] a pos.line X.env=pure false:=by rfl) (hw:swappedStores [.Subscript oo ii p] a X.env=pure none:=by rfl)
  (h1:(assignEach [.Subscript oo ii p] X.env).map (·.2)=[assign (.Subscript oo ii p) X.env]:=by rfl):JS X cA aq aj F EX (.Assign [.Subscript oo ii p] a pos) (.asg (.aq O I') A):=⟨zkC hO.o hI.o ha.o Sw hs hw h1⟩
theorem Y9(i j:Nat){kt k2 uq}(hc:X.aj=true)(dD:aj=true)(hN:X.N.Nodup)(hi:X.N[i]?=some x)(hj:X.N[j]?=some y)(wO:i≠j)(hx:JK X x .local)(hy:JK X y .local)
  (ha:JE X cA aq aj (F aj) EX a A) (hb:JE X cA aq aj (F aj) EX b B) (hw:swappedStores [.Tuple [.Name x px,.Name y py] kt pt] (.Tuple [a,b] k2 uq) X.env=pure (some [x,y])) (h1:aC a=true:=by rfl) (h2:aC b=true:=by rfl)
  (hs:swapsWithSole [.Tuple [.Name x px,.Name y py] kt pt] (.Tuple [a,b] k2 uq) pos.line X.env=pure false:=by rfl):JS X cA aq aj F EX (.Assign [.Tuple [.Name x px,.Name y py] kt pt] (.Tuple [a,b] k2 uq) pos) (.par i j A B):=
 ⟨zl9 hc dD hN hi hj wO hx.o hy.o ha.o hb.o (bf h1) (bf h2) hw hs⟩
theorem zmW(i:Nat)(hN:X.N.Nodup)(hi:X.N[i]?=some x)(hx:JK X x k)(hl:lH k=true)(ha:JE X cA aq aj (F aj) EX a A)(hf:X.fn x=true\/k=.local:=by first|exact .inl rfl|exact .inr rfl)(hd:okN x=true:=by decide +kernel):JS X cA aq aj F EX (.AugAssign (.Name x p) .Add a pos) (.aug i A):=
 ⟨zkK (pos':=pos) hN hi (v7 hx hl) ha.o (v8 hx hf) (zls hN hi (v7 hx hl) ha.o zlN (v8 hx hf))⟩
theorem iz(hc:JT X cA aq aj (F aj) EX c C)(ht:JB X cA aq aj F EX body mb)(he:JB X cA aq aj F EX orelse me):JS X cA aq aj F EX (.If c body orelse pos) (.iff C mb me):=⟨znd hc.o ht.o he.o⟩
theorem S7(hp:JH X)(hc:JT X cA aq aj (F aj) EX c C)(hb:JB X cA aq aj F EX body mb):JS X cA aq aj F EX (.While c body [] pos) (.wh C mb):=⟨zhx hp.o hc.o hb.o⟩
theorem tW(i:Nat)(hN:X.N.Nodup)(hi:X.N[i]?=some x)(hx:JK X x k)(hl:lH k=true)(hf:X.fn x=true\/k=.local:=by first|exact .inl rfl|exact .inr rfl):JG X cA aq aj F EX (.Name x pos) (.nm i):=⟨zjq hN hi (v7 hx hl) (v8 hx hf)⟩
theorem Y_(i j:Nat){k0}(hc:X.aj=true)(dD:aj=true)(hN:X.N.Nodup)(hi:X.N[i]?=some x)(hj:X.N[j]?=some y)(hx:JK X x k)(hy:JK X y k')(S5:lH k=true)(S6:lH k'=true)(xU:X.fn x=true\/k=.local:=by first|exact .inl rfl|exact .inr rfl)(xV:X.fn y=true\/k'=.local:=by first|exact .inl rfl|exact .inr rfl) :
  JG X cA aq aj F EX (.Tuple [.Name x px,.Name y py] k0 pos) (.tp [i,j]):=⟨zkc hc dD hN hi hj (v7 hx S5) (v7 hy S6) (v8 hx xU) (v8 hy xV)⟩
theorem rA(hp:JH X)(hc:X.aj=true)(dD:aj=true)(ha:JI X cA aq aj (F aj) EX tg a w)(hg:JG X cA aq aj F EX tg t)(hb:JB X cA aq aj F EX body mb)(hs:∀x,foldedSetIterable a X.env x=pure x:=by intro _;rfl):JS X cA aq aj F EX (.For tg a body [] pos) (.fr t w mb):=
 ⟨zlm hp.o hc dD ha.o hg.o hb.o hs⟩
end
theorem Za{P:Program}{w:World}{K:W.Frag}{mg:Str->Option Value}{base:Heap}{cA:Cl}{aq:Nat->Nat->Bool}{T:Nat->Option Df}{x qual:Str}{st:Stmt}{f:Addr}{fd:FuncData}{N ps:List Str}{k n:Nat}{cm:Bool}{df:Df}(F:oV K x qual st f fd)(S:bW N ps (au st))(hT:T n=some df)(hp:df.eU=ps.length)(hm:df.many=N.length)
  (hb:∀(cdv:Value) (A:Around) (outer:List Env) (s:Shared) (H:Hp) (E:XK),bx k (A.deeper (envOfC qual (au st) s.heap.objs.size f cdv))->
   JB (dH (fu P w) P w K mg base N qual (au st) f cdv A outer s H E cm) cA aq cm (λc=>call aq T k c) (λ_ C dx H'=>E C dx H') (aJ st) df.body) :
  cF P w K mg base (fu P w) cm (k+1) f fd ps (lG K cA (call aq T (k+1) cm n)):=zlu F S hT hp hm λcdv A outer s H E hr=>(hb cdv A outer s H E hr).o
section
variable {K:W.Frag}{cA:Cl}{U:Ph}{H:Hp}{kvs:iQ}{xs:m7}{k:List Kx}
theorem iR.len(r:iR K cA U H kvs xs):kvs.length=xs.length:=by
 induction r with
 |nil=>rfl
 |cons _ _ _ _ ih=>rw[gW,gW,ih]
theorem zjW{j:List Kx}{a:Addr}{u:Value}{r:m7}:atKey ((j,a,u)::r) k=if j=k then some (a,u) else atKey r k:=by
 unfold atKey;rw[List.find?_cons];by_cases e:j=k
 ·simp[e]
 ·simp[e]
theorem iR.at(r:iR K cA U H kvs xs):(bL k kvs=none/\atKey xs k=none)\/∃d p v,bL k kvs=some d/\atKey xs k=some p/\RelV v p.2/\Rep K cA U H d v:=by
 induction r with
 |nil=>exact .inl ⟨rfl,rfl⟩
 |@cons j d ka u v r xs hk hu hv q ih=>
  rw[zjW];unfold bL;by_cases e:j=k
  ·rw[if_pos e,if_pos e];exact .inr ⟨d,(ka,u),v,rfl,rfl,hu,hv⟩
  ·rw[if_neg e,if_neg e];exact ih
theorem iR.isSome(r:iR K cA U H kvs xs):(atKey xs k).isSome=(bL k kvs).isSome:=by
 rcases r.at (k:=k) with ⟨a,b⟩|⟨d,p,v,a,b,_⟩<;>rw[a,b]<;>rfl
theorem iR.app{kvs':iQ}{xs':m7}(r:iR K cA U H kvs xs)(r':iR K cA U H kvs' xs'):iR K cA U H (kvs++kvs') (xs++xs'):=by
 induction r with
 |nil=>exact r'
 |cons a b c _ ih=>exact .cons a b c ih
theorem iR.put{ka:Addr}{u:Value}{v:V}{d:D}(r:iR K cA U H kvs xs)(hk:Rep K cA U H (iJ k) (.ref ka))(hu:RelV v u)(hv:Rep K cA U H d v):iR K cA U H (jF k d kvs) (storedH xs k ka u):=by
 unfold jF storedH;rw[r.isSome];by_cases e:(bL k kvs).isSome=true
 ·rw[if_pos e,if_pos e];clear e
  induction r with
  |nil=>exact .nil
  |@cons j d' Zb u' v' r xs Cu hu' Qq q ih=>
   rw[jk,jk];show iR K cA U H ((if j=k then (j,d) else (j,d'))::_) ((if j=k then (j,Zb,u) else (j,Zb,u'))::_);by_cases e:j=k
   ·rw[if_pos e,if_pos e];exact .cons Cu hu hv ih
   ·rw[if_neg e,if_neg e];exact .cons Cu hu' Qq ih
 ·rw[if_neg e,if_neg e];exact r.app (.cons hk hu hv .nil)
end
section
variable {X:Cx}{cA:Cl}{ao:List (Addr×Obj)}{Z:L2.St}{H:Hp}{s:Shared}{U:Ph}{a:Addr}{kvs:iQ}{xs:m7}{k:List Kx}{y v:V}{u:Value}{A:Around}{E:Value->Shared->Prop}
theorem FJ(I:Inv X ao Z H s)(e:H a=some (sS a xs))(r:iR X.K cA U H kvs xs):(a==sysModules)=false/\xs.length<=sizeLine/\s.heap.DictOfH (gG X.prog X.w) a xs:=by
 have z:=(I.hok a _ e).1;obtain⟨h1,h2,o,es,ep,h3,h4,h5,h6,h7⟩:=z;refine⟨h1,h2,o,es,ep,h3,h4,h5,h6,?_,h7⟩;clear h2 h6 h7 e
 induction r with
 |nil=>exact λx hx=>nomatch hx
 |cons hk hu hv q ih=>exact List.forall_mem_cons.mpr ⟨qp I hk rfl,ih⟩
theorem J1{d:D}(hk:Rep X.K cA U H (iJ k) y):∃b,y=.ref b:=by cases hk;exact⟨_,rfl⟩
noncomputable def tGx(K:W.Frag)(cA:Cl)(td ty:TE):TE:=λZ H Q=>td Z H λx H1=>ty Z H1 λy H2=>∃a U kvs xs k d,x=.ref a/\H2 a=some (sS a xs)/\iR K cA U H2 kvs xs/\Rep K cA U H2 (iJ k) y/\bL k kvs=some d/\∀v,Rep K cA U H2 d v->Q v H2
noncomputable def S8(K:W.Frag)(cA:Cl)(f:Bool->Bool)(ty td:TE):TE:=λZ H Q=>ty Z H λy H1=>td Z H1 λx H2=>∃a U kvs xs k,x=.ref a/\H2 a=some (sS a xs)/\iR K cA U H2 kvs xs/\Rep K cA U H2 (iJ k) y/\Q (.bl (f (bL k kvs).isSome)) H2
noncomputable def sPx(K:W.Frag)(cA:Cl)(td ty tv:TE):TS:=λD Z H=>tv Z H λv H1=>td Z H1 λx H2=>ty Z H2 λy H3=>∃a b U kvs xs k d,x=.ref a/\H3 a=some (sS a xs)/\iR K cA U H3 kvs xs/\y=.ref b/\Rep K cA U H3 (iJ k) y/\Rep K cA U H3 d v/\kvs.length<sizeLine /\
 ∀u,RelV v u->D.nx Z (upd H3 a (sS a (storedH xs k b u)))
variable {o i value:Expr}{pos pos':Pos}{td ty tv:TE}
theorem znH(hu:X.A.units+5<cLine)(ho:PE X o td)(hi:PE X i ty)(hs:Cr i):PE X (.Subscript o i pos) (tGx X.K cA td ty):=by
 intro ao s Z H Q I h;refine zjc PySem.F.slot_dict_getitem.lookup hs (aQ (ho ao s Z H _ I h) λu s1 hx=>eE hx λx H1 I1 rx q1=>aQ (hi ao s1 Z H1 _ I1 q1) λiv s2 ⟨y,H2,I2,ry,a,U,kvs,xs,k,d,ex,ea,rr,rk,g,q2⟩=>?_);subst ex;obtain rfl:u=Value.ref a:=rx;obtain⟨b,rfl⟩:=J1 (d:=d) rk;obtain rfl:iv=Value.ref b:=ry;obtain⟨z1,z2,dd⟩:=FJ I2 ea rr;rcases rr.at (k:=k) with ⟨z,_⟩|⟨d',p,v,z,hp,rv,rd⟩
 ·rw[g] at z;cases z
 ·rw[g] at z;cases z;exact⟨dd.typeIs,wpAny_getItem_heap (knd:=gG X.prog X.w) (show X.A.units+1+4<cLine by lia) (qp I2 rk rfl) dd hp ⟨v,H2,I2.tok _,rv,q2 v rd⟩⟩
theorem znj(hu:X.A.units+5<cLine)(hi:PE X i ty)(ho:PE X o td):PC X .In i o (S8 X.K cA id ty td):=by
 intro ao s Z H Q I h;refine aQ (hi ao s Z H _ I h) λiv s1 hx=>eE hx λy H1 I1 ry q1=>aQ (ho ao s1 Z H1 _ I1 q1) λu s2 ⟨x,H2,I2,rx,a,U,kvs,xs,k,ex,ea,rr,rk,q2⟩=>?_;subst ex;obtain rfl:u=Value.ref a:=rx;obtain⟨b,rfl⟩:=J1 (d:=.non) rk;obtain rfl:iv=Value.ref b:=ry;obtain⟨z1,z2,dd⟩:=FJ I2 ea rr;exact wpAny_in_heap (knd:=gG X.prog X.w) (show X.A.units+1+4<cLine by lia) (qp I2 rk rfl) z1 dd ⟨_,H2,I2.tok _,by rw[rr.isSome];rfl,q2⟩
theorem zla(hu:X.A.units+5<cLine)(hi:PE X i ty)(ho:PE X o td):PC X .NotIn i o (S8 X.K cA not ty td):=by
 intro ao s Z H Q I h;refine aQ (hi ao s Z H _ I h) λiv s1 hx=>eE hx λy H1 I1 ry q1=>aQ (ho ao s1 Z H1 _ I1 q1) λu s2 ⟨x,H2,I2,rx,a,U,kvs,xs,k,ex,ea,rr,rk,q2⟩=>?_;subst ex;obtain rfl:u=Value.ref a:=rx;obtain⟨b,rfl⟩:=J1 (d:=.non) rk;obtain rfl:iv=Value.ref b:=ry;obtain⟨z1,z2,dd⟩:=FJ I2 ea rr;exact wpAny_notIn_heap (knd:=gG X.prog X.w) (show X.A.units+1+4<cLine by lia) (qp I2 rk rfl) z1 dd ⟨_,H2,I2.tok _,by rw[rr.isSome];rfl,q2⟩
theorem zfh{xs:m7}{b:Addr}{u:Value}:(storedH xs k b u).length<=xs.length+1:=by
 unfold storedH
 split
 ·rw[fW];lia
 ·simp
theorem zmQ(hu:X.A.units+5<cLine)(ho:PE X o td)(hi:PE X i ty)(hv:PE X value tv)(hs:swapsWith value (some (.Subscript o i pos')) pos.line X.env=pure false):PS X (.Assign [.Subscript o i pos'] value pos) (sPx X.K cA td ty tv):=by
 intro ao s Z H D I h;refine wpAny_Assign_Subscript (aQ (hv ao s Z H _ I h) λr s1 hx=>eE hx λv H1 I1 rv q1=>aQ (ho ao s1 Z H1 _ I1 q1) λu s2 hx=>eE hx λx H2 I2 rx q2=>aQ (hi ao s2 Z H2 _ I2 q2) λiv s3 ⟨y,H3,I3,ry,a,b,U,kvs,xs,k,d,ex,ea,rr,ey,rk,rd,hl,q3⟩=>?_) hs;subst ex ey;obtain rfl:u=Value.ref a:=rx;obtain rfl:iv=Value.ref b:=ry;obtain⟨z1,z2,dd⟩:=FJ I3 ea rr;have vW:xs.length+1<=sizeLine:=by rw[<-rr.len];exact hl
 refine wpAny_setItem_heap (knd:=gG X.prog X.w) (hsz:=z2) (show X.A.units+1+4<cLine by lia) (qp I3 rk rfl) dd λh' dd' hs'=>⟨Z,_,?_,q3 r rv⟩;obtain⟨q,es,ep,hq,h2,h3,h4,_,h5⟩:=dd';exact zj9 I3 (by rw[ea];exact True.intro) hs' ⟨q,hq⟩ ⟨⟨z1,jQ zfh vW,q,es,ep,hq,h2,h3,h4,h5⟩,⟨q,hq⟩,λh1 h2 ⟨a1,a2,o,es,ep,a3,a4⟩ kp=>⟨a1,a2,o,es,ep,kp o a3,a4⟩⟩
theorem znh:PE X (.Dict [] [] pos) (λ_ H Q=>∀p,H p=none->Q (.ref p) (upd H p (sS p []))):=λao s Z H Q I h=>
 wpAny_Dict_empty ⟨.ref s.heap.objs.size,_,I.laid (a:=s.heap.objs.size) (o:=sS s.heap.objs.size []) (t':=s.toks) (λ_ _ q=>cD _ q) (cj _)
  ⟨⟨Dv.mpr (Ne.symm (cY I.big)),rN _,_,#[],0,eF _ rfl,⟨rfl,rfl,rfl⟩,rfl,rfl,Ao⟩,⟨_,eF _ rfl⟩,λh1 h2 ⟨a1,a2,o,es,ep,a3,a4⟩ kp=>⟨a1,a2,o,es,ep,kp o a3,a4⟩⟩,rfl,h _ (I.hok.fresh (cj _))⟩
end
section
variable {X:Cx}{cA:Cl}{aq:Nat->Nat->Bool}{aj:Bool}{F:Fn}{EX:XS}{a b:Expr}{A B:E}{pos p:Pos}{K:W.Frag}{U:Ph}{H:Hp}{s:S}
theorem Nt{β:Type}{x:Xv}{v:V}{k:List Kx->M β}{P:β->S->Ph->Hp->Prop}{Ee:Nat->List D->S->Ph->Hp->Prop}(r:aU K cA U H x v)(h:Run K cA (M.bd (key x) k) U H s P Ee):∃kx,Rep K cA U H (iJ kx) v/\Run K cA (k kx) U H s P Ee:=by
 cases r with
 |l _=>exact h.elim
 |@d y _ r=>
  obtain⟨kx,e,h2⟩:=Run.m9 (o:=kOf y) h;rw[zlX e] at r;exact⟨kx,r,h2⟩
theorem J2{β:Type}{x:Xv}{v:V}{k:Nat×iQ->M β}{P:β->S->Ph->Hp->Prop}{Ee:Nat->List D->S->Ph->Hp->Prop}(hS:aD K cA U H s)(r:aU K cA U H x v)(h:Run K cA (M.bd (cC x) k) U H s P Ee) :
  ∃n ad kvs xs,x=.l n/\v=.ref ad/\s[n]?=some (.dct kvs)/\U.l[n]?=some ad/\H ad=some (sS ad xs)/\iR K cA U H kvs xs/\Run K cA (k (n,kvs)) U H s P Ee:=by
 cases r with
 |d _=>exact h.elim
 |@l n ad hl=>
  unfold Run M.bd cC at h;dsimp only at h;cases e:s[n]? with
  |none=>rw[e] at h;exact h.elim
  |some o=>
   rw[e] at h;cases o with
   |dct kvs=>
    obtain⟨xs,q1,q2⟩:=hS.obj n _ _ e hl;exact⟨n,ad,kvs,xs,rfl,rfl,e,hl,q1,q2,h⟩
   |_=>exact h.elim
theorem Zc{k:Nat}(hr:bx k X.A)(ha:JE X cA aq aj F EX a A)(hb:JE X cA aq aj F EX b B)(hs:Cr b:=by exact λ_ _=>rfl):JE X cA aq aj F EX (.Subscript a b pos) (.jE A B):=⟨PE.weak (znH (cA:=cA) (by have:=hr.un;lia) ha.o hb.o hs) λZ H Q hh=>un hh λU J s hL hS h=>by
 refine aX hL hS h λx H1 U1 d1 s1 x1 hL1 aG r1 h1=>aX hL1 aG h1 λy H2 U2 d2 s2 x2 hL2 aM r2 h2=>?_;obtain⟨kx,rk,h3⟩:=Nt r2 h2;obtain⟨n,ad,kvs,xs,_,rfl,e1,e2,e3,rr,h4⟩:=J2 aM (r1.mono x2 aG.lz) h3;have h4:Run X.K cA (M.opt ((bL kx kvs).map Xv.d)) U2 H2 s2 (λd _ U' H'=>∀v,aU X.K cA U' H' d v->Q v H') (eX X.K cA EX Z):=h4;cases e:bL kx kvs with
 |none=>rw[e] at h4;exact h4.elim
 |some d=>
  rw[e] at h4;exact⟨ad,U2,kvs,xs,kx,d,rfl,e3,rr,rk,e,λv rv=>h4.bC aM v (.d rv)⟩⟩
theorem Zd{b':Bool}{Z:L2.St}{Q:VK}(f:Bool->Bool)(hf:∀c,f c=(c==b'))(hh:tE X.K cA EX (ev aq aj F (.sE b' A B)) Z H Q):S8 X.K cA f (tE X.K cA EX (ev aq aj F A)) (tE X.K cA EX (ev aq aj F B)) Z H Q:=un hh λU J s hL hS h=>by
 refine aX hL hS h λx H1 U1 d1 s1 x1 hL1 aG r1 h1=>aX hL1 aG h1 λy H2 U2 d2 s2 x2 hL2 aM r2 h2=>?_;obtain⟨kx,rk,h3⟩:=Nt (r1.mono x2 aG.lz) h2;obtain⟨n,ad,kvs,xs,_,rfl,e1,e2,e3,rr,h4⟩:=J2 aM r2 h3;refine⟨ad,U2,kvs,xs,kx,rfl,e3,rr,rk,?_⟩;rw[hf];exact h4.bC aM _ (.d (.bl _))
theorem S9{m:Vs->M Xv}{Z:L2.St}{Q:Bool->Hp->Prop}(hh:qm K cA EX (λJ=>M.bd (m J) bool) Z H Q):tE K cA EX m Z H λx H1=>∃c,x=.bl c/\Q c H1:=un hh λU J s hL hS h=>
 ⟨U,J,s,hL,hS,h.bd.imp λd s1 U1 H1 ⟨_,r1,h1⟩ v rv=>zhQ r1 rv h1⟩
theorem znv{k:Nat}(hr:bx k X.A)(ha:JE X cA aq aj F EX a A)(hb:JE X cA aq aj F EX b B)(h1:mz b=true:=by rfl):JT X cA aq aj F EX (.Compare a [.In] [b] pos) (.sE true A B):=⟨PT.weak (LC (znj (cA:=cA) (by have:=hr.un;lia) ha.o hb.o) (vf h1)) λZ H Q hh=>Zd id (λc=>by cases c<;>rfl) (S9 hh)⟩
theorem zmq{k:Nat}(hr:bx k X.A)(ha:JE X cA aq aj F EX a A)(hb:JE X cA aq aj F EX b B)(h1:mz b=true:=by rfl):JT X cA aq aj F EX (.Compare a [.NotIn] [b] pos) (.sE false A B):=⟨PT.weak (LC (zla (cA:=cA) (by have:=hr.un;lia) ha.o hb.o) (vf h1)) λZ H Q hh=>Zd not (λc=>by cases c<;>rfl) (S9 hh)⟩
theorem Ze:JE X cA aq aj F EX (.Dict [] [] pos) .oH:=⟨PE.weak znh λZ H Q hh=>un hh λU J s hL hS h p hp=>
 h (U.add p) _ (Ext.add hp) (hS.Jg hp ⟨[],iB,.nil⟩) _ (.l (by show (U.l++[p])[s.length]?=_;rw[<-hS.len];simp))⟩
end
section
variable {X:Cx}{cA:Cl}{aq:Nat->Nat->Bool}{aj:Bool}{F:Bool->Fn}{EX:XS}{a oo ii:Expr}{A O I':E}{pos p:Pos}
theorem Zf{k:Nat}(hr:bx k X.A)(hO:JE X cA aq aj (F aj) EX oo O)(hI:JE X cA aq aj (F aj) EX ii I')(ha:JE X cA aq aj (F aj) EX a A)(hs:swapsWith a (some (.Subscript oo ii p)) pos.line X.env=pure false:=by rfl) :
  JS X cA aq aj F EX (.Assign [.Subscript oo ii p] a pos) (.dput O I' A):=⟨PS.weak (zmQ (cA:=cA) (by have:=hr.un;lia) hO.o hI.o ha.o hs) λD Z H hh=>un hh λU J s hL hS h=>by
 refine aX hL hS (aV.ofM hL hS.lz h) λz H1 U1 d1 s1 x1 hL1 aG r1 h1=>?_;obtain⟨w,_,jV,h2⟩:=M6 r1 h1;refine aX hL1 aG h2 λx H2 U2 d2 s2 x2 hL2 aM r2 h3=>aX hL2 aM h3 λy H3 U3 d3 s3 x3 nO fU r3 h4=>?_;obtain⟨kx,rk,h5⟩:=Nt r3 h4;obtain⟨n,ad,kvs,xs,_,rfl,e1,e2,e3,rr,h6⟩:=J2 fU (r2.mono x3 aM.lz) h5;obtain⟨b,rfl⟩:=J1 (X:=X) (d:=.non) rk;have Zg:=(jV.mono x2 aG.lz).mono x3 aM.lz;by_cases hz:kvs.length<sizeLine
 ·refine⟨ad,b,U3,kvs,xs,kx,w,rfl,e3,rr,rfl,rk,Zg,hz,λu ru=>?_⟩;have h6:Run X.K cA (if kvs.length<sizeLine then putD n (jF kx w kvs) else M.no) U3 H3 s3 _ _:=h6;rw[if_pos hz] at h6;have x4:Ext U3 H3 U3 (upd H3 ad (sS ad (storedH xs kx b u))):=Ext.write e2 ⟨_,e3⟩;have rS:=fU.uO (so:=.dct (jF kx w kvs)) (ho:=sS ad (storedH xs kx b u)) (fX.mp e1).1 e2 ⟨_,iB,(rr.put rk ru Zg).map λ_ _ r=>r.mono x4 fU.lz⟩;obtain⟨x5,r5,h7⟩:=h6 U3 _ x4 rS;exact h7 U3 _ Z Ext.refl rS (nO.mono x4 fU.lz)
 ·have h6:Run X.K cA (if kvs.length<sizeLine then putD n (jF kx w kvs) else M.no) U3 H3 s3 _ _:=h6;rw[if_neg hz] at h6;exact h6.elim⟩
end
end Mi
namespace Mi
open PySem PySem.Spec PyProof.Rows L2 PySem.W
theorem zkF{fd:FuncData}{x:Str}{st:Stmt}(h:nW fd=vM x st):fd=fnOf x x (aY st) (aJ st) (au st) .none fd.kwdefaults fd.doc fd.pyModule fd.annotations fd.code fd.closureTuple:=by
 cases fd;unfold nW vM at h;cases h;rfl
noncomputable def fV(K:Frag)(x:Str):Addr:=match wD K x with
 |some p=>p.1
 |none=>0
noncomputable def fdOf(K:Frag)(x:Str)(st:Stmt):FuncData:=match wD K x with
 |some p=>p.2
 |none=>vM x st
structure FnAt(K:Frag)(x:Str)(st:Stmt):Prop where
 ns:nsIn K mainGlobals x=some (some (.ref (fV K x)))
 fn:oV K x x st (fV K x) (fdOf K x st)
theorem zny{K:Frag}{x:Str}{st:Stmt}(h:(wD K x).map (λp=>nW p.2)=some (vM x st)):FnAt K x st:=by
 cases e:wD K x with
 |none=>rw[e] at h;cases h
 |some p=>
  rw[e] at h;have hp:nW p.2=vM x st:=cO h;have h1:fV K x=p.1:=by unfold fV;rw[e]
  have h2:fdOf K x st=p.2:=by unfold fdOf;rw[e]
  unfold wD at e;split at e
  ·rename_i f hf;split at e
   ·rename_i oc od fd sl hl;split at e
    ·rename_i hc;cases e;rw[eG] at hc;refine⟨by rw[h1];exact hf,?_⟩;rw[h1,h2];exact⟨⟨oc,od,_,_,_,_,_,_,sl,zkF hp,hl,hc.1⟩,hc.2⟩
    ·cases e
   ·cases e
  ·cases e
theorem FnAt.m{K:Frag}{x:Str}{st:Stmt}(F:FnAt K x st){h:Heap}{mg:Str->Option Value}(X:K.In h)(G:h.Ns mainGlobals mg):mg x=some (.ref (fV K x)):=mg_of X G F.ns
theorem zns{K:Frag}{x:Str}(h:ud K x=true){hp:Heap}{mg:Str->Option Value}(X:K.In hp)(G:hp.Ns mainGlobals mg):mg x=some (.ref (dX K x)):=by
 refine mg_of X G ?_;unfold ud at h;unfold dX;split at h
 ·rename_i C e;rw[e]
 ·cases h
theorem S_{K:Frag}{x:Str}{i:Int}(h:mJ K (x,i)=true){hp:Heap}{mg:Str->Option Value}(X:K.In hp)(G:hp.Ns mainGlobals mg):∃t,mg x=some (.int i t):=by
 unfold mJ at h;split at h
 ·rename_i j t e;rw[yP] at h;subst h;exact⟨t,mg_of X G e⟩
 ·cases h
theorem qy{K:Frag}{x:Str}(h:qJ K x=true){hp:Heap}{mg:Str->Option Value}(X:K.In hp)(G:hp.Ns mainGlobals mg):mg x=none:=by
 refine mg_none_of X G ?_;unfold qJ at h;split at h
 ·rename_i e;exact e
 ·cases h
structure zX(l:Lk)(K:Frag):Prop where
 cl:∀x∈l.GK,ud K x=true
 cs:l.GK.isEmpty=true\/yW K (l.L K)=true
 ra:∀k∈l.Wa,GJ K (iU (l.L K) k)=true
 ca:∀k∈l.Wb,subB K (l.L K) k=true
 it:∀p∈l.wF,mJ K p=true
 no:∀x∈l.V_,qJ K x=true
theorem Kac{l:Lk}{K:Frag}(h:l.good K=true):zX l K:=by
 unfold Lk.good at h;simp only[eG,Ln,gY] at h;obtain⟨⟨⟨⟨⟨h1,h2⟩,h3⟩,h4⟩,h5⟩,h6⟩:=h;exact⟨h1,h2,h3,h4,h5,h6⟩
theorem yg{K:Frag}{x:Str}{st:Stmt}{f:Addr}{fd:FuncData}{p:Str}(F:oV K x x st f fd)(h:∀(kV doc pm:Value) (an:Option Addr) (cdv ct a:Value),bindArgs (fnOf x x (aY st) (aJ st) (au st) .none kV doc pm an cdv ct) ⟨[a],[]⟩=pure [(p,a)]):Binds K fd [p] []:=by
 obtain⟨oc,od,kV,doc,pm,an,cdv,ct,osl,rfl,lk,iC⟩:=F.ex;exact Cz (h kV doc pm an cdv ct)
theorem yh{K:Frag}{x:Str}{st:Stmt}{f:Addr}{fd:FuncData}{p q:Str}(F:oV K x x st f fd)(h:∀(kV doc pm:Value) (an:Option Addr) (cdv ct a b:Value),bindArgs (fnOf x x (aY st) (aJ st) (au st) .none kV doc pm an cdv ct) ⟨[a,b],[]⟩=pure [(p,a),(q,b)]):Binds K fd [p,q] []:=by
 obtain⟨oc,od,kV,doc,pm,an,cdv,ct,osl,rfl,lk,iC⟩:=F.ex;exact u6 (h kV doc pm an cdv ct)
theorem yj{K:Frag}{x:Str}{st:Stmt}{f:Addr}{fd:FuncData}{p q t:Str}(F:oV K x x st f fd)(h:∀(kV doc pm:Value) (an:Option Addr) (cdv ct a b c:Value),bindArgs (fnOf x x (aY st) (aJ st) (au st) .none kV doc pm an cdv ct) ⟨[a,b,c],[]⟩=pure [(p,a),(q,b),(t,c)]):Binds K fd [p,q,t] []:=by
 obtain⟨oc,od,kV,doc,pm,an,cdv,ct,osl,rfl,lk,iC⟩:=F.ex;exact u9 (h kV doc pm an cdv ct)
theorem yp{K:Frag}{x:Str}{st:Stmt}{f:Addr}{fd:FuncData}{p q t u:Str}(F:oV K x x st f fd)(h:∀(kV doc pm:Value) (an:Option Addr) (cdv ct a b c d:Value),bindArgs (fnOf x x (aY st) (aJ st) (au st) .none kV doc pm an cdv ct) ⟨[a,b,c,d],[]⟩=pure [(p,a),(q,b),(t,c),(u,d)]):Binds K fd [p,q,t,u] []:=by
 obtain⟨oc,od,kV,doc,pm,an,cdv,ct,osl,rfl,lk,iC⟩:=F.ex;exact u_ (h kV doc pm an cdv ct)
theorem CV{K:Frag}{x:Str}{st:Stmt}{f:Addr}{fd:FuncData}{p:Str}(F:oV K x x st f fd)(h:∀(kV doc pm:Value) (an:Option Addr) (cdv ct a:Value),bindArgs (fnOf x x (aY st) (aJ st) (au st) .none kV doc pm an cdv ct) ⟨[a],[]⟩=pure [(p,a)]):∀(s:Shared) (u:Value),BindsTo s fd ⟨[u],[]⟩ [(p,u)]:=by
 obtain⟨oc,od,kV,doc,pm,an,cdv,ct,osl,rfl,lk,iC⟩:=F.ex;exact λs u=>.of_eq (h kV doc pm an cdv ct u)
end Mi
namespace Mi
open PySem PySem.Spec PyProof.Rows L2
theorem Zh:∀{is:List Nat} {ds:List α} {J J':List (Option α)},gB is ds J=some J'->∀j,j∉is->J'[j]?=J[j]?
 |[],[],J,J',e,j,_=>by cases e;rfl
 |[],_::_,J,J',e,j,_=>by cases e
 |_::_,[],J,J',e,j,_=>by cases e
 |i::is,d::ds,J,J',e,j,h=>by
  have h1:=Zh (is:=is) (ds:=ds) e j (λz=>h (gU _ z));rw[h1,qH (λz=>h (by rw[z];exact lg))]
theorem zha{tg:List Nat}{x:D}{J J':Vs}(e:fD tg x J=some J')(j:Nat)(h:j∉tg):J'[j]?=J[j]?:=by
 unfold fD at e;split at e
 ·cases e;rw[qH (λz=>h (by simp[z]))]
 ·cases ht:j9 x with
  |none=>rw[ht] at e;cases e
  |some ds=>rw[ht] at e;exact Zh e j h
theorem zh8{many:Nat}{fr:List Nat}{J:Vs}{i:Nat}(h:i<many):(blk many fr J)[i]?=some none:=by
 unfold blk;rw[pq (by simpa using h),Ad,if_pos h]
section
variable {K:W.Frag}{cA:Cl}{U U' kh:Ph}{H H' m8:Hp}{s:S}
theorem Ext.put{Dd:Addr}{us vs:List V}(x:Ext U H U' (upd H' Dd (.lst us)))(k:Keep U H Dd us):Ext U (upd H Dd (.lst vs)) U' (upd H' Dd (.lst vs)):=by
 obtain⟨r,er,hr⟩:=x.more;have nD:∀b,H b=none->b≠Dd:=λb e z=>by rw[z,k.at_] at e;cases e
 refine⟨⟨r,er,λb hb=>by rw[bT (nD b (hr b hb))];exact hr b hb⟩,x.ql,λa z=>?_,λa o e t n=>?_,λa o e=>?_⟩
 ·rcases x.j_ a z with z|z
  ·exact .inl z
  ·exact .inr (by rw[bT (nD a z)];exact z)
 ·by_cases z:a=Dd
  ·subst z;rw[iB] at e ⊢;exact e
  ·rw[bT z] at e ⊢;have:=x.frame a o e t n;rw[bT z] at this;exact this
 ·by_cases z:a=Dd
  ·subst z;exact⟨_,iB⟩
  ·rw[bT z] at e ⊢;have:=x.stay a o e;rw[bT z] at this;exact this
theorem aW.slots{Z Z':L2.St}{J:Vs}{is:List Nat}(h:aW K cA U H Z J)(hl:Z'.length=Z.length)(he:∀j,j∉is->Z'[j]?=Z[j]?)(hn:∀i∈is,∀x,J[i]?≠some (some x)):aW K cA U H Z' J:=by
 refine⟨hl.trans h.1,λi x e=>?_⟩;obtain⟨v,a,b⟩:=h.2 i x e;exact⟨v,by rw[he i λz=>hn i z x e];exact a,b⟩
end
section
variable {X:Cx}{cA:Cl}{aq:Nat->Nat->Bool}{aj:Bool}{F:Fn}{EX:XS}{elt iter tg iter₂ tg₂:Expr}{A B:E}{pos p:Pos}{ifs:List Expr}{scope:Scope}{N:List Str}{cond:Eo}{fr aL aL₂:List Nat}{many:Nat}{fz:Bool}{w w₂:Wk}
theorem zju{K:W.Frag}{g:TG}{U1 U':Ph}{H1 H':Hp}{s':S}{Z3:L2.St}{J':Vs}{Dd:Addr}{acc:List D}{vs:List V}{β:Type}{kk:List D->M β}{P:β->S->Ph->Hp->Prop}{Ee:Nat->List D->S->Ph->Hp->Prop}{c:Src}{n:Nat}{aZ:It}
  (hT:dU K cA g aL) (cV:∀i∈aL,i<many) (pW:∀i∈aL,∀x,J'[i]?≠some (some x)) (hD:H1 Dd=none) (x2:Ext U1 H1 U' H') (hL:aW K cA U' H' Z3 J') (aM:aD K cA U' H' s') (kp:Keep U' H' Dd vs) (pC:aB K cA U' H' acc vs) (hJ:jH K cA c U' H' aZ)
  (h:Run K cA (M.bd (walk c (bV aq aj F B cond aL J') (n+1) 0 acc) kk) U1 H1 s' P Ee) {Nn:L2.St->Hp->Prop}
  (hN:∀Z4 H4 U4 s4 J3 Zi,Z4.length=Z3.length->(∀i,i∉aL->Z4[i]?=Z3[i]?)->Ext U1 H1 U4 H4->Ext U' H' U4 (upd H4 Dd (.lst vs))->aD K cA U4 H4 s4->Keep U4 H4 Dd Zi->aB K cA U4 H4 J3 Zi->Run K cA (kk J3) U1 H1 s4 P Ee->Nn Z4 H4) :
  Ri g (qm K cA (λ_ _ _ _=>False) (lZ aq aj F cond)) (tE K cA (λ_ _ _ _=>False) (ev aq aj F B)) Dd aZ Z3 H' Nn:=by
 refine⟨λi m J5 m8=>m=n+1-i/\(J5.length=Z3.length/\∀j,j∉aL->J5[j]?=Z3[j]?)/\∃kh s'' gO vs'',Ext U1 H1 kh m8/\Ext U' H' kh (upd m8 Dd (.lst vs))/\aD K cA kh m8 s''/\Keep kh m8 Dd vs''/\aB K cA kh m8 gO vs'' /\
  Run K cA (M.bd (walk c (bV aq aj F B cond aL J') (n+1-i) i gO) kk) U1 H1 s'' P Ee,⟨n+1,rfl,⟨rfl,λ_ _=>rfl⟩,U',s',acc,vs,x2,by rw[Fj kp.at_];exact Ext.refl,aM,kp,pC,h⟩,?_⟩
 rintro i m J5 m8 ⟨rfl,hZ,kh,s'',gO,vs'',x3,xb,fU,k3,r3,h3⟩;have ox:cN kh (upd m8 Dd (.lst vs)) m8:=λa o e nz=>by
  rw[bT (λz=>nz (by rw[z];exact k3.z))] at e;exact e
 have nO:aW K cA kh m8 J5 J':=((hL.mono xb aM.lz).out ox).slots hZ.1 hZ.2 pW;cases ek:n+1-i with
 |zero=>rw[ek] at h3;exact h3.elim
 |succ k=>
  rw[ek] at h3;cases ei:c.at i s'' with
  |none=>
   exfalso
   unfold Run M.bd walk at h3;simp only[ei] at h3
  |some oi=>
   cases oi with
   |none=>
    refine .inl ⟨hJ.stop kh _ m8 s'' i xb ox fU ei,?_⟩;have h4:Run K cA (kk gO) U1 H1 s'' P Ee:=by
     unfold Run M.bd walk at h3;simp only[ei] at h3;exact h3
    exact hN J5 m8 kh s'' gO vs'' hZ.1 hZ.2 x3 xb fU k3 r3 h4
   |some xi=>
    refine .inr ⟨hJ.go kh _ m8 s'' i xi xb ox fU ei,λZ2 H2=>(Z2.length=Z3.length/\∀j,j∉aL->Z2[j]?=Z3[j]?)/\∃kh s'' gO vs'',Ext U1 H1 kh H2/\Ext U' H' kh (upd H2 Dd (.lst vs))/\aD K cA kh H2 s''/\Keep kh H2 Dd vs''/\aB K cA kh H2 gO vs'' /\
     Run K cA (M.bd (walk c (bV aq aj F B cond aL J') k (i+1) gO) kk) U1 H1 s'' P Ee,λZ2 H2 hn=>⟨k,by omega,by omega,hn.1,?_⟩,λv H2 hy=>?_⟩
    ·have:n+1-(i+1)=k:=by omega
     rw[this];exact hn.2
    ·obtain⟨gr,rx⟩:=hJ.ur kh _ m8 s'' i xi v H2 xb ox fU ei hy;have h4:Run K cA (M.bd (bV aq aj F B cond aL J' xi gO) λacc'=>M.bd (walk c (bV aq aj F B cond aL J') k (i+1) acc') kk) U1 H1 s'' P Ee:=by
      have h5:=Sh (m':=M.bd (bV aq aj F B cond aL J' xi gO) λacc'=>walk c (bV aq aj F B cond aL J') k (i+1) acc') (by rw[walk];simp only[ei]) h3;rw[gM] at h5;exact h5
     have kg:=k3.mono gr.ext;have xg:Ext U' H' kh (upd H2 Dd (.lst vs)):=xb.trans (Ext.put (us:=vs'') (vs:=vs) (by rw[Fj kg.at_];exact gr.ext) k3);refine sV hT (x3.trans gr.ext) hD (nO.mono gr.ext fU.lz) (fU.grow gr) kg (r3.mono gr.ext fU.lz) rx h4 λZ3' H3 U3 s3 m_ xT l3 f3 x3' xe Tc k3' r3' h6=>⟨⟨l3.trans hZ.1,λj hj=>(f3 j hj).trans (hZ.2 j hj)⟩,U3,s3,m_,xT,x3',xg.trans (Ext.put (us:=vs'') (vs:=vs) xe kg),Tc,k3',r3',h6⟩
where
 sV {K:W.Frag} {g:TG} {U1 U':Ph} {H1 H2:Hp} {s':S} {Z':L2.St} {Jb:Vs} {Dd:Addr} {acc:List D} {vs:List V} {xi:D} {v:V} {β:Type} {kk:List D->M β} {P:β->S->Ph->Hp->Prop} {Ee:Nat->List D->S->Ph->Hp->Prop} (hT:dU K cA g aL)
  (x2:Ext U1 H1 U' H2) (hD:H1 Dd=none) (hL2:aW K cA U' H2 Z' Jb) (aM:aD K cA U' H2 s') (kp:Keep U' H2 Dd vs) (pC:aB K cA U' H2 acc vs) (rx:Rep K cA U' H2 xi v)
  (h:Run K cA (M.bd (bV aq aj F B cond aL Jb xi acc) kk) U1 H1 s' P Ee) {Nn:L2.St->Hp->Prop}
  (hN:∀Z3 H3 U3 s3 m_ xT,Z3.length=Z'.length->(∀i,i∉aL->Z3[i]?=Z'[i]?)->Ext U1 H1 U3 H3->Ext U' H2 U3 (upd H3 Dd (.lst vs))->aD K cA U3 H3 s3->Keep U3 H3 Dd xT->aB K cA U3 H3 m_ xT->Run K cA (kk m_) U1 H1 s3 P Ee->Nn Z3 H3) :
  g v Z' H2 λZ3 H3=>qm K cA (λ_ _ _ _=>False) (lZ aq aj F cond) Z3 H3 λok H4=>
   if ok=true then tE K cA (λ_ _ _ _=>False) (ev aq aj F B) Z3 H4 λy H5=>∃ys,H5 Dd=some (.lst ys)/\ys.length<sizeLine/\Nn Z3 (upd H5 Dd (.lst (ys++[y]))) else Nn Z3 H4:=by
  unfold bV at h;rw[gM] at h;obtain⟨J',e1,h1⟩:=Run.m9 h;refine hT.run U' H2 s' Z' Jb J' xi v _ hL2 aM rx e1 λZ3 nO Cw Fl=>?_;rw[gM] at h1;refine⟨U',J',s',nO,aM,(Jw x2 h1).imp λok s4 U4 H4 ⟨x4,qY,h6⟩=>?_⟩;cases ok with
  |false=>
   refine iF (hN Z3 H4 U4 s4 acc vs Cw Fl (x2.trans x4) (by rw[Fj (kp.mono x4).at_];exact x4) qY (kp.mono x4) (pC.mono x4 aM.lz) ?_);rw[if_neg Ro] at h6;exact h6
  |true=>
   rw[if_pos rfl,gM] at h6;refine iT ⟨U4,J',s4,nO.mono x4 aM.lz,qY,(Jw (x2.trans x4) h6).imp λy s5 U5 H5 ⟨x5,Jy,h7⟩ u ru=>?_⟩;rw[gM] at h7;have k5:=(kp.mono x4).mono x5;have r5:=(pC.mono x4 aM.lz).mono x5 qY.lz;have Sq:=(x2.trans x4).trans x5;obtain⟨dd,ey,rd,h8⟩ : ∃d,y=.d d/\Rep K cA U5 H5 d u/\Run K cA (M.bd (if acc.length<sizeLine then M.ret (acc++[d]) else M.no) kk) U1 H1 s5 P Ee:=by
    cases ru with
    |l _=>exact h7.elim
    |d r=>exact⟨_,rfl,r,h7⟩
   by_cases hz:acc.length<sizeLine
   ·rw[if_pos hz] at h8;refine⟨vs,k5.at_,by rw[<-r5.len];exact hz,?_⟩;have ox:cN U5 H5 (upd H5 Dd (.lst (vs++[u]))):=k5.ext.1;exact hN Z3 _ U5 s5 (acc++[dd]) (vs++[u]) Cw Fl (Ext.keep (vs:=vs) Sq hD) (by rw[Wd,Fj k5.at_];exact x4.trans x5) (Jy.keep k5) k5.ext.2 ((r5.app (.cons rd .nil)).out ox) h8
   ·rw[if_neg hz] at h8;exact h8.elim
noncomputable abbrev gP(aq:Nat->Nat->Bool)(aj:Bool)(F:Fn)(B:E)(cond:Eo)(aL aL₂:List Nat)(w₂:Wk)(Jb:Vs):D->List D->M (List D):=λd acc=>M.bd (M.opt (fD aL d Jb)) λJ'=>M.bd (M.qt (gF aq aj F w₂ J')) λqg=>
    walk qg.1 (bV aq aj F B cond aL₂ J') (qg.2+1) 0 acc
theorem Zj{g₁ g:TG}(hT:dU X.K cA g₁ aL)(cV:∀i∈aL,i<many)(hT₂:dU X.K cA g aL₂)(cV₂:∀i∈aL₂,i<many)(vm:∀i∈aL₂,i∉aL){Z:L2.St}{H:Hp}{Q:VK}(hh:tE X.K cA EX (ev aq aj F (.iH fz B aL w aL₂ w₂ fr many cond)) Z H Q) :
  p7 (tI X.K cA EX (gF aq aj F w)) (bB many fr) g₁ (tI X.K cA (λ_ _ _ _=>False) (gF aq aj F w₂)) g (qm X.K cA (λ_ _ _ _=>False) (lZ aq aj F cond)) (tE X.K cA (λ_ _ _ _=>False) (ev aq aj F B)) Z H Q:=un hh λU J s hL hS h=>by
 by_cases dD:aj=true
 ·have h:Run X.K cA (if aj=true then M.bd (gF aq aj F w J) λcn=>M.bd (walk cn.1 (gP aq aj F B cond aL aL₂ w₂ (blk many fr J)) (cn.2+1) 0 []) λxs=>newL fz xs else M.no) U H s (λd _ U' H'=>∀v,aU X.K cA U' H' d v->Q v H') (eX X.K cA EX Z):=h;rw[if_pos dD] at h;refine⟨U,J,s,hL,hS,h.bd.imp λcn s1 U1 H1 ⟨x1,aG,h1⟩ aZ hJ=>?_⟩;have hL1:=hL.mono x1 hS.lz;obtain⟨c,n⟩:=cn;dsimp only at h1 hJ;intro Dd hD;obtain⟨x0,Ss,k0⟩:=YF aG hD;have Cy:∀{Z':L2.St},(Z'.length=many+fr.length/\∀i,many<=i->Z'[i]?=(bB many fr Z)[i]?)->∀{U' H'},Ext U1 H1 U' H'->aW X.K cA U' H' Z' (blk many fr J):=λ{Z'} hZ {U' H'} x=>YC (hL1.mono x aG.lz) hZ.1 λi j v e1 e2=>by
   rw[hZ.2 _ (by omega)];unfold bB;rw[pF Zaa,Gg,jP,show many+i-many=i by omega,e1];simp[e2]
  refine⟨λi m Z' H'=>m=n+1-i/\(Z'.length=many+fr.length/\∀i,many<=i->Z'[i]?=(bB many fr Z)[i]?)/\∃U' s' acc vs,Ext U1 H1 U' H'/\aD X.K cA U' H' s'/\Keep U' H' Dd vs/\aB X.K cA U' H' acc vs /\
   Run X.K cA (M.bd (walk c (gP aq aj F B cond aL aL₂ w₂ (blk many fr J)) (n+1-i) i acc) λxs=>newL fz xs) U1 H1 s' (λd _ U' H'=>∀v,aU X.K cA U' H' d v->Q v H') (eX X.K cA EX Z),⟨n+1,rfl,⟨by simp[bB],λi _=>rfl⟩,U1.mark Dd,s1,[],[],x0,Ss,k0,.nil,h1⟩,?_⟩
  rintro i m Z' H' ⟨rfl,hZ,U',s',acc,vs,x2,aM,kp,pC,h3⟩;have hL2:=Cy hZ x2;cases ek:n+1-i with
  |zero=>rw[ek] at h3;exact h3.elim
  |succ k=>
   rw[ek] at h3;cases ei:c.at i s' with
   |none=>
    exfalso
    unfold Run M.bd walk at h3;simp only[ei] at h3
   |some oi=>
    cases oi with
    |none=>
     refine .inl ⟨hJ.stop U' H' H' s' i x2 cN.refl aM ei,?_⟩;have h4:Run X.K cA (newL fz acc) U1 H1 s' (λd _ U' H'=>∀v,aU X.K cA U' H' d v->Q v H') (eX X.K cA EX Z):=by
      unfold Run M.bd walk at h3;simp only[ei] at h3;exact h3
     exact YD h4 x2 hD (aG.nz hD) aM kp pC
    |some xi=>
     refine .inr ⟨hJ.go U' H' H' s' i xi x2 cN.refl aM ei,λZ2 H2=>(Z2.length=many+fr.length/\∀i,many<=i->Z2[i]?=(bB many fr Z)[i]?)/\∃U' s' acc vs,Ext U1 H1 U' H2/\aD X.K cA U' H2 s'/\Keep U' H2 Dd vs/\aB X.K cA U' H2 acc vs /\
      Run X.K cA (M.bd (walk c (gP aq aj F B cond aL aL₂ w₂ (blk many fr J)) k (i+1) acc) λxs=>newL fz xs) U1 H1 s' (λd _ U' H'=>∀v,aU X.K cA U' H' d v->Q v H') (eX X.K cA EX Z),λZ2 H2 hn=>⟨k,by omega,by omega,hn.1,?_⟩,λv H2 hy=>?_⟩
     ·have:n+1-(i+1)=k:=by omega
      rw[this];exact hn.2
     ·obtain⟨gr,rx⟩:=hJ.ur U' H' H' s' i xi v H2 x2 cN.refl aM ei hy;have h4:Run X.K cA (M.bd (M.opt (fD aL xi (blk many fr J))) λJ'=>M.bd (M.qt (gF aq aj F w₂ J')) λqg=>M.bd (walk qg.1 (bV aq aj F B cond aL₂ J') (qg.2+1) 0 acc) λacc'=>M.bd (walk c (gP aq aj F B cond aL aL₂ w₂ (blk many fr J)) k (i+1) acc') λxs=>newL fz xs) U1 H1 s' (λd _ U' H'=>∀v,aU X.K cA U' H' d v->Q v H') (eX X.K cA EX Z):=by
       have h5:=Sh (m':=M.bd (gP aq aj F B cond aL aL₂ w₂ (blk many fr J) xi acc) λacc'=>walk c (gP aq aj F B cond aL aL₂ w₂ (blk many fr J)) k (i+1) acc') (by rw[walk];simp only[ei]) h3;rw[gM] at h5;unfold gP at h5;rw[gM] at h5;have e:(λJ'=>M.bd (M.bd (M.qt (gF aq aj F w₂ J')) λqg=>walk qg.1 (bV aq aj F B cond aL₂ J') (qg.2+1) 0 acc) λacc'=>M.bd (walk c (gP aq aj F B cond aL aL₂ w₂ (blk many fr J)) k (i+1) acc') λxs=>newL fz xs)=λJ'=>M.bd (M.qt (gF aq aj F w₂ J')) λqg=>M.bd (walk qg.1 (bV aq aj F B cond aL₂ J') (qg.2+1) 0 acc) λacc'=>M.bd (walk c (gP aq aj F B cond aL aL₂ w₂ (blk many fr J)) k (i+1) acc') λxs=>newL fz xs:=funext λJ'=>gM _ _ _;rw[<-e];exact h5
      obtain⟨J',e1,h6⟩:=Run.m9 h4;have fU:=aM.grow gr;refine hT.run U' H2 s' Z' _ J' xi v _ (hL2.mono gr.ext aM.lz) fU rx e1 λZ3 nO Cw Fl=>?_;have kg:=kp.mono gr.ext;have rg:=pC.mono gr.ext aM.lz;have xg:=x2.trans gr.ext;refine⟨U',J',s',nO,fU,(Jw xg h6).imp λqg s4 U4 H4 ⟨x4,qY,h7⟩ aZ₂ hJ₂=>?_⟩;refine zju (many:=many) hT₂ cV₂ (λi hi x z=>?_) hD (xg.trans x4) (nO.mono x4 fU.lz) qY (kg.mono x4) (rg.mono x4 fU.lz) hJ₂ h7 λZ4 H5 U5 s5 Td vs5 l5 f5 x5 _ Jy k5 r5 h8=>⟨⟨l5.trans (Cw.trans hZ.1),λi hi=>?_⟩,U5,s5,Td,vs5,x5,Jy,k5,r5,h8⟩
      ·rw[zha e1 i (vm i hi),zh8 (cV₂ i hi)] at z;cases z
      ·rw[f5 i λz=>absurd (cV₂ i z) (D_.mpr hi),Fl i λz=>absurd (cV i z) (D_.mpr hi)];exact hZ.2 i hi
 ·have h:Run X.K cA (if aj=true then M.bd (gF aq aj F w J) λcn=>M.bd (walk cn.1 (gP aq aj F B cond aL aL₂ w₂ (blk many fr J)) (cn.2+1) 0 []) λxs=>newL fz xs else M.no) U H s (λd _ U' H'=>∀v,aU X.K cA U' H' d v->Q v H') (eX X.K cA EX Z):=h;rw[if_neg dD] at h;exact h.elim
theorem zg6(hc:X.aj=true)(B':b_ X.env.scope scope)(hi:SI X cA aq aj F EX tg iter w)(hN:N.length=many+fr.length)
  (pB:∀(i:Nat) (y:Str) (j:Nat),N[many+i]?=some y->fr[i]?=some j->scope.names.lookup y=some .free/\X.N[j]?=some y)
  (hg₁:∀cl C s3 H3 fp ao,PG (X.blk scope cl N C s3 H3 fp ao) tg g₁) (hT:dU X.K cA g₁ aL) (cV:∀i∈aL,i<many) (hi₂:∀cl C s3 H3 fp ao,SI (X.blk scope cl N C s3 H3 fp ao) cA aq aj F (λ_ _ _ _=>False) tg₂ iter₂ w₂)
  (hg:∀cl C s3 H3 fp ao,PG (X.blk scope cl N C s3 H3 fp ao) tg₂ g) (hT₂:dU X.K cA g aL₂) (cV₂:∀i∈aL₂,i<many) (vm:∀i∈aL₂,i∉aL)
  (ht:∀cl C s3 H3 fp ao,Cv (X.blk scope cl N C s3 H3 fp ao) cA aq aj F (λ_ _ _ _=>False) ifs cond) (he:∀cl C s3 H3 fp ao,SE (X.blk scope cl N C s3 H3 fp ao) cA aq aj F (λ_ _ _ _=>False) elt B)
  (hs₂:∀env x,foldedSetIterable iter₂ env x=pure x) (hs:∀x,foldedSetIterable iter X.env x=pure x:=by intro _;rfl):SE X cA aq aj F EX (.ListComp elt [⟨tg,iter,[],0⟩,⟨tg₂,iter₂,ifs,0⟩] scope pos) (.iH fz B aL w aL₂ w₂ fr many cond):=
 PE.weak (zhP hc B' hi (⟨hg₁,hi₂,hg,ht,he⟩ : jY X elt tg tg₂ iter₂ ifs scope N g₁ (tI X.K cA (λ_ _ _ _=>False) (gF aq aj F w₂)) g (qm X.K cA (λ_ _ _ _=>False) (lZ aq aj F cond)) (tE X.K cA (λ_ _ _ _=>False) (ev aq aj F B))) hs₂ (ZY:=bB many fr) (λZ=>by simp[bB,hN]) (λZ i x v e1 e2=>Nf pB Z i x v e1 e2) hs) λZ H Q hh=>Zj hT cV hT₂ cV₂ vm hh
end
section
variable {X:Cx}{cA:Cl}{aq:Nat->Nat->Bool}{aj:Bool}{F:Bool->Fn}{EX:XS}{elt iter tg iter₂ tg₂:Expr}{A B:E}{pos p:Pos}{ifs:List Expr}{scope:Scope}{N:List Str}{cond:Eo}{fr aL aL₂:List Nat}{many:Nat}{fz:Bool}{w w₂:Wk}{i:Nat}{y:Str}
theorem zgT(hc:X.aj=true)(oR:X.N.Nodup)(rY:X.N[i]?=some y)(hx:Loc X.env.scope y)(hf:X.fn y=true\/X.env.scope.names.lookup y=some .local)(B':b_ X.env.scope scope)(hi:SI X cA aq aj (F aj) EX tg iter w)(hN:N.length=many+fr.length)
  (pB:∀(i:Nat) (y:Str) (j:Nat),N[many+i]?=some y->fr[i]?=some j->scope.names.lookup y=some .free/\X.N[j]?=some y)
  (hg₁:∀cl C s3 H3 fp ao,PG (X.blk scope cl N C s3 H3 fp ao) tg g₁) (hT:dU X.K cA g₁ aL) (cV:∀i∈aL,i<many) (hi₂:∀cl C s3 H3 fp ao,SI (X.blk scope cl N C s3 H3 fp ao) cA aq aj (F aj) (λ_ _ _ _=>False) tg₂ iter₂ w₂)
  (hg:∀cl C s3 H3 fp ao,PG (X.blk scope cl N C s3 H3 fp ao) tg₂ g) (hT₂:dU X.K cA g aL₂) (cV₂:∀i∈aL₂,i<many) (vm:∀i∈aL₂,i∉aL)
  (ht:∀cl C s3 H3 fp ao,Cv (X.blk scope cl N C s3 H3 fp ao) cA aq aj (F aj) (λ_ _ _ _=>False) ifs cond) (he:∀cl C s3 H3 fp ao,SE (X.blk scope cl N C s3 H3 fp ao) cA aq aj (F aj) (λ_ _ _ _=>False) elt B)
  (uK:swapsWith (.ListComp elt [⟨tg,iter,[],0⟩,⟨tg₂,iter₂,ifs,0⟩] scope pos) (some (.Name y py)) spos.line X.env=pure true)
  (hs₂:∀env x,foldedSetIterable iter₂ env x=pure x) (hs:∀x,foldedSetIterable iter X.env x=pure x:=by intro _;rfl) :
  SS X cA aq aj F EX (.Assign [.Name y py] (.ListComp elt [⟨tg,iter,[],0⟩,⟨tg₂,iter₂,ifs,0⟩] scope pos) spos) (.asg (.nm i) (.iH fz B aL w aL₂ w₂ fr many cond)):=
 PS.weak (zeb hc oR rY hx hf B' hi (⟨hg₁,hi₂,hg,ht,he⟩ : jY X elt tg tg₂ iter₂ ifs scope N g₁ (tI X.K cA (λ_ _ _ _=>False) (gF aq aj (F aj) w₂)) g (qm X.K cA (λ_ _ _ _=>False) (lZ aq aj (F aj) cond)) (tE X.K cA (λ_ _ _ _=>False) (ev aq aj (F aj) B))) hs₂ (ZY:=bB many fr) (λZ=>by simp[bB,hN]) (λZ i x v e1 e2=>Nf pB Z i x v e1 e2) uK hs) λD Z H hh=>un hh λU J s hL hS h=>
  Zj hT cV hT₂ cV₂ vm ⟨U,J,s,hL,hS,(aV.ofM hL hS.lz h).imp λd s1 U1 H1 ⟨x1,aG,h1⟩ v rv=>h1 U1 H1 _ Ext.refl aG ((hL.mono x1 hS.lz).set rv)⟩
noncomputable def yq(aL aL₂:List Nat)(m:Nat):Bool:=aL.all (λi=>decide (i<m))&&aL₂.all (λi=>decide (i<m) && !aL.contains i)
theorem FN(h:yq aL aL₂ m=true):(∀i∈aL,i<m)/\(∀i∈aL₂,i<m)/\∀i∈aL₂,i∉aL:=by
 unfold yq at h;simp only[eG,gY,yP,Bool.not_eq_true'] at h;exact⟨h.1,λi hi=>(h.2 i hi).1,λi hi z=>by have:=(h.2 i hi).2;rw[O8.mpr z] at this;cases this⟩
noncomputable def qz:Expr->Bool
 |.Call _ _ _ _=>true
 |.Name _ _=>true
 |.BinOp _ _ _ _=>true
 |.Subscript _ _ _=>true
 |.Attribute _ _ _=>true
 |_=>false
theorem Zk(h:qz e=true):∀env x,foldedSetIterable e env x=pure x:=by cases e<;>first|(intro _ _;rfl)|cases h
theorem zjG(i:Nat)(sc:Scope)(XN M0 N:List Str)(fr:List Nat)(hN:X.N.Nodup)(rY:X.N[i]?=some y)(hx:JK X y k)(hl:lH k=true)(hc:X.aj=true)(CT:X.env.scope=sc)(oR:X.N=XN)(hB:qw sc scope=true)(hf:frB scope XN N fr=true)(hT:dU X.K cA g₁ aL)(hT₂:dU X.K cA g aL₂)(cV:yq aL aL₂ M0.length=true)
  (hi:JI X cA aq aj (F aj) EX tg iter w) (hg₁:∀cl C s3 H3 fp ao,JY (X.blk scope cl (M0++N) C s3 H3 fp ao) tg g₁) (hi₂:∀cl C s3 H3 fp ao,JI (X.blk scope cl (M0++N) C s3 H3 fp ao) cA aq aj (F aj) (λ_ _ _ _=>False) tg₂ iter₂ w₂) (hg:∀cl C s3 H3 fp ao,JY (X.blk scope cl (M0++N) C s3 H3 fp ao) tg₂ g)
  (ht:∀cl C s3 H3 fp ao,JC (X.blk scope cl (M0++N) C s3 H3 fp ao) cA aq aj (F aj) (λ_ _ _ _=>False) ifs cond) (he:∀cl C s3 H3 fp ao,JE (X.blk scope cl (M0++N) C s3 H3 fp ao) cA aq aj (F aj) (λ_ _ _ _=>False) elt B)
  (qC:qz iter₂=true:=by rfl) (uK:swapsWith (.ListComp elt [⟨tg,iter,[],0⟩,⟨tg₂,iter₂,ifs,0⟩] scope pos) (some (.Name y py)) spos.line X.env=pure true:=by rfl) (SX:X.fn y=true\/k=.local:=by first|exact .inl rfl|exact .inr rfl) (hs:∀x,foldedSetIterable iter X.env x=pure x:=by intro _;rfl) :
  JS X cA aq aj F EX (.Assign [.Name y py] (.ListComp elt [⟨tg,iter,[],0⟩,⟨tg₂,iter₂,ifs,0⟩] scope pos) spos) (.asg (.nm i) (.iH fz B aL w aL₂ w₂ fr M0.length cond)):=
 ⟨zgT hc hN rY (v7 hx hl) (v8 hx SX) (b_.of (CT▸hB)) hi.o (vZ (oR▸hf)).1 (vZ (oR▸hf)).2 (λa b c d e f=>(hg₁ a b c d e f).o) hT (FN cV).1 (λa b c d e f=>(hi₂ a b c d e f).o) (λa b c d e f=>(hg a b c d e f).o) hT₂ (FN cV).2.1 (FN cV).2.2 (λa b c d e f=>(ht a b c d e f).o) (λa b c d e f=>(he a b c d e f).o) uK (Zk qC) hs⟩
end
section
variable {X:Cx}{cA:Cl}{aq:Nat->Nat->Bool}{aj:Bool}{F:Fn}{EX:XS}{elt iter tg iter₂ tg₂:Expr}{A B:E}{pos p:Pos}{ifs:List Expr}{scope:Scope}{N:List Str}{cond:Eo}{fr aL aL₂:List Nat}{many:Nat}{fz:Bool}{w w₂:Wk}{i:Nat}{y:Str}
theorem ziO(sc:Scope)(XN M0 N:List Str)(fr:List Nat)(hc:X.aj=true)(CT:X.env.scope=sc)(oR:X.N=XN)(hB:qw sc scope=true)(hf:frB scope XN N fr=true)(hT:dU X.K cA g₁ aL)(hT₂:dU X.K cA g aL₂)(cV:yq aL aL₂ M0.length=true)
  (hi:JI X cA aq aj F EX tg iter w) (hg₁:∀cl C s3 H3 fp ao,JY (X.blk scope cl (M0++N) C s3 H3 fp ao) tg g₁) (hi₂:∀cl C s3 H3 fp ao,JI (X.blk scope cl (M0++N) C s3 H3 fp ao) cA aq aj F (λ_ _ _ _=>False) tg₂ iter₂ w₂) (hg:∀cl C s3 H3 fp ao,JY (X.blk scope cl (M0++N) C s3 H3 fp ao) tg₂ g)
  (ht:∀cl C s3 H3 fp ao,JC (X.blk scope cl (M0++N) C s3 H3 fp ao) cA aq aj F (λ_ _ _ _=>False) ifs cond) (he:∀cl C s3 H3 fp ao,JE (X.blk scope cl (M0++N) C s3 H3 fp ao) cA aq aj F (λ_ _ _ _=>False) elt B)
  (qC:qz iter₂=true:=by rfl) (hs:∀x,foldedSetIterable iter X.env x=pure x:=by intro _;rfl):JE X cA aq aj F EX (.ListComp elt [⟨tg,iter,[],0⟩,⟨tg₂,iter₂,ifs,0⟩] scope pos) (.iH fz B aL w aL₂ w₂ fr M0.length cond):=
 ⟨zg6 hc (b_.of (CT▸hB)) hi.o (vZ (oR▸hf)).1 (vZ (oR▸hf)).2 (λa b c d e f=>(hg₁ a b c d e f).o) hT (FN cV).1 (λa b c d e f=>(hi₂ a b c d e f).o) (λa b c d e f=>(hg a b c d e f).o) hT₂ (FN cV).2.1 (FN cV).2.2 (λa b c d e f=>(ht a b c d e f).o) (λa b c d e f=>(he a b c d e f).o) (Zk qC) hs⟩
end
section
variable {K:W.Frag}{cA:Cl}{U:Ph}{H:Hp}
theorem aB.CW(r:aB K cA U H xs ys):∀l:List Nat,aB K cA U H (l.map λi=>xs.getD i .non) (l.map λi=>ys.getD i .non)
 |[]=>.nil
 |i::l=>by
  refine .cons ?_ (aB.CW r l);show Rep K cA U H (xs.getD i .non) (ys.getD i .non);cases e:xs[i]? with
  |some x=>
   obtain⟨u,e1,e2⟩:=r.get e;rw[mD,mD,e,e1];exact e2
  |none=>
   have e1:ys[i]?=Option.none:=r.none e;rw[mD,mD,e,e1];exact .non
theorem aB.mem(r:aB K cA U H xs ys):∀v∈ys,∃d∈xs,Rep K cA U H d v:=by
 intro v hv;obtain⟨i,hi,e⟩:=yN hv;have e':ys[i]?=some v:=by rw[fj hi,e]
 cases ex:xs[i]? with
 |none=>rw[r.none ex] at e';cases e'
 |some d=>
  obtain⟨u,e1,e2⟩:=r.get ex;rw[e1] at e';cases e';exact⟨d,gJ ex,e2⟩
theorem Zm:∀{us ws:List D} {xs ys:List V},aB K cA U H us xs->aB K cA U H ws ys->∀{b:Bool},sI us ws=some b->lF xs ys=some b
 |[],ws,_,ys,r1,r2,b,h=>by
  cases r1;unfold sI at h;unfold lF;rw[<-r2.len];exact h
 |_::_,[],_,_,r1,r2,b,h=>by
  cases r2;cases r1;unfold sI at h;unfold lF;exact h
 |x::us,y::ws,_,_,r1,r2,b,h=>by
  cases r1 with
  |cons a1 b1=>
   cases r2 with
   |cons a2 b2=>
    unfold sI at h;split at h
    ·rename_i z;cases z
    ·rename_i z;cases z
    ·rename_i p ps q qs e1 e2;cases e1;cases e2;cases a1;cases a2;unfold lF;by_cases e:p=q
     ·rw[if_pos e] at h ⊢;exact Zm b1 b2 h
     ·rw[if_neg e] at h ⊢;exact h
    ·cases h
theorem zgX(r:aB K cA U H xs ys)(h:(xs.all j8||xs.all jd)=true):uL K H ys (zA xs):=by
 rw[Ln] at h;rcases h with h|h
 ·left
  rw[gY] at h;refine⟨λv hv=>?_,λi j b e=>?_⟩
  ·obtain⟨d,hd,q⟩:=r.mem v hv;have:=h d hd;cases q<;>first|exact⟨_,rfl⟩|cases this
  ·unfold zA at e;cases e1:xs[i]? with
   |none=>rw[e1] at e;cases e
   |some d1=>
    cases e2:xs[j]? with
    |none=>rw[e1,e2] at e;cases d1<;>cases e
    |some d2=>
     have h1:=h d1 (gJ e1);have h2:=h d2 (gJ e2);rw[e1,e2] at e;obtain⟨v1,a1,b1⟩:=r.get e1;obtain⟨v2,a2,b2⟩:=r.get e2;cases d1<;>first|cases h1|skip
     cases d2<;>first|cases h2|skip
     cases b1;cases b2;cases e;exact⟨_,_,a1,a2,rfl⟩
 ·right
  rw[gY] at h;refine⟨λv hv=>?_,λi j b e=>?_⟩
  ·obtain⟨d,hd,q⟩:=r.mem v hv;have:=h d hd;unfold jd at this;split at this
   ·cases q with
    |tup t r'=>
     cases r' with
     |cons a1 b1=>
      cases a1;exact⟨_,_,_,rfl,t.jG⟩
   ·cases this
  ·unfold zA at e;cases e1:xs[i]? with
   |none=>rw[e1] at e;cases e
   |some d1=>
    cases e2:xs[j]? with
    |none=>rw[e1,e2] at e;cases d1<;>cases e
    |some d2=>
     have h1:=h d1 (gJ e1);have h2:=h d2 (gJ e2);rw[e1,e2] at e;obtain⟨v1,a1,b1⟩:=r.get e1;obtain⟨v2,a2,b2⟩:=r.get e2;unfold jd at h1 h2;split at h1
     ·split at h2
      ·cases b1 with
       |tup t1 r1=>
        cases b2 with
        |tup t2 r2=>exact⟨_,_,_,_,a1,a2,t1.jG,t2.jG,Zm r1 r2 e⟩
      ·cases h2
     ·cases h1
theorem zf7:bH K cA .sorted (λxs H Q=>∃l ys lt p,xs=[.ref l]/\cR K H l ys/\ys.length<64/\(2<=ys.length->uL K H ys lt/\bF lt (PySem.W.kas_sort ys.length)=some p/\p.size=ys.length)/\∀r,H r=none->Q (.ref r) (upd H r (.lst (fQ ys p)))):=by
 intro U H ds vs Q zt rs o;have o:bK K cA U H (m5 ds) Q:=o;unfold m5 at o;split at o
 ·rename_i xs _;obtain⟨v,rfl,r1⟩:=rs.one;obtain⟨z,e⟩:=o.some';obtain⟨zs,e1,e2⟩:=kZ.mp e;subst e2;obtain⟨a,us,rfl,sq,q⟩ : ∃a us,v=.ref a/\cR K H a us/\aB K cA U H xs us:=r1;have hl:=q.len;unfold zB at e1;by_cases hk:(xs.all j8||xs.all jd)=true
  ·rw[if_pos hk] at e1;unfold jo at e1;by_cases h2:xs.length<2
   ·rw[if_pos h2] at e1;cases e1;refine⟨a,us,λ_ _=>none,#[],rfl,sq,by lia,λz=>absurd z gV,λr hr=>?_⟩;have:fQ us #[]=us:=by unfold fQ;rw[if_pos gV]
    rw[this];exact(o.of e) r us hr q
   ·rw[if_neg h2] at e1;by_cases nM:xs.length<64
    ·rw[if_pos nM] at e1;cases ek:bF (zA xs) (PySem.W.kas_sort xs.length) with
     |none=>rw[ek] at e1;cases e1
     |some p=>
      rw[ek] at e1;dsimp only at e1;by_cases hp:p.size=xs.length
      ·rw[if_pos hp] at e1;cases e1;refine⟨a,us,zA xs,p,rfl,sq,by lia,λ_=>⟨zgX q hk,by rw[<-hl];exact ek,by lia⟩,λr hr=>?_⟩;have:fQ us p=p.toList.map λi=>us.getD i .non:=by unfold fQ;rw[if_neg gV]
       rw[this];exact(o.of e) r _ hr (q.CW p.toList)
      ·rw[if_neg hp] at e1;cases e1
    ·rw[if_neg nM] at e1;cases e1
  ·rw[if_neg hk] at e1;cases e1
 ·exact o.elim
end
section
variable {X:Cx}{cA:Cl}{aq:Nat->Nat->Bool}{aj:Bool}{F:Fn}{EX:XS}{e:Expr}{pos p:Pos}{es:List Expr}{Xs:Es}{fz:Bool}
theorem Zn:bootBuiltins "sorted"=some (.builtin "sorted"):=by decide +kernel
theorem Zo(hm:X.mg "sorted"=none)(hg:JK X "sorted" .globalImplicit)(ha:JA X cA aq aj F EX (e::es) Xs)(he:aC e=true:=by rfl)(cT:es.all aC=true:=by rfl):JE X cA aq aj F EX (.Call (.Name "sorted" p) (e::es) [] pos) (.pr fz .sorted Xs):=⟨zL zd5 zf7 hg.o hm Zn ha.o Ro Ro (bf he) (bD cT)⟩
end
section
variable {K:W.Frag}{cA:Cl}{U:Ph}{H:Hp}
theorem Nu:∀{xs:List D} {k i:Nat},(enumFrom k xs)[i]?=(xs[i]?).map λd=>.tup [.int ((k+i:Nat):Int),d]
 |[],k,i=>by simp[enumFrom]
 |x::r,k,0=>by simp[enumFrom]
 |x::r,k,i+1=>by
  unfold enumFrom;rw[Dt,Dt,Nu]
  congr 1
  funext d
  rw[show k+1+i=k+(i+1) by lia]
noncomputable def sW(K:W.Frag)(U:Ph)(H:Hp):Bool->Addr->List V->Prop
 |true,a,vs=>LstAt K U H a vs
 |false,a,vs=>TupAt K U H a vs
theorem sW.sk{kd:Bool}{a:Addr}{vs:List V}(h:sW K U H kd a vs):Sk kd K H a vs:=by
 cases kd
 ·exact TupAt.jG h
 ·exact LstAt.sU h
theorem sW.later{U':Ph}{H₁ H':Hp}{kd:Bool}{a:Addr}{vs:List V}(hz:∀a∈U.l,U.z a)(h:sW K U H kd a vs)(x:Ext U H U' H₁)(o:cN U' H₁ H'):sW K U' H' kd a vs:=by
 cases kd
 ·exact TupAt.later hz h x o
 ·exact LstAt.later hz h x o
theorem jH.enum{kd:Bool}{l:Addr}{xs:List D}{vs:List V}(hz:∀a∈U.l,U.z a)(h:sW K U H kd l vs)(r:aB K cA U H xs vs):jH K cA (.fix (enumFrom 0 xs)) U H (Ite K kd l):=by
 refine⟨λU' H₁ H' s' i x o hS e=>⟨vs,(h.later hz x o).sk,?_⟩,λU' H₁ H' s' i d x o hS e=>?_,λU' H₁ H' s' i d v H2 x o hS e y=>?_⟩
 ·have e:(enumFrom 0 xs)[i]?=none:=cO e;rw[Nu,Option.map_eq_none_iff] at e;exact qG.mp ((r.mono x hz).none e)
 ·have e:(enumFrom 0 xs)[i]?=some d:=cO e;rw[Nu] at e;obtain⟨d',e',_⟩:=kZ.mp e;obtain⟨v,q,_⟩:=r.get e';exact⟨vs,v,(h.later hz x o).sk,q⟩
 ·have e:(enumFrom 0 xs)[i]?=some d:=cO e;rw[Nu] at e;obtain⟨d',e',rfl⟩:=kZ.mp e;obtain⟨a,u,hn,rfl,rfl,hu⟩:=y;obtain⟨w,q,jV⟩:=((r.mono x hz).out o).get e';have:=hu vs (h.later hz x o).sk;rw[q] at this;cases this;have g:bG H' (upd H' a (.tup [.int i,u])):=bG.new hn;refine⟨g,?_⟩;rw[show ((0+i:Nat):Int)=(i:Int) by simp];exact .tup (.inl ⟨.inl iB,hS.nz hn⟩) (.cons (.int _) (.cons (jV.mono g.ext hS.lz) .nil))
theorem Te(h:(Src.lX n).at i s=some o):∃xs,s[n]?=some (.lst xs)/\(xs[i]?.map λx=>D.tup [.int i,x])=o:=by
 unfold Src.at at h;dsimp only at h;cases e:s[n]? with
 |none=>rw[e] at h;cases h
 |some ob=>
  rw[e] at h;cases ob with
  |lst xs=>exact⟨xs,rfl,cO h⟩
  |_=>cases h
theorem jH.lX{a:Addr}{n:Nat}(h:U.l[n]?=some a):jH K cA (.lX n) U H (Ite K true a):=by
 refine⟨λU' H₁ H' s' i x o hS e=>?_,λU' H₁ H' s' i d x o hS e=>?_,λU' H₁ H' s' i d v H2 x o hS e y=>?_⟩
 ·obtain⟨xs,e1,e2⟩:=Te e;rw[Option.map_eq_none_iff] at e2;obtain⟨vs,q1,q2⟩:=hS.obj n _ a e1 (x.get h);exact⟨vs,cR.of q1,qG.mp (q2.none e2)⟩
 ·obtain⟨xs,e1,e2⟩:=Te e;obtain⟨d',e',_⟩:=kZ.mp e2;obtain⟨vs,q1,q2⟩:=hS.obj n _ a e1 (x.get h);obtain⟨v,q3,_⟩:=q2.get e';exact⟨vs,v,cR.of q1,q3⟩
 ·obtain⟨xs,e1,e2⟩:=Te e;obtain⟨d',e',rfl⟩:=kZ.mp e2;obtain⟨vs,q1,q2⟩:=hS.obj n _ a e1 (x.get h);obtain⟨w,q3,jV⟩:=q2.get e';obtain⟨b,u,hn,rfl,rfl,hu⟩:=y;have:=hu vs (cR.of q1);rw[q3] at this;cases this;have g:bG H' (upd H' b (.tup [.int i,w])):=bG.new hn;exact⟨g,.tup (.inl ⟨.inl iB,hS.nz hn⟩) (.cons (.int _) (.cons (jV.mono g.ext hS.lz) .nil))⟩
end
section
variable {X:Cx}{cA:Cl}{aq:Nat->Nat->Bool}{aj:Bool}{F:Fn}{EX:XS}{a b:Expr}{A B:E}{pos pp tpos:Pos}{elts:List Expr}{kk:Nat}
theorem zjY(qu:Gl X "enumerate")(hmg:X.mg "enumerate"=none)(hb:SE X cA aq aj F EX b B)(h2:starEach [b] X.env=(false,eval b X.env)::starEach [] X.env) :
  SI X cA aq aj F EX (.Tuple elts kk tpos) (.Call (.Name "enumerate" pp) [b] [] pos) (.enum B):=PI.weak (zja qu hmg (rQ hb wV h2) (by rw[h2];rfl)) λZ H R hh=>un hh λU J s hL hS h=>by
 refine aX hL hS h λy H2 U2 d2 s2 x2 hL2 aM r2 h2=>?_;cases r2 with
 |@l n ad hl=>
  unfold Run oN at h2;dsimp only at h2;cases e:s2[n]? with
  |none=>rw[e] at h2;exact h2.elim
  |some o=>
   rw[e] at h2;cases o with
   |lst xs=>
    obtain⟨vs,q1,q2⟩:=aM.obj n _ _ e hl;exact⟨true,_,_,rfl,cR.of q1,h2 U2 H2 Ext.refl aM _ (jH.lX hl)⟩
   |_=>exact h2.elim
 |d r2=>
  cases r2 with
  |fl q r=>exact⟨true,_,_,rfl,q.sU,h2 U2 H2 Ext.refl aM _ (jH.enum (kd:=true) aM.lz q r)⟩
  |tup q r=>exact⟨false,_,_,rfl,q.jG,h2 U2 H2 Ext.refl aM _ (jH.enum (kd:=false) aM.lz q r)⟩
  |_=>exact h2.elim
theorem Zq:∀(ns:List Str) (vs:List V),((ns.zip vs).map (·.1)).Sublist ns
 |[],vs=>by simp
 |n::ns,[]=>by simp
 |n::ns,v::vs=>by
  rw[Gp,jk];exact(Zq ns vs).cons₂ n
theorem zfo:∀{ns:List Str} {vs:List V} {i:Nat} {x:Str} {v:V},ns.Nodup->ns[i]?=some x->vs[i]?=some v->(ns.zip vs).lookup x=some v
 |ns,vs,i,x,v,hn,h1,h2=>by
  refine Xz ?_ (zkb h1 h2);exact List.Sublist.nodup (Zq ns vs) hn
end
section
variable {X:Cx}{cA:Cl}{aq:Nat->Nat->Bool}{aj:Bool}{F:Fn}{EX:XS}{a b:Expr}{A B:E}{pos p tpos:Pos}{elts:List Expr}{kk:Nat}
theorem Zr(hmg:X.mg "enumerate"=none)(qu:JK X "enumerate" .globalImplicit)(hb:JE X cA aq aj F EX b B)(h2:aC b=true:=by rfl):JI X cA aq aj F EX (.Tuple elts kk tpos) (.Call (.Name "enumerate" p) [b] [] pos) (.enum B):=⟨zjY qu.o hmg hb.o (bf h2)⟩
end
end Mi
namespace Mi
open PySem PySem.Spec PyProof.Rows L2 PySem.W
theorem zjB{fd:FuncData}{q:Str}{st:Stmt}(h:nW fd=Ar q st):fd=fnOf "__init__" q (aY st) (aJ st) (au st) .none fd.kwdefaults fd.doc fd.pyModule fd.annotations fd.code fd.closureTuple:=by
 cases fd;unfold nW Ar at h;cases h;rfl
structure J6(K:Frag)(C:Addr)(q:Str)(st:Stmt):Prop where
 ex:∃(fI:Addr) (od:Option Addr) (kV doc pm:Value) (an:Option Addr) (cdv ct:Value) (osl:Array (Option Value)) (cd:ClassData),
  K.lookup fI=some ⟨.type "function",od,.func (fnOf "__init__" q (aY st) (aJ st) (au st) .none kV doc pm an cdv ct),osl⟩/\codeIn K cdv q=true/\uc K C fI=true/\clsIn K C=some cd/\t_ cd.mro=true/\cd.hasDict=true
theorem znK{K:Frag}{C:Addr}{q:Str}{st:Stmt}(h:(GP K C).map nW=some (Ar q st)):J6 K C q st:=by
 cases e:GP K C with
 |none=>rw[e] at h;cases h
 |some fd=>
  rw[e] at h;have hp:nW fd=Ar q st:=cO h;unfold GP at e;split at e
  ·rename_i cd iC;split at e
   ·rename_i f hf;split at e
    ·rename_i od fd' sl hl;split at e
     ·rename_i hc;cases e;simp only[eG] at hc;obtain⟨⟨⟨c1,c2⟩,c3⟩,c4⟩:=hc;have eq:=zjB hp;have qn:fd.qualname=q:=by rw[eq]
      refine⟨⟨f,od,fd.kwdefaults,fd.doc,fd.pyModule,fd.annotations,fd.code,fd.closureTuple,sl,cd,?_,by rw[<-qn];exact c1,c2,iC,c3,c4⟩⟩;rw[<-eq];exact hl
     ·cases e
    ·cases e
   ·cases e
  ·cases e
theorem zm9{K:Frag}{C:Addr}{f:Str}(h:Lr K C f=true):XF K C f:=by
 unfold Lr at h;simp only[eG,nR] at h;obtain⟨⟨⟨⟨h1,h2⟩,h3⟩,h4⟩,h5⟩:=h;exact⟨h1,h2,h3,h4,h5⟩
structure oZ(fs:List (Str×Stmt))(ms:List uf)(xs:List (Nat×Str))(l:Lk)(K:Frag):Prop where
 fn:∀p∈fs,FnAt K p.1 p.2
 gd:zX l K
 mi:∀m∈ms,J6 K (iU (l.L K) m.c) m.q m.st
 se:∀m∈ms,setB K (iU (l.L K) m.c) m.fs=true
 xf:∀x∈xs,XF K (iU (l.L K) x.1) x.2
theorem Tf{a:Nat}{o:Obj}:∀{l:List Obj} {i:Nat},((a:Addr),o)∈GQ i l->i<=a/\l[a-i]?=some o/\o.isFreed=false
 |[],i,h=>by cases h
 |p::r,i,h=>by
  unfold GQ at h;split at h
  ·obtain⟨h1,h2,h3⟩:=Tf h;refine⟨by lia,?_,h3⟩;rw[show a-i=(a-(i+1))+1 by lia];exact h2
  ·rename_i hf;rcases jA.mp h with e|h
   ·cases e;exact⟨cj _,by simp,(Bool.or_eq_false_iff.mp hf).1⟩
   ·obtain⟨h1,h2,h3⟩:=Tf h;refine⟨by lia,?_,h3⟩;rw[show a-i=(a-(i+1))+1 by lia];exact h2
theorem Ti:∀{K:Frag},K.lookup a=some o->(a,o)∈K
 |[],h=>by cases h
 |(b,p)::r,h=>by
  rw[pH] at h;by_cases e:a=b
  ·subst e;simp only[DN] at h;cases h;exact lg
  ·rw[show (a==b)=false by simpa using e] at h;exact gU _ (Ti h)
theorem zhs:(bR h).In h:=λa o e=>by
 have hm:=Ti e;unfold bR at hm;rcases nG.mp hm with z|z
 ·unfold qK at z;split at z
  ·rename_i p hp;rcases jA.mp z with e|z
   ·cases e;exact hp
   ·cases z
  ·cases z
 ·obtain⟨_,h2,h3⟩:=Tf (List.mem_reverse.mp z);rw[Heap.get?_some_iff];refine⟨?_,h3⟩;have:h.objs.toList[a]?=some o:=by simpa using h2
  simpa using this
end Mi
namespace Mi
open PySem PySem.Spec PyProof.Rows L2
section
variable {K:W.Frag}{cA:Cl}{U:Ph}{H:Hp}
noncomputable def ju(K:W.Frag)(U:Ph)(H:Hp):Bool->Addr->List V->Prop
 |true,a,vs=>LstAt K U H a vs
 |false,a,vs=>TupAt K U H a vs
theorem ju.sk{kd:Bool}{a:Addr}{vs:List V}(h:ju K U H kd a vs):Sk kd K H a vs:=by
 cases kd
 ·exact TupAt.jG h
 ·exact LstAt.sU h
theorem ju.later{kd:Bool}{a:Addr}{vs:List V}{U':Ph}{H₁ H':Hp}(hz:∀a∈U.l,U.z a)(h:ju K U H kd a vs)(x:Ext U H U' H₁)(o:cN U' H₁ H'):ju K U' H' kd a vs:=by
 cases kd
 ·exact TupAt.later hz h x o
 ·exact LstAt.later hz h x o
theorem Tj{xs ys:List D}{i:Nat}:(List.zipWith (λp q=>D.tup [p,q]) xs ys)[i]?=match xs[i]?,ys[i]? with
  |some p,some q=>some (.tup [p,q])
  |_,_=>none:=by
 rw[List.getElem?_zipWith];cases xs[i]?<;>cases ys[i]?<;>rfl
theorem jH.zip{k1 k2:Bool}{l1 l2:Addr}{xs ys:List D}{us vs:List V}(hz:∀a∈U.l,U.z a)(h1:ju K U H k1 l1 us)(h2:ju K U H k2 l2 vs)(r1:aB K cA U H xs us)(r2:aB K cA U H ys vs):jH K cA (.fix (List.zipWith (λp q=>D.tup [p,q]) xs ys)) U H (Rr K k1 k2 l1 l2):=by
 refine⟨λU' H₁ H' s' i x o hS e=>?_,λU' H₁ H' s' i d x o hS e=>?_,λU' H₁ H' s' i d v H2 x o hS e y=>?_⟩
 ·have e:(List.zipWith (λp q=>D.tup [p,q]) xs ys)[i]?=none:=cO e;rw[Tj] at e;refine⟨us,vs,(h1.later hz x o).sk,(h2.later hz x o).sk,?_⟩;cases ex:xs[i]? with
  |none=>exact .inl (qG.mp (r1.none ex))
  |some p=>
   cases ey:ys[i]? with
   |none=>exact .inr (qG.mp (r2.none ey))
   |some q=>rw[ex,ey] at e;cases e
 ·have e:(List.zipWith (λp q=>D.tup [p,q]) xs ys)[i]?=some d:=cO e;rw[Tj] at e;cases ex:xs[i]? with
  |none=>rw[ex] at e;cases e
  |some p=>
   cases ey:ys[i]? with
   |none=>rw[ex,ey] at e;cases e
   |some q=>
    obtain⟨u,q1,_⟩:=r1.get ex;obtain⟨v,q2,_⟩:=r2.get ey;exact⟨us,vs,u,v,(h1.later hz x o).sk,(h2.later hz x o).sk,q1,q2⟩
 ·have e:(List.zipWith (λp q=>D.tup [p,q]) xs ys)[i]?=some d:=cO e;rw[Tj] at e;cases ex:xs[i]? with
  |none=>rw[ex] at e;cases e
  |some p=>
   cases ey:ys[i]? with
   |none=>rw[ex,ey] at e;cases e
   |some q=>
    rw[ex,ey] at e;cases e;obtain⟨a,u,w,hn,rfl,rfl,hu,hw⟩:=y;obtain⟨u',q1,ru⟩:=((r1.mono x hz).out o).get ex;obtain⟨w',q2,jV⟩:=((r2.mono x hz).out o).get ey;have e1:=hu us (h1.later hz x o).sk;have e2:=hw vs (h2.later hz x o).sk;rw[q1] at e1;rw[q2] at e2;cases e1;cases e2;have g:bG H' (upd H' a (.tup [u,w])):=bG.new hn;exact⟨g,.tup (.inl ⟨.inl iB,hS.nz hn⟩) (.cons (ru.mono g.ext hS.lz) (.cons (jV.mono g.ext hS.lz) .nil))⟩
theorem Zu(r:aU K cA U H x v)(h:Run K cA (M.bd (qe x) k) U H s P Ee) :
  ∃xs kd a vs,v=.ref a/\ju K U H kd a vs/\aB K cA U H xs vs/\Run K cA (k xs) U H s P Ee:=by
 cases r with
 |l _=>exact h.elim
 |d r=>
  cases r with
  |tup q r=>exact⟨_,false,_,_,rfl,q,r,h⟩
  |fl q r=>exact⟨_,true,_,_,rfl,q,r,h⟩
  |_=>exact h.elim
end
section
variable {X:Cx}{cA:Cl}{aq:Nat->Nat->Bool}{aj:Bool}{F:Fn}{EX:XS}{a b:Expr}{A B:E}{pos pp tpos:Pos}{elts:List Expr}{kk:Nat}
theorem zli(qu:Gl X "zip")(hmg:X.mg "zip"=none)(ha:SE X cA aq aj F EX a A)(hb:SE X cA aq aj F EX b B)(h1:starEach [a,b] X.env=(false,eval a X.env)::starEach [b] X.env)(h2:starEach [b] X.env=(false,eval b X.env)::starEach [] X.env) :
  SI X cA aq aj F EX (.Tuple elts kk tpos) (.Call (.Name "zip" pp) [a,b] [] pos) (.zip A B):=PI.weak (zll qu hmg (rQ ha (rQ hb wV h2) h1) (by rw[h1,h2];rfl) (by rw[h2];rfl)) λZ H R hh=>un hh λU J s hL hS h=>by
 refine aX hL hS h λx H1 U1 d1 s1 x1 hL1 aG r1 h1=>aX hL1 aG h1 λy H2 U2 d2 s2 x2 hL2 aM r2 h2=>?_;obtain⟨xs,k1,l1,us,e1,q1,p1,h3⟩:=Zu (r1.mono x2 aG.lz) h2;obtain⟨ys,k2,l2,vs,e2,q2,p2,h4⟩:=Zu r2 h3;subst e1 e2;exact⟨k1,k2,l1,l2,us,vs,rfl,q1.sk,q2.sk,(h4.bC aM) _ (jH.zip aM.lz q1 q2 p1 p2)⟩
theorem zmT(hmg:X.mg "zip"=none)(qu:JK X "zip" .globalImplicit)(ha:JE X cA aq aj F EX a A)(hb:JE X cA aq aj F EX b B)(h1:aC a=true:=by rfl)(h2:aC b=true:=by rfl):JI X cA aq aj F EX (.Tuple elts kk tpos) (.Call (.Name "zip" p) [a,b] [] pos) (.zip A B):=⟨zli qu.o hmg ha.o hb.o (bf h1) (bf h2)⟩
end
noncomputable def FP(i:Int)(n:Nat):List V:=(List.range n).map λk=>.int (i+(k:Nat))
theorem zj5{i:Int}{acc:Array Value}:∀{n m:Nat},(∀k v,acc.toList[k]?=some (v:Value)->∃t,v=Value.int (i+((m+k:Nat):Int)) t)->acc.toList.length=n->Vals ((List.range n).map λk=>V.int (i+((m+k:Nat):Int))) acc.toList:=by
 generalize acc.toList=l
 induction l with
 |nil=>intro n m _ e;subst e;exact .nil
 |cons v l ih=>
  intro n m h e;subst e;rw[gW,O6,jk,GC];refine .cons (h 0 v rfl) ?_;have:=ih (n:=l.length) (m:=m+1) (λk v e=>by
   have:=h (k+1) v e;rw[show m+1+k=m+(k+1) by lia];exact this) rfl
  have e:((λk=>V.int (i+((m+k:Nat):Int)))∘Nat.succ)=λk=>V.int (i+((m+1+k:Nat):Int)):=by
   funext k
   show V.int (i+((m+(k+1):Nat):Int))=_;rw[show m+(k+1)=m+1+k by lia]
  rw[e];exact this
section
variable {K:W.Frag}{cA:Cl}{U:Ph}{H:Hp}
theorem Zv:∀l:List Nat,aB K cA U H (l.map λk=>D.int (i+(k:Nat))) (l.map λk=>V.int (i+(k:Nat)))
 |[]=>.nil
 |_::l=>.cons (.int _) (Zv l)
end
end Mi
namespace Mi
open PySem PySem.Spec PyProof.Rows L2 PySem.W
structure D3(K:Frag)(mg:Str->Option Value)(x:Str)(st:Stmt)(ps:List Str):Prop where
 f:oV K x x st (fV K x) (fdOf K x st)
 m:mg x=some (.ref (fV K x))
 b:Binds K (fdOf K x st) ps []
theorem dk{p:Prop}(h:p:=by decide +kernel):p:=h
section
variable {fs:List (Str×Stmt)}{ms:List uf}{xs:List (Nat×Str)}{lk:Lk}{K:Frag}{h:Heap}{mg:Str->Option Value}{x:Str}{st:Stmt}
theorem nu(S:oZ fs ms xs lk K)(X:K.In h)(G:h.Ns mainGlobals mg)(j:Nat)(hj:fs[j]?=some (x,st):=by rfl)(hb:∀(kV doc pm:Value) (an:Option Addr) (cdv ct a:Value),bindArgs (fnOf x x (aY st) (aJ st) (au st) .none kV doc pm an cdv ct) ⟨[a],[]⟩=pure [(p,a)]:=by intros;rfl):D3 K mg x st [p]:=have F:=S.fn (x,st) (gJ hj);⟨F.fn,F.m X G,yg F.fn hb⟩
theorem sX(S:oZ fs ms xs lk K)(X:K.In h)(G:h.Ns mainGlobals mg)(j:Nat)(hj:fs[j]?=some (x,st):=by rfl)(hb:∀(kV doc pm:Value) (an:Option Addr) (cdv ct a b:Value),bindArgs (fnOf x x (aY st) (aJ st) (au st) .none kV doc pm an cdv ct) ⟨[a,b],[]⟩=pure [(p,a),(q,b)]:=by intros;rfl):D3 K mg x st [p,q]:=have F:=S.fn (x,st) (gJ hj);⟨F.fn,F.m X G,yh F.fn hb⟩
theorem Nv(S:oZ fs ms xs lk K)(X:K.In h)(G:h.Ns mainGlobals mg)(j:Nat)(hj:fs[j]?=some (x,st):=by rfl)(hb:∀(kV doc pm:Value) (an:Option Addr) (cdv ct a b c:Value),bindArgs (fnOf x x (aY st) (aJ st) (au st) .none kV doc pm an cdv ct) ⟨[a,b,c],[]⟩=pure [(p,a),(q,b),(t,c)]:=by intros;rfl):D3 K mg x st [p,q,t]:=have F:=S.fn (x,st) (gJ hj);⟨F.fn,F.m X G,yj F.fn hb⟩
theorem zou(S:oZ fs ms xs lk K)(X:K.In h)(G:h.Ns mainGlobals mg)(j:Nat)(hj:fs[j]?=some (x,st):=by rfl)(hb:∀(kV doc pm:Value) (an:Option Addr) (cdv ct a b c d:Value),bindArgs (fnOf x x (aY st) (aJ st) (au st) .none kV doc pm an cdv ct) ⟨[a,b,c,d],[]⟩=pure [(p,a),(q,b),(t,c),(u,d)]:=by intros;rfl):D3 K mg x st [p,q,t,u]:=have F:=S.fn (x,st) (gJ hj);⟨F.fn,F.m X G,yp F.fn hb⟩
theorem mG{α:Type}{l:List α}{a:α}(j:Nat)(h:l[j]?=some a:=by rfl):a∈l:=gJ h
end
end Mi
namespace Mi
open PySem
def W{α:Type}(m:M α)(s:S)(P:α->S->Prop):Prop:=∃a s',m s=some (.ok a,s')/\P a s'
def WS(m:MS)(s:S)(Q:Out->S->Prop):Prop:=∃o s',m s=some (o,s')/\Q o s'
section
variable {α β:Type}{m:M α}{k:α->M β}{s:S}{P:α->S->Prop}{R:β->S->Prop}
theorem W.bd(h:W m s λa s'=>W (k a) s' R):W (M.bd m k) s R:=by
 obtain⟨a,s',e,b,s2,e2,r⟩:=h;exact⟨b,s2,by unfold M.bd;rw[e];exact e2,r⟩
theorem W.ret{a:α}(h:P a s):W (M.ret a) s P:=⟨a,s,rfl,h⟩
theorem W.qt(h:W m s P):W (M.qt m) s P:=by
 obtain⟨a,s',e,p⟩:=h;exact⟨a,s',by unfold M.qt;rw[e],p⟩
theorem W.opt(e:o=some a)(h:P a s):W (M.opt o) s P:=by subst e;exact⟨a,s,rfl,h⟩
theorem W.imp{P':α->S->Prop}(h:W m s P)(f:∀a s',P a s'->P' a s'):W m s P':=let ⟨a,s',e,p⟩:=h;⟨a,s',e,f a s' p⟩
theorem W.eq(e:m s=some (.ok a,s'))(p:P a s'):W m s P:=⟨a,s',e,p⟩
theorem KaZ{d:D}{P:D->S->Prop}(h:P d s):W (rd (.d d)) s P:=⟨d,s,rfl,h⟩
theorem Zw{n:Nat}{xs:List D}{P:D->S->Prop}(e:s[n]?=some (.lst xs))(h:P (.fl xs) s):W (rd (.l n)) s P:=⟨.fl xs,s,by unfold rd;simp only[e],h⟩
theorem Ka2{P:List D->S->Prop}(h:P [] s):W (g8 []) s P:=⟨[],s,rfl,h⟩
theorem Ka1{x:Xv}{r:List Xv}{P:List D->S->Prop}(h:W (rd x) s λd s1=>W (g8 r) s1 λds s2=>P (d::ds) s2):W (g8 (x::r)) s P:=W.bd (h.imp λd s1 h1=>W.bd (h1.imp λds s2 h2=>W.ret h2))
theorem Kav{P:List D->S->Prop}(h:P [] s):W (cL []) s P:=⟨[],s,rfl,h⟩
theorem Kau{d:D}{r:List Xv}{P:List D->S->Prop}(h:W (cL r) s λds s2=>P (d::ds) s2):W (cL (.d d::r)) s P:=W.bd (W.ret (W.bd (h.imp λds s2 h2=>W.ret h2)))
theorem W.dat{x:D}{P:D->S->Prop}(h:P x s):W (dat (.d x)) s P:=⟨x,s,rfl,h⟩
theorem W.bool{b:Bool}{P:Bool->S->Prop}(h:P b s):W (bool (.d (.bl b))) s P:=⟨b,s,rfl,h⟩
theorem W.int{b:Int}{P:Int->S->Prop}(h:P b s):W (int (.d (.int b))) s P:=⟨b,s,rfl,h⟩
theorem mC{fz:Bool}{o:Option Rz}{d:D}{P:Xv->S->Prop}(e:o=some (.dat d))(h:P (.d d) s):W (cI fz o) s P:=by subst e;exact⟨_,s,rfl,h⟩
theorem Tn{o:Option Rz}{xs:List D}{P:Xv->S->Prop}(e:o=some (.nw xs))(h:P (.d (.fl xs)) s):W (cI true o) s P:=by subst e;exact⟨_,s,rfl,h⟩
theorem KaP{xs:List D}{P:Xv->S->Prop}(h:P (.d (.fl xs)) s):W (newL true xs) s P:=⟨_,s,rfl,h⟩
theorem KaO{xs:List D}{P:Xv->S->Prop}(h:P (.l s.length) (s++[.lst xs])):W (newL false xs) s P:=⟨_,_,rfl,h⟩
theorem vo{F:List Xv->M Xv}{xs:List Xv}{P:Xv->S->Prop}(hl:locs xs=[])(h:W (F (dz 0 xs)) [] λv _=>∃d,v=.d d/\P (.d d) s):W (bU F xs) s P:=by
 obtain⟨v,s1,e,d,rfl,p⟩:=h;refine⟨.d d,s,?_,p⟩;unfold bU;rw[hl,if_pos Ao];simp only[iI,e,dB]
theorem Kan{F:List Xv->M Xv}{xs:List Xv}{P:Xv->S->Prop}(hl:locs xs=[])(h:W (F (dz 0 xs)) [] λv s1=>∃n o,v=.l n/\s1[n]?=some o/\P (.l s.length) (s++[o])):W (bU F xs) s P:=by
 obtain⟨v,s1,e,n,o,rfl,eo,p⟩:=h;refine⟨.l s.length,s++[o],?_,p⟩;unfold bU;rw[hl,if_pos Ao];simp only[iI,e,dB,List.getElem?_nil,eo]
theorem Zx{F:List Xv->M Xv}{xs:List Xv}{n:Nat}{o:SO}{P:Xv->S->Prop}(hl:locs xs=[n])(ho:s[n]?=some o)(h:W (F (dz 0 xs)) [o] λv s1=>∃d o',v=.d d/\s1=[o']/\P (.d d) (s.set n o')):W (bU F xs) s P:=by
 obtain⟨v,s1,e,d,o',rfl,rfl,p⟩:=h;refine⟨.d d,s.set n o',?_,p⟩;unfold bU;rw[hl,if_pos Zaa];simp only[iI,ho,e,dB]
end
section
variable {s:S}{Q:Out->S->Prop}
theorem WS.ofM(h:W m s λa s'=>WS (k a) s' Q):WS (Mi.ofM m J k) s Q:=by
 obtain⟨a,s',e,o,s2,e2,q⟩:=h;exact⟨o,s2,by unfold Mi.ofM;rw[e];exact e2,q⟩
theorem WS.nx(h:Q (.nx J) s):WS (λs=>some (.nx J,s)) s Q:=⟨_,s,rfl,h⟩
theorem WS.rt(h:Q (.rt x) s):WS (λs=>some (.rt x,s)) s Q:=⟨_,s,rfl,h⟩
end
theorem W.call(hT:T f=some d)(hl:xs.length=d.eU)
  (h:WS (exs aq aj (λc=>Mi.call aq T k c) d.body (xs.map some++List.replicate (d.many-d.eU) none)) s λo s'=>match o with|.nx _=>P (.d .non) s'|.rt v=>P v s'|_=>False):W (Mi.call aq T (k+1) aj f xs) s P:=by
 obtain⟨o,s',e,q⟩:=h;unfold Mi.call;simp only[hT,if_pos hl];unfold W;simp only[e];cases o with
 |nx J=>exact⟨_,_,rfl,q⟩
 |rt v=>exact⟨_,_,rfl,q⟩
 |bk J=>exact q.elim
 |ct J=>exact q.elim
 |er c fs J=>exact q.elim
theorem Ny(I:Nat->Vs->S->Prop)(h0:I 0 J s)(hb:∀i x J s,c[i]?=some x->I i J s->WS (b x J) s λo s'=>∃J',o=.nx J'/\I (i+1) J' s')
  (he:∀J s,I c.length J s->Q (.nx J) s):WS (cM (.fix c) b (c.length+1) 0 J) s Q:=by
 have key:∀n i J s,i+n=c.length->I i J s->WS (cM (.fix c) b (n+1) i J) s Q:=by
  intro n
  induction n with
  |zero=>
   intro i J s hi hI;have e:c[i]?=none:=by rw[qG];lia
   have:i=c.length:=by lia
   subst this;refine⟨_,s,?_,he J s hI⟩;unfold cM;simp only[Src.at,e]
  |succ n ih=>
   intro i J s hi hI;have cJ:i<c.length:=by lia
   have e:c[i]?=some c[i]:=fj cJ;obtain⟨o,s',eb,J',rfl,J7⟩:=hb i c[i] J s e hI;obtain⟨o2,s2,e2,q⟩:=ih (i+1) J' s' gV J7;refine⟨o2,s2,?_,q⟩;unfold cM;simp only[Src.at,e,eb];exact e2
 exact key c.length 0 J s gV h0
theorem znw{i j:Int}(h:(-(2^64)<i/\i<2^64)\/(-(2^64)<j/\j<2^64)):prim .mul [.int i,.int j]=some (.dat (.int (i*j))):=by
 show Option.map _ (if _ then _ else _)=_;rw[if_pos h];rfl
theorem znf{i j:Int}(h:0<j):prim .mod [.int i,.int j]=some (.dat (.int (i%j))):=by
 show Option.map _ (if _ then _ else _)=_;rw[if_pos h];rfl
theorem zmn{i j:Int}(h:0<j/\j<1073741824):prim .fdiv [.int i,.int j]=some (.dat (.int (i/j))):=by
 show Option.map _ (if _ then _ else _)=_;rw[if_pos h];rfl
theorem zhY{i j:Int}(h:0<j/\j<1073741824):prim .divmod [.int i,.int j]=some (.dat (.tup [.int (i/j),.int (i%j)])):=by
 show Option.map _ (if _ then _ else _)=_;rw[if_pos h];rfl
theorem zm6{i j:Int}(h:0<=j/\j<=1000000/\i.natAbs<2^64):prim .pow [.int i,.int j]=some (.dat (.int (i^j.toNat))):=by
 show Option.map _ (if _ then _ else _)=_;rw[if_pos h];rfl
theorem Zy{xs:List D}{i:Nat}{x:D}(h:xs[i]?=some x):prim .ix [.fl xs,.int i]=some (.dat x):=by
 show Option.map Rz.dat (L2.qQ xs i)=_;have:L2.qQ xs (i:Int)=some x:=by
  unfold L2.qQ L2.rW;have hl:i<xs.length:=(fX.mp h).1;simp[hl];exact(fX.mp h).2
 rw[this];rfl
theorem zmy(h:xs.length+ys.length<=sizeLine):prim .add [.fl xs,.fl ys]=some (.nw (xs++ys)):=by
 show (if _ then _ else _)=_;rw[if_pos h]
theorem W.ite[Decidable c](h1:c->W m1 s P)(h2:¬c->W m2 s P):W (if c then m1 else m2) s P:=by
 by_cases h:c
 ·rw[if_pos h];exact h1 h
 ·rw[if_neg h];exact h2 h
theorem WS.ite[Decidable c](h1:c->WS m1 s P)(h2:¬c->WS m2 s P):WS (if c then m1 else m2) s P:=by
 by_cases h:c
 ·rw[if_pos h];exact h1 h
 ·rw[if_neg h];exact h2 h
theorem Tq{n:Nat}{xs:List D}{s:S}{P:Unit->S->Prop}(h:P () (s.set n (.lst xs))):W (putL n xs) s P:=⟨_,_,rfl,h⟩
theorem W.dh{n:Nat}{xs:List D}{s:S}{P:Nat×List D->S->Prop}(e:s[n]?=some (.lst xs))(h:P (n,xs) s):W (dh (.l n)) s P:=⟨_,s,by unfold Mi.dh;simp only[e],h⟩
theorem Ka4{xs:List D}{s:S}{P:Src×Nat->S->Prop}(h:P (.fix xs,xs.length) s):W (src (.d (.tup xs))) s P:=⟨_,s,rfl,h⟩
theorem Ka3{xs:List D}{s:S}{P:Src×Nat->S->Prop}(h:P (.fix xs,xs.length) s):W (src (.d (.fl xs))) s P:=⟨_,s,rfl,h⟩
theorem WS.nil{aq:Nat->Nat->Bool}{aj:Bool}{F:Bool->Fn}{J:Vs}{s:S}{Q:Out->S->Prop}(h:Q (.nx J) s):WS (exs aq aj F .nil J) s Q:=⟨_,s,rfl,h⟩
theorem WS.cons{aq:Nat->Nat->Bool}{aj:Bool}{F:Bool->Fn}{a:St}{r:cB}{J:Vs}{s:S}{Q:Out->S->Prop}(h:WS (ex aq aj F a J) s λo s'=>match o with|.nx J'=>WS (exs aq aj F r J') s' Q|.rt x=>Q (.rt x) s'|_=>False):WS (exs aq aj F (.cons a r) J) s Q:=by
 obtain⟨o,s',e,q⟩:=h;unfold WS exs Mi.bO;rw[e];cases o with
 |nx J'=>exact q
 |rt x=>exact⟨_,_,rfl,q⟩
 |bk _=>exact q.elim
 |ct _=>exact q.elim
 |er _ _ _=>exact q.elim
def yr{α:Type}(o:Option α)(P:α->Prop):Prop:=∃a,o=some a/\P a
theorem yr.mk{α:Type}{o:Option α}{P:α->Prop}{a:α}(e:o=some a)(h:P a):yr o P:=⟨a,e,h⟩
section
variable {aq:Nat->Nat->Bool}{aj:Bool}{F:Fn}{J:Vs}{s:S}{P:Xv->S->Prop}
theorem W.eC{d:D}(h:P (.d d) s):W (ev aq aj F (.c d) J) s P:=W.ret h
theorem W.eV{i:Nat}{x:Xv}(e:J[i]?.join=some x)(h:P x s):W (ev aq aj F (.v i) J) s P:=W.opt e h
theorem Zz{fz:Bool}{p:Pr}{xs:Es}(h:W (evs aq aj F xs J) s λvs s1=>W (g8 vs) s1 λds s2=>W (cI fz (prim p ds)) s2 P):W (ev aq aj F (.pr fz p xs) J) s P:=W.bd (h.imp λ_ _ h=>W.bd h)
theorem Kaw{a b:E}(h:W (ev aq aj F a J) s λx s1=>W (Mi.bool x) s1 λk s2=>W (if k=true then ev aq aj F b J else M.ret (.d (.bl false))) s2 P):W (ev aq aj F (.and a b) J) s P:=W.bd (h.imp λ_ _ h=>W.bd h)
theorem KaE{a b:E}(h:W (ev aq aj F a J) s λx s1=>W (Mi.bool x) s1 λk s2=>W (if k=true then M.ret (.d (.bl true)) else ev aq aj F b J) s2 P):W (ev aq aj F (.or a b) J) s P:=W.bd (h.imp λ_ _ h=>W.bd h)
theorem KaD{a:E}(h:W (ev aq aj F a J) s λx s1=>W (Mi.bool x) s1 λk s2=>P (.d (.bl (!k))) s2):W (ev aq aj F (.not a) J) s P:=W.bd (h.imp λ_ _ h=>W.bd (h.imp λ_ _ h=>W.ret h))
theorem KaH{xs:Es}(h:W (evs aq aj F xs J) s λvs s1=>W (cL vs) s1 λds s2=>P (.d (.tup ds)) s2):W (ev aq aj F (.tup xs) J) s P:=W.bd (h.imp λ_ _ h=>W.bd (h.imp λ_ _ h=>W.ret h))
theorem KaC{fz:Bool}{xs:Es}(h:W (evs aq aj F xs J) s λvs s1=>W (cL vs) s1 λds s2=>W (newL fz ds) s2 P):W (ev aq aj F (.lst fz xs) J) s P:=W.bd (h.imp λ_ _ h=>W.bd h)
theorem Kaz{k:Str}{i:Int}(h:P (.d (.fd [.str k] [.int i])) s):W (ev aq aj F (.BX k i) J) s P:=W.ret h
theorem ZC{f:Nat}{xs:Es}(h:W (evs aq aj F xs J) s λvs s1=>W (bU (F f) vs) s1 P):W (ev aq aj F (.call f xs) J) s P:=W.bd h
theorem KaG{fz:Bool}{a:E}{lo hi:Eo}(h:W (ev aq aj F a J) s λx s1=>W (tQ aq aj F lo J) s1 λl s2=>W (tQ aq aj F hi J) s2 λu s3=>W (rd x) s3 λd s4=>W (cI fz (cutD d l u)) s4 P):W (ev aq aj F (.sl fz a lo hi) J) s P:=W.bd (h.imp λ_ _ h=>W.bd (h.imp λ_ _ h=>W.bd (h.imp λ_ _ h=>W.bd h)))
theorem KaQ{P:Option Int->S->Prop}(h:P none s):W (tQ aq aj F .no J) s P:=W.ret h
theorem KaR{a:E}{P:Option Int->S->Prop}(h:W (ev aq aj F a J) s λx s1=>W (Mi.int x) s1 λi s2=>P (some i) s2):W (tQ aq aj F (.yes a) J) s P:=W.bd (h.imp λ_ _ h=>W.bd (h.imp λ_ _ h=>W.ret h))
theorem Kaj{P:List Xv->S->Prop}(h:P [] s):W (evs aq aj F .nil J) s P:=W.ret h
theorem ZD{a:E}{r:Es}{P:List Xv->S->Prop}(h:W (ev aq aj F a J) s λx s1=>W (evs aq aj F r J) s1 λxs s2=>P (x::xs) s2):W (evs aq aj F (.cons a r) J) s P:=W.bd (h.imp λ_ _ h=>W.bd (h.imp λ_ _ h=>W.ret h))
theorem KaM{a:E}{P:Src×Nat->S->Prop}(h:W (ev aq aj F a J) s λx s1=>W (src x) s1 P):W (gF aq aj F (.seq a) J) s P:=W.bd h
end
section
variable {aq:Nat->Nat->Bool}{aj:Bool}{F:Bool->Fn}{J:Vs}{s:S}{Q:Out->S->Prop}
theorem WS.Tr{b:Bool}{m1 m2:MS}(e:b=true)(h:WS m1 s Q):WS (if b=true then m1 else m2) s Q:=by rw[if_pos e];exact h
theorem WS.Tt{b:Bool}{m1 m2:MS}(e:b=false)(h:WS m2 s Q):WS (if b=true then m1 else m2) s Q:=by rw[if_neg (by rw[e];decide)];exact h
theorem WS.zY{m1 m2:MS}(h:WS m1 s Q):WS (if true=true then m1 else m2) s Q:=by rw[if_pos rfl];exact h
theorem WS.Tv{m1 m2:MS}(h:WS m2 s Q):WS (if false=true then m1 else m2) s Q:=by rw[if_neg Ro];exact h
theorem Kba{e:E}(h:W (ev aq aj (F aj) e J) s λ_ s1=>Q (.nx J) s1):WS (ex aq aj F (.ex e) J) s Q:=WS.ofM (h.imp λ_ _ h=>WS.nx h)
theorem ZF{i:Nat}{e:E}(h:W (ev aq aj (F aj) e J) s λx s1=>Q (.nx (J.set i (some x))) s1):WS (ex aq aj F (.asg (.nm i) e) J) s Q:=WS.ofM (h.imp λ_ _ h=>WS.nx h)
theorem Kbi{is:List Nat}{e:E}(h:W (ev aq true (F true) e J) s λx s1=>W (dat x) s1 λd s2=>yr ((j9 d).bind λds=>gB is (ds.map .d) J) λJ'=>Q (.nx J') s2):WS (ex aq true F (.asg (.tp is) e) J) s Q:=by
 refine WS.ofM (h.imp λx s1 h=>?_);exact WS.zY (m2:=λ_=>none) (WS.ofM (W.bd (h.imp λd s2 ⟨J',e,q⟩=>W.opt e (WS.nx q))))
theorem Kbh{o i e:E}(h:W (ev aq aj (F aj) e J) s λx s1=>W (dat x) s1 λd s2=>W (ev aq aj (F aj) o J) s2 λy s3=>W (ev aq aj (F aj) i J) s3 λz s4=>W (Mi.int z) s4 λj s5=>W (dh y) s5 λnx s6=>yr (L2.rW nx.2.length j) λq=>Q (.nx J) (s6.set nx.1 (.lst (nx.2.set q d)))):WS (ex aq aj F (.asg (.aq o i) e) J) s Q:=by
 refine WS.ofM (h.imp λx s1 h=>WS.ofM (W.bd (h.imp λd s2 h=>W.bd (h.imp λy s3 h=>W.bd (h.imp λz s4 h=>W.bd (h.imp λj s5 h=>W.bd (h.imp λnx s6 h=>?_)))))));obtain⟨q,e,h⟩:=h;simp only[e];exact Tq (WS.nx h)
theorem Kbe{i j:Nat}{a b:E}(h:W (ev aq true (F true) a J) s λx s1=>W (ev aq true (F true) b J) s1 λy s2=>Q (.nx ((J.set i (some x)).set j (some y))) s2):WS (ex aq true F (.par i j a b) J) s Q:=by
 exact WS.zY (m2:=λ_=>none) (WS.ofM (W.bd (h.imp λx s1 h=>W.bd (h.imp λy s2 h=>W.ret (WS.nx h)))))
theorem ZG{e:E}(h:W (ev aq aj (F aj) e J) s λx s1=>Q (.rt x) s1):WS (ex aq aj F (.ret e) J) s Q:=WS.ofM (h.imp λ_ _ h=>WS.rt h)
theorem ZJ{c:E}{t e:cB}(h:W (ev aq aj (F aj) c J) s λx s1=>W (Mi.bool x) s1 λb s2=>WS (if b=true then exs aq aj F t J else exs aq aj F e J) s2 Q):WS (ex aq aj F (.iff c t e) J) s Q:=WS.ofM (W.bd h)
theorem Kbb{t:Tg}{w:Wk}{b:cB}(h:W (gF aq true (F true) w J) s λcn s1=>WS (cM cn.1 (λd J=>Mi.bO (store aq true (F true) t (.d d) J) λJ'=>exs aq true F b J') (cn.2+1) 0 J) s1 Q):WS (ex aq true F (.fr t w b) J) s Q:=by
 exact WS.zY (m2:=λ_=>none) (WS.ofM h)
end
theorem W.Tr{α:Type}{b:Bool}{m1 m2:M α}{s:S}{P:α->S->Prop}(e:b=true)(h:W m1 s P):W (if b=true then m1 else m2) s P:=by rw[if_pos e];exact h
theorem W.Tt{α:Type}{b:Bool}{m1 m2:M α}{s:S}{P:α->S->Prop}(e:b=false)(h:W m2 s P):W (if b=true then m1 else m2) s P:=by rw[if_neg (by rw[e];decide)];exact h
theorem W.zY{α:Type}{m1 m2:M α}{s:S}{P:α->S->Prop}(h:W m1 s P):W (if true=true then m1 else m2) s P:=by rw[if_pos rfl];exact h
theorem W.Tv{α:Type}{m1 m2:M α}{s:S}{P:α->S->Prop}(h:W m2 s P):W (if false=true then m1 else m2) s P:=by rw[if_neg Ro];exact h
structure Bx(R:Prop):Prop where
 o:R
end Mi
namespace Mi
open PySem PySem.W PyProof.Rows L2
def sY{α:Type}(lt:Nat->Nat->Option Bool)(t:KasT α)(P:α->Prop):Prop:=∃a,bF lt t=some a/\P a
section
variable {α β:Type}{lt:Nat->Nat->Option Bool}{n:Nat}
theorem sY.ret(h:P a):sY lt (.ret a) P:=⟨a,rfl,h⟩
theorem sY.bind(hf:∀a,P a->sY lt (f a) R):∀{t:KasT α},sY lt t P->sY lt (t.bind f) R
 |.ret a,⟨a',e,h⟩=>by cases e;exact hf _ h
 |.ask i j k,⟨a',e,h⟩=>by
  unfold bF at e;cases el:lt i j with
  |none=>rw[el] at e;cases e
  |some b=>
   rw[el] at e;obtain⟨c,e1,h1⟩:=sY.bind hf (t:=k b) ⟨a',e,h⟩;refine⟨c,?_,h1⟩;show bF lt (.ask i j λb=>(k b).bind f)=some c;unfold bF;rw[el];exact e1
def Tot(n:Nat)(lt:Nat->Nat->Option Bool):Prop:=∀i j,i<n->j<n->∃b,lt i j=some b
variable (ht:Tot n lt)(hn:0<n)
include ht hn
end
section
variable {lt:Nat->Nat->Option Bool}{n:Nat}
theorem ZK(h:∀k,1<=k->k<n->lt (p.getD k 0) (p.getD (k-1) 0)=some false):∀f k,1<=k->k+f=n->sY lt (kas_asc p f k) λr=>r=n
 |0,k,h1,e=>.ret gV
 |f+1,k,h1,e=>by
  obtain⟨a,e1,e2⟩:=ZK h f (k+1) gV gV;refine⟨a,?_,e2⟩;unfold kas_asc bF;rw[h k h1 gV];exact e1
theorem ZL(hk:k<n):(List.range n).toArray.getD k 0=k:=by
 simp[Array.getD,hk]
theorem zgH(hn:0<n)(h:∀k,k+1<n->lt (k+1) k=some false):bF lt (kas_sort n)=some (List.range n).toArray:=by
 have h1:sY lt (kas_asc (List.range n).toArray (n-1) 1) λr=>r=n:=ZK (λk a b=>by
  rw[ZL b,ZL gV];have:=h (k-1) gV
  rwa [show k-1+1=k by lia] at this) _ _ (cj _) gV
 have h2:sY lt (kas_count n (List.range n).toArray) λr=>r=(n,(List.range n).toArray):=by
  refine sY.bind (λr hr=>?_) h1;subst hr;rw[if_pos Zaa];exact .ret rfl
 have h3:sY lt (kas_sort n) λr=>r=(List.range n).toArray:=by
  refine sY.bind (λr hr=>?_) h2;subst hr;rw[if_neg (pJ _)];exact .ret rfl
 obtain⟨a,e,rfl⟩:=h3;exact e
end
theorem zhZ(hk:(xs.all j8||xs.all jd)=true)(nM:xs.length<64)(h:∀k,k+1<xs.length->zA xs (k+1) k=some false):zB xs=some xs:=by
 unfold zB;rw[if_pos hk];unfold jo;by_cases h2:xs.length<2
 ·rw[if_pos h2]
 ·rw[if_neg h2,if_pos nM,zgH gV h];dsimp only;rw[if_pos Zaa]
  congr 1
  apply List.ext_getElem
  ·simp
  ·intro i a b;simp[mD,b]
noncomputable def lB(p:Int×Int):D:=.tup [.int p.1,.int p.2]
end Mi
namespace Mi
open PySem
theorem W.walk{c:List D}{f:D->List D->M (List D)}{s:S}{acc:List D}{P:List D->S->Prop}(I:Nat->List D->S->Prop)(h0:I 0 acc s)(hb:∀i x acc s,c[i]?=some x->I i acc s->W (f x acc) s λa s'=>I (i+1) a s')
  (he:∀acc s,I c.length acc s->P acc s):W (Mi.walk (.fix c) f (c.length+1) 0 acc) s P:=by
 have key:∀n i acc s,i+n=c.length->I i acc s->W (Mi.walk (.fix c) f (n+1) i acc) s P:=by
  intro n
  induction n with
  |zero=>
   intro i acc s hi hI;have e:c[i]?=none:=by rw[qG];lia
   have:i=c.length:=by lia
   subst this;refine⟨acc,s,?_,he acc s hI⟩;unfold Mi.walk;simp only[Src.at,e]
  |succ n ih=>
   intro i acc s hi hI;have cJ:i<c.length:=by lia
   have e:c[i]?=some c[i]:=fj cJ;obtain⟨a,s',eb,J7⟩:=hb i c[i] acc s e hI;obtain⟨a2,s2,e2,q⟩:=ih (i+1) a s' gV J7;refine⟨a2,s2,?_,q⟩;unfold Mi.walk;simp only[Src.at,e,M.bd,eb];exact e2
 exact key c.length 0 acc s gV h0
section
variable {aq:Nat->Nat->Bool}{F:Fn}{J:Vs}{s:S}{P:Xv->S->Prop}
theorem Kar{fz:Bool}{elt:E}{tg:List Nat}{it:Wk}{fr:List Nat}{many:Nat}{cond:Eo}{c:List D}(g:D->Option D)(hc:c.length<=sizeLine)
  (hw:W (gF aq true F it J) s λcn s1=>cn=(.fix c,c.length)/\s1=s)
  (hb:∀x∈c,∃J',fD tg x (blk many fr J)=some J'/\W (lZ aq true F cond J') s λb s1=>s1=s/\(if b=true then W (ev aq true F elt J') s λy s2=>s2=s/\∃d,y=.d d/\g x=some d else g x=none))
  (h:W (newL fz (c.filterMap g)) s P):W (ev aq true F (.comp fz elt tg it fr many cond) J) s P:=by
 change W (_root_.ite (true=true) _ _) s P
 rw[if_pos rfl];refine W.bd (hw.imp λcn s1=>?_);rintro⟨rfl,rfl⟩;refine W.bd ?_;refine W.walk (c:=c) (λi acc s'=>s'=s1/\acc=(c.take i).filterMap g) ⟨rfl,rfl⟩ (λi x acc s' e hI=>?_) (λacc s' hI=>?_)
 ·obtain⟨rfl,rfl⟩:=hI;have hi:i<c.length:=(fX.mp e).1;have ht:c.take (i+1)=c.take i++[x]:=by rw[List.take_succ,e];rfl
  have hl:((c.take i).filterMap g).length<sizeLine:=Dz (OJ _ _) (by rw[Ah];lia);obtain⟨J',e1,h1⟩:=hb x (gJ e);refine W.bd (W.opt e1 ?_);refine W.bd (W.qt (h1.imp λb s2=>?_));rintro⟨rfl,h2⟩;rw[ht,List.filterMap_append];cases b
  ·rw[if_neg Ro] at h2 ⊢;refine W.ret ⟨rfl,?_⟩;simp[h2]
  ·rw[if_pos rfl] at h2 ⊢;refine W.bd (W.qt (h2.imp λy s3=>?_));rintro⟨rfl,d,rfl,eg⟩;refine W.bd (W.dat ?_);rw[if_pos hl];refine W.ret ⟨rfl,?_⟩;simp[eg]
 ·obtain⟨rfl,rfl⟩:=hI;rw[Gv];exact h
end
section
variable {aq:Nat->Nat->Bool}{aj:Bool}{F:Fn}{J:Vs}{s:S}{P:Xv->S->Prop}
theorem KaA(h:W (ev aq aj F a J) s λx s1=>W (rd x) s1 λd s2=>∃b,lW aq d k=some b/\P (.d (.bl b)) s2):W (ev aq aj F (.mX a k) J) s P:=
 W.bd (h.imp λ_ _ h=>W.bd (h.imp λ_ _ ⟨_,e,h⟩=>W.bd (W.opt e (W.ret h))))
theorem Kay(h:W (ev aq aj F a J) s λx s1=>W (ev aq aj F b J) s1 λy s2=>W (g8 [x,y]) s2 λds s3=>W (cI true (prim p ds)) s3 λt s4=>W (Mi.bool t) s4 λk s5=>
  W (if k=true then M.bd (ev aq aj F c J) λz=>M.bd (g8 [y,z]) λds=>cI true (prim q ds) else M.ret (.d (.bl false))) s5 P):W (ev aq aj F (.xK p q a b c) J) s P:=
 W.bd (h.imp λ_ _ h=>W.bd (h.imp λ_ _ h=>W.bd (h.imp λ_ _ h=>W.bd (h.imp λ_ _ h=>W.bd h))))
end
noncomputable def J8(fz:Bool):Option Rz->Option Xv
 |some (.dat d)=>some (.d d)
 |some (.nw ys)=>match fz with
  |true=>some (.d (.fl ys))
  |false=>none
 |none=>none
noncomputable def addQ:D->D->Option Rz
 |.int i,.int j=>some (.dat (.int (i+j)))
 |_,_=>none
noncomputable def zZ:List D->Option Rz
 |a::r=>match r with
  |b::r=>match r with
   |[]=>addQ a b
   |_::_=>none
  |[]=>none
 |[]=>none
noncomputable def quick:Pr->Bool
 |.su=>false|.Ey=>false|.mul=>false|.fdiv=>false|.mod=>false|.pow=>false|.divmod=>false|.sorted=>false|.qU=>false|.Iz=>false|.mult=>false|.zx=>false|.repr=>false|.str1=>false|.XQ=>false|.Iv=>false|.Iw=>false
 |_=>true
noncomputable def rB(p:Pr)(ds:List D):Option Rz:=match p with
 |.add=>zZ ds
 |p=>match quick p with
  |true=>prim p ds
  |false=>none
theorem J9{ds:List D}{r:Rz}(h:zZ ds=some r):B_ ds=some r:=by
 cases ds with
 |nil=>cases h
 |cons a t=>cases t with
  |nil=>cases h
  |cons b t=>cases t with
   |cons _ _=>cases h
   |nil=>cases a with
    |int i=>cases b with
     |int j=>exact h
     |_=>cases h
    |_=>cases h
theorem CZ{p:Pr}{ds:List D}{r:Rz}(h:rB p ds=some r):prim p ds=some r:=by
 cases p with
 |add=>exact J9 h
 |_=>first|exact h|cases h
noncomputable def Tw(fz:Bool)(ds:List D):Option Xv:=match fz with
 |true=>some (.d (.fl ds))
 |false=>none
noncomputable def J_:Xv->Option D
 |.d x=>some x
 |.l _=>none
noncomputable def obP(c:Nat):Xv->Option (List D)
 |.d (.ob e fs)=>if e=c then some fs else none
 |_=>none
noncomputable def notP:Xv->Option Xv
 |.d (.bl b)=>some (.d (.bl (!b)))
 |_=>none
noncomputable def Tz(r:Option Xv):Xv->Option Xv
 |.d (.bl true)=>r
 |.d (.bl false)=>some (.d (.bl false))
 |_=>none
noncomputable def orP(r:Option Xv):Xv->Option Xv
 |.d (.bl true)=>some (.d (.bl true))
 |.d (.bl false)=>r
 |_=>none
section
variable (aq:Nat->Nat->Bool)
mutual
noncomputable def dJ:E->Vs->Option Xv
 |.c d,_=>some (.d d)
 |.v i,J=>J[i]?.join
 |.pr fz p xs,J=>(qD xs J).bind λds=>J8 fz (rB p ds)
 |.tup xs,J=>(qD xs J).bind λds=>some (.d (.tup ds))
 |.lst fz xs,J=>(qD xs J).bind λds=>Tw fz ds
 |.not a,J=>(dJ a J).bind notP
 |.and a b,J=>(dJ a J).bind (Tz (dJ b J))
 |.or a b,J=>(dJ a J).bind (orP (dJ b J))
 |.mX a k,J=>(dJ a J).bind λx=>(J_ x).bind λd=>(lW aq d k).bind λb=>some (.d (.bl b))
 |.of o c i,J=>(dJ o J).bind λx=>(obP c x).bind λfs=>fs[i]?.map .d
 |_,_=>none
noncomputable def qD:Es->Vs->Option (List D)
 |.nil,_=>some []
 |.cons a r,J=>(dJ a J).bind λx=>(J_ x).bind λd=>(qD r J).bind λds=>some (d::ds)
end
noncomputable def o7:Es->Vs->Option (List Xv)
 |.nil,_=>some []
 |.cons a r,J=>(dJ aq a J).bind λx=>(o7 r J).bind λxs=>some (x::xs)
end
theorem nA{α β:Type}{o:Option α}{f:α->Option β}{b:β}(h:o.bind f=some b):∃a,o=some a/\f a=some b:=yK.mp h
theorem jw{α β:Type}{m:M α}{k:α->M β}{s s':S}{a:α}(e:m s=some (.ok a,s')):M.bd m k s=k a s':=by
 show (match m s with|some (.ok a,s')=>k a s'|some (.er c f,s')=>some (.er c f,s')|none=>none)=_;rw[e]
theorem C_(s:S):∀ds:List D,g8 (ds.map .d) s=some (.ok ds,s)
 |[]=>rfl
 |d::r=>(jw (s':=s) (a:=d) rfl).trans ((jw (C_ s r)).trans rfl)
theorem vp(s:S):∀ds:List D,cL (ds.map .d) s=some (.ok ds,s)
 |[]=>rfl
 |d::r=>(jw (s':=s) (a:=d) rfl).trans ((jw (vp s r)).trans rfl)
theorem TF{fz:Bool}{p:Pr}{ds:List D}{x:Xv}{s:S}(h:J8 fz (rB p ds)=some x):cI fz (prim p ds) s=some (.ok x,s):=by
 cases o:rB p ds with
 |none=>rw[o] at h;cases h
 |some r=>
  rw[o] at h;rw[CZ o];cases r with
  |dat d=>cases h;rfl
  |nw ys=>cases fz with
   |true=>cases h;rfl
   |false=>cases h
section
variable {aq:Nat->Nat->Bool}{aj:Bool}{F:Fn}{J:Vs}{s:S}
theorem gQ(e:E):∀x:Xv,dJ aq e J=some x->ev aq aj F e J s=some (.ok x,s):=by
 refine E.rec (motive_1:=λe=>∀x:Xv,dJ aq e J=some x->ev aq aj F e J s=some (.ok x,s)) (motive_2:=λ_=>True) (motive_3:=λxs=>∀ds:List D,qD aq xs J=some ds->evs aq aj F xs J s=some (.ok (ds.map .d),s)) (motive_4:=λ_=>True)
  ?c ?v ?pr (λ_ _ _ _ _ _ _ _ _ h=>nomatch h) (λ_ _ _ _ _ _ _ _ _ _ _ _ h=>nomatch h) ?and ?or ?not (λ_ _ _ _ _ _ _ h=>nomatch h) ?tup ?lst (λ_ _ _ h=>nomatch h) (λ_ _ _ _ h=>nomatch h) ?mX (λ_ _ _ _ _ _ _ _ h=>nomatch h) (λ_ _ _ _ _ _ _ _ h=>nomatch h) (λ_ _ _ _ _ h=>nomatch h) (λ_ _ _ h=>nomatch h)
  (λ_ _ _ _ _ _ _ _ _ _ _ h=>nomatch h) (λ_ _ _ _ _ _ _ _ _ _ _ _ _ _ h=>nomatch h) (λ_ _ _ _ _ h=>nomatch h) ?of (λ_ _ _ _ _ h=>nomatch h) (λ_ _ _ _ _ _ _ h=>nomatch h) (λ_ h=>nomatch h) (λ_ _ _ _ _ _ h=>nomatch h) (λ_ _ _ _ _ h=>nomatch h) (λ_ _ _ h=>nomatch h) (λ_ _ _ _ _ _ h=>nomatch h) (λ_ _ _ _ _ h=>nomatch h) (λ_ _ _ _ _ _ _ h=>nomatch h) (λ_ h=>nomatch h)
  (λ_ _=>trivial) (λ_ _ _ _=>trivial) (λ_ _ _ _=>trivial) (λ_ _=>trivial) (λ_ _=>trivial) ?nil ?cons trivial (λ_ _=>trivial) e
 case c=>intro d x h;cases h;rfl
 case v=>intro i x h;exact(show M.opt (J[i]?.join) s=_ from by rw[show J[i]?.join=some x from h];rfl)
 case pr=>
  intro fz p xs ih x h;obtain⟨ds,e1,e2⟩:=nA h;exact(jw (ih _ e1)).trans ((jw (C_ s ds)).trans (TF e2))
 case tup=>
  intro xs ih x h;obtain⟨ds,e1,e2⟩:=nA h;cases e2;exact(jw (ih _ e1)).trans ((jw (vp s ds)).trans rfl)
 case lst=>
  intro fz xs ih x h;obtain⟨ds,e1,e2⟩:=nA h;cases fz with
  |false=>cases e2
  |true=>cases e2;exact(jw (ih _ e1)).trans ((jw (vp s ds)).trans rfl)
 case not=>
  intro a ih x h;obtain⟨y,e1,e2⟩:=nA h;cases y with
  |l n=>cases e2
  |d y=>cases y with
   |bl b=>cases e2;exact(jw (ih _ e1)).trans rfl
   |_=>cases e2
 case and=>
  intro a b ih ih2 x h;obtain⟨y,e1,e2⟩:=nA h;cases y with
  |l n=>cases e2
  |d y=>cases y with
   |bl b=>cases b with
    |true=>exact(jw (ih _ e1)).trans (ih2 _ e2)
    |false=>cases e2;exact(jw (ih _ e1)).trans rfl
   |_=>cases e2
 case or=>
  intro a b ih ih2 x h;obtain⟨y,e1,e2⟩:=nA h;cases y with
  |l n=>cases e2
  |d y=>cases y with
   |bl b=>cases b with
    |true=>cases e2;exact(jw (ih _ e1)).trans rfl
    |false=>exact(jw (ih _ e1)).trans (ih2 _ e2)
   |_=>cases e2
 case mX=>
  intro a k ih x h;obtain⟨y,e1,e2⟩:=nA h;cases y with
  |l n=>cases e2
  |d y=>
   obtain⟨d,e3,e4⟩:=nA e2;cases e3;obtain⟨b,e5,e6⟩:=nA e4;cases e6;refine(jw (ih _ e1)).trans ((jw (s':=s) (a:=y) rfl).trans ((jw (s':=s) (a:=b) ?_).trans rfl));rw[e5];rfl
 case of=>
  intro o c i ih x h;obtain⟨y,e1,e2⟩:=nA h;obtain⟨fs,e3,e4⟩:=nA e2;refine(jw (ih _ e1)).trans ((jw (s':=s) (a:=fs) ?_).trans ?_)
  ·cases y with
   |l n=>cases e3
   |d y=>cases y with
    |ob e gs=>
     have e3:(if e=c then some gs else none)=some fs:=e3;show (if e=c then M.ret gs else M.no) s=_;split at e3
     ·rename_i h;cases e3;rw[if_pos h];rfl
     ·cases e3
    |_=>cases e3
  ·show M.opt (fs[i]?.map Xv.d) s=_;rw[e4];rfl
 case nil=>intro ds h;cases h;rfl
 case cons=>
  intro a r ih ih2 ds h;obtain⟨y,e1,e2⟩:=nA h;cases y with
  |l n=>cases e2
  |d y=>
   obtain⟨d,e3,e4⟩:=nA e2;cases e3;obtain⟨rs,e5,e6⟩:=nA e4;cases e6;exact(jw (ih _ e1)).trans ((jw (ih2 _ e5)).trans rfl)
theorem vq:∀(xs:Es) (ds:List D),qD aq xs J=some ds->evs aq aj F xs J s=some (.ok (ds.map .d),s)
 |.nil,ds,h=>by cases h;rfl
 |.cons a r,ds,h=>by
  obtain⟨y,e1,e2⟩:=nA h;cases y with
  |l n=>cases e2
  |d y=>
   obtain⟨d,e3,e4⟩:=nA e2;cases e3;obtain⟨rs,e5,e6⟩:=nA e4;cases e6;exact(jw (gQ a _ e1)).trans ((jw (vq r _ e5)).trans rfl)
theorem jO:∀(xs:Es) {vs:List Xv},o7 aq xs J=some vs->evs aq aj F xs J s=some (.ok vs,s)
 |.nil,vs,h=>by cases h;rfl
 |.cons a r,vs,h=>by
  obtain⟨y,e1,e2⟩:=nA h;obtain⟨ys,e3,e4⟩:=nA e2;cases e4;exact(jw (gQ a _ e1)).trans ((jw (jO r e3)).trans rfl)
variable {P:Xv->S->Prop}
theorem W.pv{e:E}{x:Xv}(h:dJ aq e J=some x)(k:P x s):W (ev aq aj F e J) s P:=W.eq (gQ e _ h) k
theorem KaX{f:Nat}{xs:Es}{vs:List Xv}(h:o7 aq xs J=some vs)(k:W (bU (F f) vs) s P):W (ev aq aj F (.call f xs) J) s P:=ZC (W.eq (jO xs h) k)
theorem ZM{fz:Bool}{p:Pr}{xs:Es}{ds:List D}(h:qD aq xs J=some ds)(k:W (cI fz (prim p ds)) s P):W (ev aq aj F (.pr fz p xs) J) s P:=Zz (W.eq (vq xs _ h) (W.eq (C_ s ds) k))
theorem KaW{xs:Es}{vs:List Xv}{P:List Xv->S->Prop}(h:o7 aq xs J=some vs)(k:P vs s):W (evs aq aj F xs J) s P:=W.eq (jO xs h) k
end
section
variable {aq:Nat->Nat->Bool}{aj:Bool}{F:Bool->Fn}{J:Vs}{s:S}{Q:Out->S->Prop}{e:E}{r:cB}
theorem Ka8{i:Nat}{x:Xv}(h:dJ aq e J=some x)(k:WS (exs aq aj F r (J.set i (some x))) s Q):WS (exs aq aj F (.cons (.asg (.nm i) e) r) J) s Q:=WS.cons (ZF (W.pv h k))
theorem Ka9{x:Xv}(h:dJ aq e J=some x)(k:Q (.rt x) s):WS (exs aq aj F (.cons (.ret e) r) J) s Q:=WS.cons (ZG (W.pv h k))
theorem Ka7{b:Bool}{t u:cB}(h:dJ aq e J=some (.d (.bl b)))(k:WS (if b=true then exs aq aj F t J else exs aq aj F u J) s λo s'=>match o with|.nx J'=>WS (exs aq aj F r J') s' Q|.rt x=>Q (.rt x) s'|_=>False):WS (exs aq aj F (.cons (.iff e t u) r) J) s Q:=WS.cons (ZJ (W.pv h (W.bool k)))
end
section
variable {aq:Nat->Nat->Bool}{aj:Bool}{F:Bool->Fn}{J:Vs}{s:S}{Q:Out->S->Prop}{c:Nat}{fs:List D}
theorem Kbg{c:Nat}{kp:Bool}{xs:Es}(h:W (evs aq true (F true) xs J) s λvs s1=>W (cL vs) s1 λds s2=>Q (.er c (if kp=true then ds else []) J) s2):WS (ex aq true F (.rise c kp xs) J) s Q:=by
 refine WS.zY (m2:=λ_=>none) (WS.ofM (W.bd (h.imp λvs s1 h=>h.imp λds s2 h=>?_)));exact⟨_,s2,rfl,h⟩
theorem Kbl{m:MS}{k:Vs->MS}(h:WS m s λo s'=>match o with|.nx J'=>WS (k J') s' Q|.rt x=>Q (.rt x) s'|_=>False):WS (Mi.bO m k) s Q:=by
 obtain⟨o,s',e,q⟩:=h;unfold WS Mi.bO;rw[e];cases o with
 |nx J'=>exact q
 |rt x=>exact⟨_,_,rfl,q⟩
 |bk _=>exact q.elim
 |ct _=>exact q.elim
 |er _ _ _=>exact q.elim
theorem Kbj{F:Fn}{i:Nat}{x:Xv}(h:Q (.nx (J.set i (some x))) s):WS (store aq aj F (.nm i) x J) s Q:=⟨_,s,rfl,h⟩
theorem Kbk{F:Fn}{is:List Nat}{d:D}(h:yr ((j9 d).bind λds=>gB is (ds.map .d) J) λJ'=>Q (.nx J') s):WS (store aq true F (.tp is) (.d d) J) s Q:=by
 obtain⟨J',e,q⟩:=h;exact WS.zY (m2:=λ_=>none) (WS.ofM (W.bd (W.dat (W.opt e (WS.nx q)))))
end
section
variable {aq:Nat->Nat->Bool}{aj:Bool}{F:Fn}{J:Vs}{s:S}{P:Xv->S->Prop}
theorem W.mX{a:E}{k:Kd}(h:W (ev aq aj F a J) s λx s1=>W (rd x) s1 λd s2=>yr (lW aq d k) λb=>P (.d (.bl b)) s2):W (ev aq aj F (.mX a k) J) s P:=KaA h
theorem W.xK{p q:Pr}{a b c:E}(h:W (ev aq aj F a J) s λx s1=>W (ev aq aj F b J) s1 λy s2=>W (g8 [x,y]) s2 λds s3=>W (cI true (prim p ds)) s3 λt s4=>W (Mi.bool t) s4 λk s5=>
  W (if k=true then M.bd (ev aq aj F c J) λz=>M.bd (g8 [y,z]) λds=>cI true (prim q ds) else M.ret (.d (.bl false))) s5 P):W (ev aq aj F (.xK p q a b c) J) s P:=Kay h
theorem KaB{c a b:E}(h:W (ev aq aj F c J) s λx s1=>W (Mi.bool x) s1 λk s2=>W (if k=true then ev aq aj F a J else ev aq aj F b J) s2 P):W (ev aq aj F (.ite c a b) J) s P:=W.bd (h.imp λ_ _ h=>W.bd h)
theorem ZP{a:E}{P:Src×Nat->S->Prop}(h:W (ev aq aj F a J) s λx s1=>W (oN x) s1 P):W (gF aq aj F (.enum a) J) s P:=W.bd h
theorem KaI{xs:List D}{P:Src×Nat->S->Prop}(h:P (.fix (enumFrom 0 xs),(enumFrom 0 xs).length) s):W (oN (.d (.fl xs))) s P:=⟨_,s,rfl,h⟩
theorem KaL{a b:E}{P:Src×Nat->S->Prop}(h:W (ev aq aj F a J) s λx s1=>W (ev aq aj F b J) s1 λy s2=>W (Mi.int x) s2 λi s3=>W (Mi.int y) s3 λj s4=>(gw i&&gw j)=true/\P (.fix (lY i j),(lY i j).length) s4):W (gF aq aj F (.rg a b) J) s P:=by
 refine W.bd (h.imp λx s1 h=>W.bd (h.imp λy s2 h=>W.bd (h.imp λi s3 h=>W.bd (h.imp λj s4 h=>?_))));rw[if_pos h.1];exact W.ret h.2
theorem KaN{a b:E}{P:Src×Nat->S->Prop}(h:W (ev aq aj F a J) s λx s1=>W (ev aq aj F b J) s1 λy s2=>W (qe x) s2 λxs s3=>W (qe y) s3 λys s4=>P (.fix (List.zipWith (λp q=>.tup [p,q]) xs ys),(List.zipWith (λ(p q:D)=>D.tup [p,q]) xs ys).length) s4):W (gF aq aj F (.zip a b) J) s P:=
 W.bd (h.imp λx s1 h=>W.bd (h.imp λy s2 h=>W.bd (h.imp λxs s3 h=>W.bd (h.imp λys s4 h=>W.ret h))))
theorem W.jG{xs:List D}{P:List D->S->Prop}(h:P xs s):W (qe (.d (.tup xs))) s P:=W.ret h
theorem W.sU{xs:List D}{P:List D->S->Prop}(h:P xs s):W (qe (.d (.fl xs))) s P:=W.ret h
theorem Kak{P:Bool->S->Prop}(h:P true s):W (lZ aq aj F .no J) s P:=W.ret h
theorem Kal{a:E}{P:Bool->S->Prop}(h:W (ev aq aj F a J) s λx s1=>W (Mi.bool x) s1 P):W (lZ aq aj F (.yes a) J) s P:=W.bd h
theorem ZQ(g:D->D)(hc:c.length<=sizeLine)
  (hw:W (gF aq true F it J) s λcn s1=>cn=(.fix c,c.length)/\s1=s)
  (hb:∀x∈c,yr (fD tg x (blk many fr J)) λJ'=>W (ev aq true F elt J') s λy s2=>s2=s/\y=.d (g x))
  (h:W (newL fz (c.map g)) s P):W (ev aq true F (.comp fz elt tg it fr many .no) J) s P:=by
 refine Kar (c:=c) (λx=>some (g x)) hc hw (λx hx=>?_) ?_
 ·obtain⟨J',e,h1⟩:=hb x hx;refine⟨J',e,W.ret ⟨rfl,?_⟩⟩;rw[if_pos rfl];exact h1.imp λy s2 ⟨a,b⟩=>⟨a,_,b,rfl⟩
 ·rw[show c.filterMap (λx=>some (g x))=c.map g by rw[<-List.filterMap_eq_map];rfl];exact h
theorem v9{α:Type}{f:α->D}{l:List α}{fz:Bool}{elt:E}{tg:List Nat}{it:Wk}{fr:List Nat}{many:Nat}{cond:Eo}(g:α->Option D)(hc:l.length<=sizeLine)
  (hw:W (gF aq true F it J) s λcn s1=>cn=(.fix (l.map f),(l.map f).length)/\s1=s)
  (hb:∀x∈l,yr (fD tg (f x) (blk many fr J)) λJ'=>W (lZ aq true F cond J') s λb s1=>s1=s/\(b=true->W (ev aq true F elt J') s λy s2=>s2=s/\∃d,y=.d d/\g x=some d)/\(b=false->g x=none))
  (h:W (newL fz (l.filterMap g)) s P):W (ev aq true F (.comp fz elt tg it fr many cond) J) s P:=by
 change W (_root_.ite (true=true) _ _) s P
 rw[if_pos rfl];refine W.bd (hw.imp λcn s1=>?_);rintro⟨rfl,rfl⟩;refine W.bd ?_;refine W.walk (c:=l.map f) (λi acc s'=>s'=s1/\acc=(l.take i).filterMap g) ⟨rfl,rfl⟩ (λi x acc s' e hI=>?_) (λacc s' hI=>?_)
 ·obtain⟨rfl,rfl⟩:=hI;rw[jP] at e;cases el:l[i]? with
  |none=>rw[el] at e;cases e
  |some y=>
   rw[el] at e;cases e;have hi:i<l.length:=(fX.mp el).1;have ht:l.take (i+1)=l.take i++[y]:=by rw[List.take_succ,el];rfl
   have hl:((l.take i).filterMap g).length<sizeLine:=Dz (OJ _ _) (by rw[Ah];lia);obtain⟨J',e1,h1⟩:=hb y (gJ el);refine W.bd (W.opt e1 ?_);refine W.bd (W.qt (h1.imp λb s2=>?_));rintro⟨rfl,h2,h3⟩;rw[ht,List.filterMap_append];cases b
   ·rw[if_neg Ro];refine W.ret ⟨rfl,?_⟩;simp[h3 rfl]
   ·rw[if_pos rfl];refine W.bd (W.qt ((h2 rfl).imp λy s3=>?_));rintro⟨rfl,d,rfl,eg⟩;refine W.bd (W.dat ?_);rw[if_pos hl];refine W.ret ⟨rfl,?_⟩;simp[eg]
 ·obtain⟨rfl,rfl⟩:=hI;rw[fW,Gv];exact h
theorem W.push{o a:E}(h:W (ev aq aj F o J) s λx s1=>W (Mi.dh x) s1 λ_ s2=>W (ev aq aj F a J) s2 λy s3=>W (Mi.dat y) s3 λd s4=>W (Mi.dh x) s4 λnx s5=>nx.2.length<sizeLine/\P (.d .non) (s5.set nx.1 (.lst (nx.2++[d])))):W (ev aq aj F (.push o a) J) s P:=by
 refine W.bd (h.imp λx s1 h=>W.bd (h.imp λ_ s2 h=>W.bd (h.imp λy s3 h=>W.bd (h.imp λd s4 h=>W.bd (h.imp λnx s5 h=>?_)))));rw[if_pos h.1];exact W.bd (Tq (W.ret h.2))
end
theorem ZR{s:S}{o:SO}:(s++[o])[s.length]?=some o:=by simp
theorem Y{P R:Prop}(k:R)(h:Bx R->P:=by
 intro k
 repeat (first|with_reducible first
   |refine Ka8 (by with_unfolding_all rfl) ?_|refine Ka9 (by with_unfolding_all rfl) ?_|refine Ka7 (by with_unfolding_all rfl) ?_|refine W.pv (by with_unfolding_all rfl) ?_|refine ZM (by with_unfolding_all rfl) ?_|refine KaX (by with_unfolding_all rfl) ?_|refine KaW (by with_unfolding_all rfl) ?_
   |refine WS.cons ?_|refine WS.nil ?_|refine Kbl ?_|refine Kbj ?_|refine Kbk ?_|refine ZF ?_|refine ZG ?_|refine ZJ ?_|refine Kbi ?_|refine Kbh ?_|refine Kbe ?_|refine Kba ?_|refine Kbb ?_|refine Kbg ?_|refine WS.zY ?_|refine WS.Tv ?_|refine WS.Tr (by with_unfolding_all rfl) ?_|refine WS.Tt (by with_unfolding_all rfl) ?_|refine yr.mk (by with_unfolding_all rfl) ?_
   |refine ZD ?_|refine Kaj ?_|refine W.eC ?_|refine W.eV (by with_unfolding_all rfl) ?_|refine Zz ?_|refine ZC ?_|refine KaH ?_|refine KaC ?_|refine KaD ?_|refine Kaw ?_|refine KaE ?_|refine KaB ?_|refine W.mX ?_|refine W.xK ?_|refine W.push ?_|refine KaG ?_|refine Kaz ?_|refine KaQ ?_|refine KaR ?_|refine KaM ?_|refine KaL ?_|refine KaN ?_|refine ZP ?_|refine Kak ?_|refine Kal ?_|refine W.zY ?_|refine W.Tv ?_|refine W.Tr (by with_unfolding_all rfl) ?_|refine W.Tt (by with_unfolding_all rfl) ?_
   |refine Ka1 ?_|refine Ka2 ?_|refine KaZ ?_|refine Zw (by with_unfolding_all rfl) ?_|refine Zw ZR ?_|refine Kau ?_|refine Kav ?_|refine W.dat ?_|refine W.bool ?_|refine W.int ?_|refine W.dh (by with_unfolding_all rfl) ?_|refine W.dh ZR ?_|refine Tq ?_|refine Ka4 ?_|refine KaI ?_|refine W.jG ?_|refine W.sU ?_|refine Ka3 ?_|refine KaP ?_|refine KaO ?_
   |refine mC (by first|(with_unfolding_all rfl)|exact znw (by first|(left;constructor<;>lia)|(right;constructor<;>lia))|exact znf gV|exact zmn gV|exact zhY gV|exact zm6 Ro) ?_|refine Tn (by with_unfolding_all rfl) ?_
   |refine W.ret ?_|refine W.bd ?_
   | (dsimp only))
 all_goals exact k.o):P:=h ⟨k⟩
def lx(p q:Int×Int):Prop:=p.1<q.1\/p.1=q.1/\p.2<q.2
noncomputable def jg(n:Int)(ps:List (Int×Int)):D:=.tup [.int n,.tup (ps.map lB)]
structure Web(n:Int)(ps:List (Int×Int)):Prop where
 h1:1<=n
 h8:n<=8
 tie:∀p∈ps,0<=p.1/\p.1<p.2/\p.2<n
 inc:ps.Pairwise lx
 len:(ps.length:Int)<=7*n
theorem ziX(h:∀x∈xs,x=.bl true):fC xs=some (List.replicate xs.length true):=by
 induction xs with
 |nil=>rfl
 |cons x r ih=>
  rw[h x Zaa];show Option.map _ (fC r)=_;rw[ih λy hy=>h y (by simp[hy])];rfl
theorem ZS(h:∀x∈xs,x=.bl true):prim .all [.fl xs]=some (.dat (.bl true)):=by
 show Option.map _ (fC xs)=_;rw[ziX h];simp
theorem zm2(h:lx p q):ltI [p.1,p.2] [q.1,q.2]=true:=by
 simp only[ltI];rcases h with h|⟨h,h2⟩
 ·rw[if_neg gV];simp[h]
 ·rw[if_pos h,if_neg gV];simp[h2]
theorem TJ(xs:List D):cut xs (some 1) none=xs.drop 1:=by
 unfold cut;rw[HT.uz];rw[show (some 1:Option Int)=some ((1:Nat):Int) from rfl,HT.wX];cases xs with
 |nil=>rfl
 |cons x r=>simp
theorem ZV:∀{ps:List (Int×Int)},ps.Pairwise lx->∀x∈List.zipWith (λ(p q:D)=>D.tup [p,q]) (ps.map lB) ((ps.map lB).drop 1),∃p q,x=.tup [lB p,lB q]/\lx p q
 |[],_,x,hx=>by simp at hx
 |[p],_,x,hx=>by simp at hx
 |p::q::r,h,x,hx=>by
  rw[show (List.map lB (p::q::r)).drop 1=List.map lB (q::r) from rfl] at hx;have e:List.zipWith (λ(p q:D)=>D.tup [p,q]) (List.map lB (p::q::r)) (List.map lB (q::r))=.tup [lB p,lB q]::List.zipWith (λ(p q:D)=>D.tup [p,q]) (List.map lB (q::r)) (List.map lB r):=rfl;rw[e,jA] at hx;rcases hx with rfl|hx
  ·exact⟨p,q,rfl,(Gq.mp h).1 q Zaa⟩
  ·exact ZV (ps:=q::r) (Gq.mp h).2 x hx
theorem ZW:∀(xs:List D) (j i:Nat),(enumFrom j xs)[i]?=xs[i]?.map λx=>.tup [.int ((j+i:Nat):Int),x]
 |[],j,i=>by simp[enumFrom]
 |x::r,j,0=>by simp[enumFrom]
 |x::r,j,i+1=>by
  simp only[enumFrom,Dt,ZW r (j+1) i];rw[show j+1+i=j+(i+1) by lia]
theorem ZX:∀(xs:List D) (j:Nat),(enumFrom j xs).length=xs.length
 |[],j=>rfl
 |x::r,j=>by simp[enumFrom,ZX r (j+1)]
theorem zk3{p:Int×Int}:¬lx p p:=by rintro(h|⟨_,h⟩)<;>lia
theorem zhA{ps:List (Int×Int)}(h:ps.Pairwise lx):ps.Nodup:=h.imp λ{p q} h e=>by subst e;exact zk3 h
theorem zfU(h:zB xs=some ys):prim .sorted [.fl xs]=some (.nw ys):=by
 show Option.map Rz.nw (zB xs)=_;rw[h];rfl
theorem zhN{es:List Int}(nM:es.length<64)(h:es.Pairwise (·<·)):zB (es.map D.int)=some (es.map D.int):=by
 refine zhZ ?_ (by rw[fW];exact nM) λk hk=>?_
 ·rw[Ln]
  left
  rw[List.all_map,gY];intro x _;rfl
 ·rw[fW] at hk;unfold zA;rw[jP,jP,fj hk,fj (show k<es.length by lia)];have:=List.pairwise_iff_getElem.mp h k (k+1) gV hk gV;simp only[Option.map_some]
  congr 1
  apply tY
  lia
noncomputable def endOf(i:Int)(p:Int×Int):Option Int:=if p.1=i then some p.2 else if p.2=i then some p.1 else none
noncomputable def bM(i:Int)(ps:List (Int×Int)):List Int:=ps.filterMap (endOf i)
theorem Z0(h:Web n ps)(i:Int):(bM i ps).Pairwise (·<·):=by
 have ht:=h.tie;have hi:=h.inc;clear h;unfold bM
 induction ps with
 |nil=>simp
 |cons p r ih=>
  obtain⟨hp,hr⟩:=Gq.mp hi;have ih:=ih (λq hq=>ht q (by simp[hq])) hr;rw[Gj]
  split
  ·exact ih
  ·rename_i b eb;refine Gq.mpr ⟨λc hc=>?_,ih⟩;obtain⟨q,hq,eq⟩:=Gn.mp hc;have l:=hp q hq;have tp:=ht p Zaa;have tq:=ht q (by simp[hq]);unfold endOf at eb eq;unfold lx at l;split at eb
   ·cases eb;split at eq
    ·cases eq;lia
    ·split at eq
     ·cases eq;lia
     ·cases eq
   ·split at eb
    ·cases eb;split at eq
     ·cases eq;lia
     ·split at eq
      ·cases eq;lia
      ·cases eq
    ·cases eb
theorem Z9(h:Web n ps)(he:e∈bM i ps):0<=e/\e<n:=by
 obtain⟨q,hq,eq⟩:=Gn.mp he;have tq:=h.tie q hq;unfold endOf at eq;split at eq
 ·cases eq;lia
 ·split at eq
  ·cases eq;lia
  ·cases eq
theorem tX(h1 : -1000<=a)(h2:a<=1000):gw a=true:=by
 unfold gw;rw[nH gV,nH gV];rfl
theorem yt(hl:locs xs=[s.length])(h:W (F (dz 0 xs)) [o] λv s1=>∃d o',v=.d d/\s1=[o']/\P (.d d) (s++[o'])):W (bU F xs) (s++[o]) P:=by
 refine Zx (n:=s.length) (o:=o) hl Zaa (h.imp λv s1=>?_);rintro⟨d,o',rfl,rfl,hp⟩;exact⟨d,o',rfl,rfl,by rw[show (s++[o]).set s.length o'=s++[o'] by simp];exact hp⟩
theorem zi5{ns:List Int}{lo hi:Option Int}{x:D}(h:x∈cut (ns.map D.int) lo hi):∃n,x=.int n:=by
 have:=List.mem_of_mem_drop (List.mem_of_mem_take h);obtain⟨n,_,rfl⟩:=qI.mp this;exact⟨n,rfl⟩
theorem zjz{ns:List Int}{lo hi:Option Int}:(cut (ns.map D.int) lo hi).length<=ns.length:=by
 unfold cut;rw[Ah,List.length_drop,fW]
 lia
theorem Z_{α:Type}[DecidableEq α]:∀{l m:List α},l.Nodup->(∀x∈l,x∈m)->l.length<=m.length
 |[],m,_,_=>rN _
 |x::r,m,h,hm=>by
  obtain⟨h1,h2⟩:=wB.mp h;have hx:x∈m:=hm x Zaa;have:=Z_ (l:=r) (m:=m.erase x) h2 λy hy=>(List.mem_erase_of_ne (λe=>by subst e;exact h1 hy)).mpr (hm y (by simp[hy]));rw[List.length_erase_of_mem hx] at this;have:=O7 hx;rw[gW]
  lia
noncomputable def at'(fs:List Int)(j:Int):Int:=fs.getD j.toNat 0
theorem TQ{fs:List Int}{j:Int}(h0:0<=j)(h:j<fs.length):∃(i:Nat) (hi:i<fs.length),j=i/\at' fs j=fs[i]:=by
 obtain⟨i,rfl⟩:=K7 h0;have hi:i<fs.length:=by lia
 refine⟨i,hi,rfl,?_⟩;unfold at';rw[rJ,mD,fj hi];rfl
theorem Ka{fs:List Int}{j:Int}(h0:0<=j)(h:j<fs.length):at' fs j∈fs:=by
 obtain⟨i,hi,_,e⟩:=TQ h0 h;rw[e];exact List.getElem_mem _
theorem z_{fs gs:List Int}{j:Int}(h0:0<=j)(h:j<fs.length):at' (fs++gs) j=at' fs j:=by
 obtain⟨i,hi,rfl,e⟩:=TQ h0 h;unfold at';rw[rJ,mD,mD,pq hi]
theorem TV:at' (fs++[x]) fs.length=x:=by
 unfold at';rw[rJ,mD,pF (cj _)];simp
theorem yu(h0:0<=j)(h:xs[j.toNat]?=some x):prim .ix [.fl xs,.int j]=some (.dat x):=by
 obtain⟨k,rfl⟩:=K7 h0;exact Zy h
theorem zlC(h0:0<=j)(h:xs[j.toNat]?=some x):prim .ix [.tup xs,.int j]=some (.dat x):=yu h0 h
noncomputable def kI(k a b:Int):Int:=if k-(if a-b<0 then -(a-b) else a-b)<(if a-b<0 then -(a-b) else a-b) then k-(if a-b<0 then -(a-b) else a-b) else (if a-b<0 then -(a-b) else a-b)
theorem FQ(hd:1<=d):d<=kI k a b↔(d<=a-b/\a-b<=k-d)\/(d<=b-a/\b-a<=k-d):=by
 unfold kI
 split<;>split<;>lia
structure jK(n k d:Int)(ps:List (Int×Int))(hs:List Int):Prop where
 len:(hs.length:Int)=n
 lo:∀x∈hs,0<=x/\x<k
 fit:∀p∈ps,d<=kI k (at' hs p.1) (at' hs p.2)
def Ge(h r:List Int):Prop:=∀j:Nat,j<r.length->(∀i:Nat,i<j->at' h i=at' r i)->at' r j<=at' h j
noncomputable def kJ(k d:Int):D:=.tup [.int k,.int d]
theorem Dg{α:Type}{l:List α}{f:α->D}:l.filterMap (λx=>some (f x))=l.map f:=by
 rw[<-List.filterMap_eq_map];rfl
theorem Ka6(I:Nat->Vs->S->Prop)(h0:I 0 J s)(hb:∀i x J s,c[i]?=some x->I i J s->WS (b x J) s λo s'=>(∃J',o=.nx J'/\I (i+1) J' s')\/(∃x,o=.rt x/\Q (.rt x) s'))
  (he:∀J s,I c.length J s->Q (.nx J) s):WS (cM (.fix c) b (c.length+1) 0 J) s Q:=by
 have key:∀n i J s,i+n=c.length->I i J s->WS (cM (.fix c) b (n+1) i J) s Q:=by
  intro n
  induction n with
  |zero=>
   intro i J s hi hI;have e:c[i]?=none:=by rw[qG];lia
   have:i=c.length:=by lia
   subst this;refine⟨_,s,?_,he J s hI⟩;unfold cM;simp only[Src.at,e]
  |succ n ih=>
   intro i J s hi hI;have cJ:i<c.length:=by lia
   have e:c[i]?=some c[i]:=fj cJ;obtain⟨o,s',eb,hr⟩:=hb i c[i] J s e hI;rcases hr with ⟨J',rfl,J7⟩|⟨x,rfl,hq⟩
   ·obtain⟨o2,s2,e2,q⟩:=ih (i+1) J' s' gV J7;refine⟨o2,s2,?_,q⟩;unfold cM;simp only[Src.at,e,eb];exact e2
   ·refine⟨_,s',?_,hq⟩;unfold cM;simp only[Src.at,e,eb]
 exact key c.length 0 J s gV h0
theorem Kc{hs:List Int}{f:Int->Int}{j:Int}(h0:0<=j)(h:j<hs.length):at' (hs.map f) j=f (at' hs j):=by
 obtain⟨i,hi,rfl,e⟩:=TQ h0 h;rw[e];unfold at';rw[rJ,mD,jP,fj hi];rfl
theorem zf9{α:Type}(l:List α)(f:α->Bool):fC (l.map λx=>D.bl (f x))=some (l.map f):=by
 induction l with
 |nil=>rfl
 |cons x r ih=>
  show Option.map _ (fC (r.map λx=>D.bl (f x)))=_;rw[ih];rfl
theorem zlb{α:Type}{l:List α}{f:α->Bool}:prim .all [.fl (l.map λx=>D.bl (f x))]=some (.dat (.bl (l.all f))):=by
 show Option.map _ (fC (l.map λx=>D.bl (f x)))=_;rw[zf9];show some (Rz.dat (.bl ((l.map f).all id)))=_;rw[List.all_map];rfl
end Mi
namespace Mi
open PySem PySem.W PyProof.Rows L2
structure Ord(n:Nat)(lt:Nat->Nat->Option Bool)(le:Nat->Nat->Prop):Prop where
 ans:∀i j,i<n->j<n->(lt i j=some true/\le i j)\/(lt i j=some false/\le j i)
 tr:∀i j k,i<n->j<n->k<n->le i j->le j k->le i k
end Mi
namespace Mi
open PySem PySem.Spec PyProof.Rows L2 PySem.W
section
variable {K:W.Frag}{cA:Cl}{U:Ph}{H:Hp}
theorem zlS{d:D}{v:V}{k:Bool}(r:Rv K cA U H d v)(e:xM d=some k):Bm K v H k:=by
 cases d with
 |non=>
  cases (show Rep K cA U H .non v from r);cases e;rfl
 |bl c=>
  cases (show Rep K cA U H (.bl c) v from r);cases e;rfl
 |int i=>
  cases (show Rep K cA U H (.int i) v from r);cases e;rfl
 |tup xs=>
  cases (show Rep K cA U H (.tup xs) v from r) with
  |tup t q=>
   cases e;refine .inr (.inl ⟨_,t.jG,?_⟩);cases q<;>rfl
 |fl xs=>
  obtain⟨a,us,rfl,sq,q⟩ : ∃a us,v=.ref a/\cR K H a us/\aB K cA U H xs us:=r;cases e;refine .inl ⟨_,sq,?_⟩;cases q<;>rfl
 |_=>cases e
end
section
variable {X:Cx}{cA:Cl}{aq:Nat->Nat->Bool}{aj:Bool}{F:Fn}{EX:XS}{a b:Expr}{A B:E}{pos p:Pos}{x:Str}{e:Expr}{es:List Expr}{Xs:Es}
noncomputable def vA(sc:Scope)(x:Str):Bool:=match sc.names.lookup x with
 |some k=>CG k
 |none=>false
noncomputable def Nz(sc:Scope)(x:Str):Bool:=match sc.names.lookup x with
 |some .globalImplicit=>true
 |_=>false
theorem TX{sc:Scope}{x:Str}(h:vA sc x=true):∃k,sc.names.lookup x=some k/\CG k=true:=by
 unfold vA at h;split at h
 ·rename_i k e;exact⟨k,e,h⟩
 ·cases h
theorem zih{sc:Scope}{x:Str}(h:Nz sc x=true):sc.names.lookup x=some .globalImplicit:=by
 unfold Nz at h;split at h
 ·assumption
 ·cases h
theorem gk(h:Nz X.env.scope x=true:=by kernel_rfl):JK X x .globalImplicit:=⟨zih h⟩
theorem jl(h:(match X.env.scope.names.lookup x with|some .local=>true|_=>false)=true:=by kernel_rfl):JK X x .local:=by
 split at h
 ·exact⟨by assumption⟩
 ·cases h
theorem jc(h:(match X.env.scope.names.lookup x with|some .cell=>true|_=>false)=true:=by kernel_rfl):JK X x .cell:=by
 split at h
 ·exact⟨by assumption⟩
 ·cases h
theorem sZ{scope:Scope}{cl:List (Str×Addr)}{N:List Str}{Cc:Addr}{s3:Shared}{H3:Hp}{fp:List Addr}{ao:List (Addr×Obj)}(h:Nz scope x=true:=by kernel_rfl):JK (X.blk scope cl N Cc s3 H3 fp ao) x .globalImplicit:=YW (zih h) rfl
theorem gv(i:Nat)(h:(decide (X.N[i]?=some x)&&vA X.env.scope x&&okN x)=true:=by kernel_rfl):JE X cA aq aj F EX (.Name x pos) (.v i):=by
 rw[eG,eG] at h;obtain⟨k,e,hv⟩:=TX h.1.2;exact YX i (lC h.1.1) ⟨e⟩ hv h.2
theorem bw(i:Nat){scope:Scope}{cl:List (Str×Addr)}{N:List Str}{Cc:Addr}{s3:Shared}{H3:Hp}{fp:List Addr}{ao:List (Addr×Obj)}(h:(decide (N[i]?=some x)&&vA scope x&&okN x)=true:=by kernel_rfl):JE (X.blk scope cl N Cc s3 H3 fp ao) cA aq aj F EX (.Name x pos) (.v i):=by
 rw[eG,eG] at h;obtain⟨k,e,hv⟩:=TX h.1.2;by_cases hk:k=.free
 ·subst hk;exact zop i (lC h.1.1) e h.2
 ·exact YX i (lC h.1.1) (YW e (by cases k<;>first|rfl|exact absurd rfl hk)) hv h.2
theorem gc{f k:Nat}{cm:Bool}{st:Stmt}{ps:List Str}(Fo:cF X.prog X.w X.K X.mg X.base (fu X.prog X.w) cm k (fV X.K x) (fdOf X.K x st) ps (lG X.K cA (F f)))(D:D3 X.K X.mg x st ps)(hr:bx k X.A)(R:JR X EX)(g:JK X x .globalImplicit)(ha:JA X cA aq aj F EX (e::es) Xs)(h:okN x=true:=by kernel_rfl)
  (i_:cm=true->X.aj=true:=by first|exact λ_=>rfl|exact λz=>nomatch z) (he:aC e=true:=by rfl) (cT:es.all aC=true:=by rfl):JE X cA aq aj F EX (.Call (.Name x p) (e::es) [] pos) (.call f Xs):=
 zkP f Fo i_ hr D.m D.f.kp D.b R g ha h he cT
theorem nd(h:decide X.N.Nodup=true:=by kernel_rfl):X.N.Nodup:=lC h
end
theorem fJ{P:Program}{w:World}{K:W.Frag}{mg:Str->Option Value}{base:Heap}{cA:Cl}{aq:Nat->Nat->Bool}{T:Nat->Option Df}{x:Str}{st:Stmt}{ps:List Str}{k n:Nat}{cm:Bool}{df:Df}(D:D3 K mg x st ps)(N:List Str)(hT:T n=some df)
  (hb:∀(cdv:Value) (A:Around) (outer:List Env) (s:Shared) (H:Hp) (E:XK),bx k (A.deeper (envOfC x (au st) s.heap.objs.size (fV K x) cdv))->
   JB (dH (fu P w) P w K mg base N x (au st) (fV K x) cdv A outer s H E cm) cA aq cm (λc=>call aq T k c) (λ_ C dx H'=>E C dx H') (aJ st) df.body) (S:bW N ps (au st):=by exact⟨rfl,rfl,rfl,dk,rfl,dk,dk⟩) (hp:df.eU=ps.length:=by rfl) (hm:df.many=N.length:=by rfl) :
  cF P w K mg base (fu P w) cm (k+1) (fV K x) (fdOf K x st) ps (lG K cA (call aq T (k+1) cm n)):=Za D.f S hT hp hm hb
end Mi
namespace L2
open PySem PySem.Spec PySem.Calls PyProof.Rows PySem.W
theorem fK.tri{H:Hp}{l:List Value}(x:fK H l):TriplesOk l:=by
 induction x with
 |nil=>trivial
 |cons l m c r _ _ ih=>exact ih
theorem fK.found{H:Hp}{pos:Pos}{cv:Value}{l:List Value}(x:fK H l)(h:codeAmong pos l=some cv):∃c,cv=.ref c/\GoodC H c:=by
 induction x with
 |nil=>cases h
 |cons a b c r g _ ih=>
  unfold rawInt codeAmong at h;split at h
  ·cases h;exact⟨c,rfl,g⟩
  ·exact ih h
structure vB(H H':Hp):Prop where
 kp:∀b o,H b=some o->(∀ps,o≠.lN ps)->H' b=some o
 st:∀b o,H b=some o->∃o',H' b=some o'
theorem vB.refl{H:Hp}:vB H H:=⟨λ_ _ e _=>e,λ_ o e=>⟨o,e⟩⟩
def Ke(K:Frag)(mg:Str->Option Value):Prop:=∃bm ob,mg "__builtins__"=some (.ref bm)/\bm≠builtinsNs/\bm≠mainGlobals/\K.lookup bm=some ob/\ob.cls=.type "module"/\ob.dict=some builtinsNs/\ob.data=.plain
noncomputable abbrev lamO(params:Arguments)(body:Expr)(scope:Scope)(pm:Value)(c':Addr)(ctv:Value):Obj:=kla_obj "<lambda>" iV params body scope [] pm c' ctv
section
variable {X:Cx}{ao:List (Addr×Obj)}{Z:St}{H:Hp}{s:Shared}{c P:Addr}{params:Arguments}{body:Expr}{scope:Scope}{pos:Pos}{E:Value->Shared->Prop}{Q:Value->Shared->Prop}
theorem Inv.Dh{H1:Hp}{s1:Shared}{fa:Addr}{o:Obj}(I:Inv X ao Z H1 s1)(h1:s1.heap.get? fa=some o)(h2:H1 fa=none)(h3:fa≠X.env.locals)(h4:fa∉X.fs)(h5:∀v,o.data≠.cell v):Inv X (ao++[(fa,o)]) Z H1 s1:=
 I.jM λp hp=>by
  rcases nG.mp hp with hp|hp
  ·exact I.pin p (k_ _ hp)
  ·rw[rH.mp hp];exact⟨h1,h2,h3,h4,h5⟩
theorem zhI(I:Inv X ao Z H s)(on:qM=true)(iC:X.env.code=.ref c)(hC:codeHdIn X.K c P=true)(hl:jT X.K c P=true)(TY:Ke X.K X.mg)(oG:closureFor scope X.env=pure [])(hq:X.env.qual++"<lambda>"=iV)(vC:defaultsOf params X.env=([],[]))
  (k:∀fa c' ctv pm H1 s1,Inv X (ao++[(fa,lamO params body scope pm c' ctv)]) Z H1 s1->GoodC H1 c'->vB H H1->Q (.ref fa) s1) :
  wpAny (model X.prog X.w) X.A (eval (.Lambda params body scope pos) X.env) Q E s:=by
 obtain⟨ps,hP,hT⟩:=I.Az on c P hl;have oP:s.heap.get? P=some (tabObj ps):=I.hok P _ hP;obtain⟨bm,ob,b1,b2,b3,b4,b5,b6,b7⟩:=TY;have kb:s.heap.get? bm=some ob:=I.lO bm ob b4;have nb:H bm=none:=(I.bs bm ob (I.mod.wF bm ob b4)).2;have hg:=I.mod.glob.keeps I.bk;have ng:H mainGlobals=none:=by
  obtain⟨o,_,_,e,_⟩:=I.mod.glob;exact(I.bs _ _ e).2
 have hgP:mainGlobals≠P:=λz=>by rw[z,hP] at ng;cases ng
 have hB:s.heap.BuiltinsAt X.mg P:=⟨bm,ob,b1,b2,b3,(λz=>by rw[z,hP] at nb;cases nb),kb,b5,b6,b7⟩;refine kla_eval vC ?_;rw[hq];cases hf:codeAmong pos ps.toList with
 |some cv=>
  obtain⟨c',rfl,gc⟩:=hT.found hf;refine kla_makeFunctionHit (mg:=X.mg) oG I.ok.glob hg iC (codeHd_of_K I.lO hC) oP hT.tri hf hB λctv h' tk hk hsz=>?_;have kp:∀b u,s.heap.get? b=some u->(h'.push (lamO params body scope ((X.mg "__name__").getD .none) c' ctv)).get? b=some u:=λb u e=>cD _ (hk b u e);have I1:=I.kept (t':=tk) kp;refine k _ c' ctv _ H _ (I1.Dh (eF _ rfl) (I.hok.fresh hsz) (pL (fZ I.lt hsz)) (I.wM hsz) λv z=>by cases z) gc vB.refl
 |none=>
  refine kla_makeFunction (mg:=X.mg) oG I.ok.glob hg iC (codeHd_of_K I.lO hC) oP hT.tri hf hgP hB λc' ctv h' tk hx vV cJ Di htb=>?_;obtain⟨c2,oc,vs,t,e2,G6,hd,hv⟩:=Di;cases e2;have nc:H c'=none:=I.hok.fresh vV;have ncP:c'≠P:=λz=>by rw[z,hP] at nc;cases nc
  have kp:∀b u,b≠P->s.heap.get? b=some u->(h'.push (lamO params body scope ((X.mg "__name__").getD .none) c' ctv)).get? b=some u:=λb u nb e=>cD _ (hx b u nb e);have nP:∀b,H b=none->b≠P:=λb e z=>by rw[z,hP] at e;cases e
  have old:∀b u,s.heap.get? b=some u->b≠c':=λb u e=>cY (fZ (bQ e) vV);have hP1:upd (upd H P (.lN (ps++#[rawInt pos.line,rawInt pos.col,.ref c']))) c' (.nZ oc (.own 0)) P=some (.lN (ps++#[rawInt pos.line,rawInt pos.col,.ref c'])):=by rw[bT ncP.symm,iB]
  have ot:∀b u,H b=some u->(∀ps,u≠.lN ps)->upd (upd H P (.lN (ps++#[rawInt pos.line,rawInt pos.col,.ref c']))) c' (.nZ oc (.own 0)) b=some u:=λb u e nt=>by
   rw[bT (wJ e nc),bT λz=>by rw[z,hP] at e;cases e;exact nt _ rfl];exact e
  have gc:GoodC (upd (upd H P (.lN (ps++#[rawInt pos.line,rawInt pos.col,.ref c']))) c' (.nZ oc (.own 0))) c':=⟨oc,_,vs,t,iB,hd,hv⟩;have I1:Inv X ao Z (upd (upd H P (.lN (ps++#[rawInt pos.line,rawInt pos.col,.ref c']))) c' (.nZ oc (.own 0))) {s with heap:=h'.push (lamO params body scope ((X.mg "__name__").getD .none) c' ctv),toks:=tk}:=by
   refine I.step (g':=s.gens) (d':=s.drawn) (ch:=[]) (λ_ z=>nomatch z) (λb o _ _ _ e n=>kp b o (nP b n) e) (λb o _ _ _ e n=>⟨o.slots,kp b o (nP b n) e⟩) (λb o _ e n=>by rw[bT (old b o e),bT (nP b n)];exact n) (λb o _ e=>?_) (λb xs e=>ot b _ e λ_ z=>by cases z) (λb o u e=>ot b _ e λ_ z=>by cases z) (λb qs e=>?_) (λm hm=>?_) (λb u e=>?_) I.bare
   ·by_cases z:b=P
    ·exact⟨_,by rw[z];exact cD _ htb⟩
    ·exact⟨o,kp b o z e⟩
   ·by_cases z:b=P
    ·subst z;rw[hP] at e;cases e;exact⟨_,hP1,fK.cons _ _ c' _ gc .nil⟩
    ·exact⟨#[],by rw[bT (wJ e nc),bT z,e];simp,.nil⟩
   ·obtain⟨o,es,ep,ho,r⟩:=hm;exact⟨o,es,ep,kp _ o (nP _ I.free) ho,r⟩
   ·by_cases z:b=c'
    ·subst z;rw[iB] at e;cases e;exact⟨cD _ G6,⟨oc,cD _ G6⟩⟩
    ·rw[bT z] at e;by_cases y:b=P
     ·subst y;rw[iB] at e;cases e;show (h'.push _).get? b=some _;exact cD _ htb
     ·rw[bT y] at e;refine(I.hok b u e).stay (λa v ha q=>kp a v ?_ q) (λa q=>ot a _ q λ_ z=>by cases z) λa xs q=>ot a _ q λ_ z=>by cases z
      rcases ha with rfl|ha
      ·exact y
      ·intro z;rw[z,hP] at ha;cases ha
  refine k _ c' ctv _ _ _ (I1.Dh (eF _ rfl) ?_ (pL (fZ I.lt (rM (Dz vV cJ)))) (I.wM (rM (Dz vV cJ))) λv z=>by cases z) gc ⟨ot,λb o e=>?_⟩
  ·rw[bT (pL cJ),bT (pL (fZ (bQ oP) (rM (Dz vV cJ))))];exact I.hok.fresh (rM (Dz vV cJ))
  ·by_cases z:b=P
   ·rw[z];exact⟨_,hP1⟩
   ·exact⟨o,by rw[bT (wJ e nc),bT z];exact e⟩
end
section
variable {X:Cx}{ao:List (Addr×Obj)}{Z:St}{H:Hp}{s:Shared}{CX:rR}{cm:Bool}{k:Nat}{fa c':Addr}{params:Arguments}{body:Expr}{scope:Scope}{pm ctv:Value}{N:List Str}{x:Str}{u:Value}{v:V}{t:TE}{Q:VK}
theorem zhe(I:Inv X ao Z H s)(hfo:s.heap.get? fa=some (lamO params body scope pm c' ctv))(gc:GoodC H c')(S:bW N [x] scope)(i_:cm=true->X.A.handled=none)(hr:X.A.depth<recursionLimit)(kO:∀u,bindArgs (kla_fn "<lambda>" iV params body scope [] pm (.ref c') ctv) ⟨[u],[]⟩=pure [(x,u)])(rv:RelV v u)
  (hb:PE (dH CX X.prog X.w X.K X.mg X.base N iV scope fa (.ref c') X.A X.stack s H (λ_ _ _=>False) cm) body t) (hq:t (start N [v]) H Q) (pW:∀e s',CX X.stack H s (λ_ _ _=>False) e s'->X.xe e s') :
  wpAny (model X.prog X.w) X.A (call (.ref fa) [u]) (EP X ao Z Q) X.xe s:=by
 have e0:=I.env0;have lim:s.heap.NoLimit:=I.nolimit;obtain⟨oc,w,vs,tq,g1,g2,g3⟩:=gc;have Di:s.heap.CodeRec (.ref c') iV:=⟨c',oc,vs,tq,rfl,(I.hok c' _ g1).1,g2,g3⟩;have uy:∀y∈[(x,u)],scope.names.lookup y.1=some .local\/(scope.names.lookup y.1=some .cell/\((cellsFrom (s.heap.objs.size+1) scope.names []).lookup y.1).isSome=true):=λy hy=>by
  rw[rH.mp hy];rcases S.par x Zaa with q|q
  ·exact .inl q
  ·exact .inr ⟨q,K8 _ _ _ (.inl q)⟩
 refine DY (yS (R:=CR CX X.stack X.prog X.w H s Q λ_ _ _=>False) (kla_callFunE hr hfo rfl S.co S.gen rfl Di ?_) λr s' hq=>?_)
 ·rw[kO];refine aP ?_;refine wpAny_newFunctionEnv_cells S.kind uy λenv he s1 y=>?_;subst he;refine⟨lim.keeps y.toInCall.keep,kla_codeExpr ?_⟩;have I1:Inv (dH CX X.prog X.w X.K X.mg X.base N iV scope fa (.ref c') X.A X.stack s H (λ_ _ _=>False) cm) [] (start N [v]) H s1:=W0 S i_ e0 rfl (.cons rv .nil) y;refine f9 (hb [] s1 (start N [v]) H _ I1 hq) (λu' s' hs=>?_) λe s' hs=>hs;obtain⟨v',H',aZ,rv',q⟩:=hs;exact⟨v',H',aZ.os,aZ.bare,aZ.base,aZ.hok,rv',q⟩
 ·cases r with
  |error e=>exact pW e s' hq
  |ok fl=>
   cases fl with
   |ret u=>exact I.after hq
   |next=>exact False.elim hq
   |brk=>exact False.elim hq
   |cont=>exact False.elim hq
end
section
variable {X:Cx}{ao:List (Addr×Obj)}{Z:St}{H:Hp}{s:Shared}{E:Value->Shared->Prop}{fa D:Addr}{fo:Obj}{ys:List V}{its:List Value}{kz:List Int}{lt:Nat->Nat->Option Bool}{p:Array Nat}
theorem Inv.apart{a:Addr}(I:Inv X ao Z H s)(h:s.heap.objs.size<=a):a≠X.env.locals/\a∉X.fs/\(a∈X.ex\/X.s₀.heap.objs.size<=a)/\(∀x c,X.env.cells.lookup x=some c->c≠a)/\∀p∈X.pn++ao,p.1≠a:=
 ⟨pL (fZ I.lt h),I.wM h,.inr (jQ I.sz h),λx c e=>by
  obtain⟨v,o,ho,_⟩:=I.cell x c e;exact cY (fZ (bQ ho) h),λp hp=>cY (fZ (bQ (I.pin p hp).1) h)⟩
structure Own(X:Cx)(ao:List (Addr×Obj))(a:Addr):Prop where
 hL:a≠X.env.locals
 hf:a∉X.fs
 h1:a∈X.ex\/X.s₀.heap.objs.size<=a
 h2:∀x c,X.env.cells.lookup x=some c->c≠a
 h3:∀p∈X.pn++ao,p.1≠a
theorem Inv.own{a:Addr}(I:Inv X ao Z H s)(h:s.heap.objs.size<=a):Own X ao a:=let ⟨a1,a2,a3,a4,a5⟩:=I.apart h;⟨a1,a2,a3,a4,a5⟩
theorem Own.set{a:Addr}{h':Heap}{t':Nat}(o:Own X ao a)(hn:H a=none)(I:Inv X ao Z H s)(k:∀b o,b≠a->s.heap.get? b=some o->h'.get? b=some o):Inv X ao Z H {s with heap:=h',toks:=t'}:=I.turned k hn o.hL o.h1 o.h2 o.h3
theorem Own.pin{a:Addr}{u:Obj}(o:Own X ao a)(hn:H a=none)(I:Inv X ao Z H s)(h:s.heap.get? a=some u)(d:∀v,u.data≠.cell v):Inv X (ao++[(a,u)]) Z H s:=I.Dh h hn o.hL o.hf d
noncomputable abbrev Cx.Dj(X:Cx):Cx:=X.seen X.A.in1.in1 X.aj X.pn λ_ _=>False
theorem Inv.Dj(I:Inv X ao Z H s):Inv X.Dj ao Z H s:=I.seen rfl (λz=>I.ok.hd z) λ_ z=>z
theorem Inv.T3(I:Inv X.Dj ao Z H s)(aZ:X.aj=true->X.A.handled=none):Inv X ao Z H s:=I.Bv rfl aZ λ_ z=>z
def Kf(X:Cx)(Z:St)(G:Hp->Prop)(fa:Addr)(fo:Obj)(ys:List V)(kz:List Int):Prop:=
 ∀(i:Nat) (v:V) (k:Int),ys[i]?=some v->kz[i]?=some k->∀(H:Hp) (ps:List (Addr×Obj)) (s':Shared) (u:Value),G H->Inv X.Dj ps Z H s'->(fa,fo)∈ps->RelV v u->
  wpAny (model X.prog X.w) X.A.in1.in1 (call (.ref fa) [u]) (EP X.Dj ps Z λv' H'=>v'=.int k/\G H') (λ_ _=>False) s'
theorem zeg{kS:Addr}{keys:Array Value}{e e1:Nat}{st:SortSt}{A:Around}{P:PySem.Fin->Shared->Prop}{out:Array Value}(oD:Own X ao D)(oK:Own X (ao++[(D,seqObj "list" #[] e1)]) kS)
  (I:Inv X (ao++[(D,seqObj "list" #[] e1)]++[(kS,seqObj "list" keys e)]) Z H s) (hz:keys.size<=100) (ho:out.size<=100) (hs:(arrOf st).map (·.2)=out) (hf:failedOf st=none)
  (h:∀s' c,Inv X ao Z H s'->H D=none->s'.heap.get? D=some (seqObj "list" out c)->P (.done (.ret .none)) s') :
  wpAny (model X.prog X.w) A (ksk_tail D false e1 (.ref kS) st) P E s:=by
 have hl:(100:Nat)<=sizeLine:=by decide
 obtain⟨nk,T4,_⟩:=I.pin (kS,seqObj "list" keys e) Zaa;obtain⟨nd,Kg,_⟩:=I.pin (D,seqObj "list" #[] e1) Zaa;have nDK:D≠kS:=oK.h3 (D,seqObj "list" #[] e1) Zaa;have I1:Inv X (ao++[(D,seqObj "list" #[] e1)]) Z H {s with heap:=s.heap.update kS (Obj.mapSeq λ_=>(#[]:Array Value))}:=oK.set (t':=s.toks) T4 I.bZ λb o nb q=>(yM _ _ _ _ nb).trans q;have T5:(s.heap.update kS (Obj.mapSeq λ_=>(#[]:Array Value))).get? D=some (seqObj "list" #[] e1):=(yM _ _ _ _ nDK).trans nd;obtain⟨c2,nJ⟩ : ∃c2,((s.heap.update kS (Obj.mapSeq λ_=>(#[]:Array Value))).update D (Obj.mapSeq λ_=>out)).get? D=some (seqObj "list" out c2):=⟨_,get?_update_seq T5 λ_=>out⟩;unfold ksk_tail
 try dsimp only
 refine aA (Aq nk rfl ?_ gV (rN _));refine aA (yU ?_);refine aA (seqEpoch_at T5 rfl ?_);rw[hs];refine aA (Aq T5 rfl ?_ (rN _) (by simp only[rG,nU];lia));rw[hf];simp only[Pk,rG,nU];refine aP (h _ c2 ?_ Kg nJ);exact Own.set (s:={s with heap:=s.heap.update kS (Obj.mapSeq λ_=>(#[]:Array Value))}) (h':=(s.heap.update kS (Obj.mapSeq λ_=>(#[]:Array Value))).update D (Obj.mapSeq λ_=>out)) (t':=s.toks) oD Kg I1.bZ λb o nb q=>(yM _ _ _ _ nb).trans q
theorem ziZ{kS:Addr}{keys:Array Value}{e e1:Nat}{A:Around}{P:PySem.Fin->Shared->Prop}(oD:Own X ao D)(oK:Own X (ao++[(D,seqObj "list" #[] e1)]) kS)
  (I:Inv X (ao++[(D,seqObj "list" #[] e1)]++[(kS,seqObj "list" keys e)]) Z H s) (hk:IntsAre keys.toList kz) (hlen:kz.length=its.length) (nM:its.length<64)
  (cJ:∀i j b,lt i j=some b->∃x y,kz[i]?=some x/\kz[j]?=some y/\b=decide (x<y)) (hr:2<=its.length->bF lt (kas_sort its.length)=some p/\p.size=its.length)
  (h:∀s' c,Inv X ao Z H s'->H D=none->s'.heap.get? D=some (seqObj "list" (dI its p) c)->P (.done (.ret .none)) s') :
  wpAny (model X.prog X.w) A (ksk_end D false its.toArray e1 (.ref kS) keys) P E s:=by
 have hkl:=hk.length;rw[pG] at hkl;have hsz:its.toArray.size=its.length:=by simp
 unfold ksk_end
 try dsimp only
 simp only[rG,nU];by_cases h2:its.toArray.size<2
 ·rw[if_pos h2,if_pos h2];refine aA (aP ?_);rw[StateT.run_pure];refine aA (aP ?_)
  try dsimp only
  refine zeg (out:=dI its p) oD oK I gV ?_ ?_ rfl h
  ·unfold dI;rw[if_pos gV];simp;lia
  ·unfold dI;rw[if_pos gV];apply Array.toList_inj.mp;show ((keys.zip its.toArray).map (·.2)).toList=_;rw[Array.toList_map,ksk_zip];have:keys.toList.length=keys.size:=pG;exact List.map_snd_zip gV
 ·rw[if_neg h2,if_neg h2];have lR:2<=its.length:=by lia
  obtain⟨hr,Ir⟩:=hr lR;have ek:keys=keys.toList.toArray:=by rw[O_]
  rw[ek];refine aA (Xy (by rw[pG];lia) (λu hu=>?_) ?_)
  ·obtain⟨n,t,e⟩:=hk.all u hu;exact⟨n,t,e⟩
  refine aA (f9 (kat_run (κ:=oneType') (ks:=keys.toList) (vs:=its) (G:=λp' s'=>p'=p/\s'=s)
   (Q:=λst' s'=>arrOf st'=p.map (kas_item (keys.toList.toArray.zip its.toArray))/\failedOf st'=none/\s'=s)
   (by rw[pG];lia) lR nM (λp' st' s' a1 a2 a3 a4=>⟨by rw[a2,a4.1],a3,a4.2⟩) (Rm (λi j b C hl hC=>?_) ⟨rfl,rfl⟩ hr)) ?_ λ_ _ e=>e)
  ·obtain⟨x,y,e1,e2,rfl⟩:=cJ i j b hl;obtain⟨t1,f1⟩:=hk.get i x e1;obtain⟨t2,f2⟩:=hk.get j y e2;show wpAny _ _ (keyLt' oneType' (keys.toList.getD i Value.none) (keys.toList.getD j Value.none)) C _ s;rw[Et f1,Et f2];exact kat_lt_int hC
  ·rintro⟨⟨⟩,st'⟩ s' ⟨Er,hf,rfl⟩
   try dsimp only
   have hout:=kat_snds (ks:=keys.toList) (vs:=its) (by rw[pG];lia) Er;have e:List.toArray (p.toList.map λi=>its.getD i Value.none)=dI its p:=by
    unfold dI;rw[if_neg gV]
   rw[e] at hout;have Xu:(dI its p).size=its.length:=by rw[<-e,fH,fW,pG,Ir]
   exact zeg (out:=dI its p) oD oK I gV gV hout hf h
theorem zh9{G:Hp->Prop}{n:Nat}{P:PySem.Fin->Shared->Prop}(I:Inv X ao Z H s)(g:G H)(oD:Own X ao D)(Kg:H D=none)(ho:s.heap.get? D=some (seqObj "list" its.toArray n))(Dk:(fa,fo)∈ao)(rv:Vals ys its)(hlen:kz.length=ys.length)(nM:ys.length<64)(K:Kf X Z G fa fo ys kz)
  (cJ:∀i j b,lt i j=some b->∃x y,kz[i]?=some x/\kz[j]?=some y/\b=decide (x<y)) (hr:2<=ys.length->bF lt (kas_sort ys.length)=some p/\p.size=ys.length)
  (h:∀H' s' c,G H'->Inv X ao Z H' s'->H' D=none->s'.heap.get? D=some (seqObj "list" (dI its p) c)->P (.done (.ret .none)) s') :
  wpAny (model X.prog X.w) X.A.in1.in1 (ksk_tree D (.ref fa) false) P E s:=by
 have hl:(100:Nat)<=sizeLine:=by decide
 have hil:=rv.length;have hD:D<s.heap.objs.size:=bQ ho;obtain⟨e1,BL⟩ : ∃e1,(s.heap.update D (Obj.mapSeq λ_=>(#[]:Array Value))).get? D=some (seqObj "list" #[] e1):=⟨_,get?_update_seq ho λ_=>#[]⟩;have hkS:((s.heap.update D (Obj.mapSeq λ_=>(#[]:Array Value))).push (seqObj "tuple" its.toArray 0)).objs.size=s.heap.objs.size+1:=by rw[size_push',Gu]
 have FT:Own X ao (s.heap.objs.size+1):=I.own (wC _);have T4:H (s.heap.objs.size+1)=none:=I.hok.fresh (wC _);have oK:Own X (ao++[(D,seqObj "list" #[] e1)]) (s.heap.objs.size+1):=⟨FT.hL,FT.hf,FT.h1,FT.h2,λq hq=>by
  rcases nG.mp hq with hq|hq
  ·exact FT.h3 q (Gh _ hq)
  ·rcases nG.mp hq with hq|hq
   ·exact FT.h3 q (k_ _ hq)
   ·rw[rH.mp hq];exact cY (tL hD)⟩
 have kp:∀b o,b≠D->s.heap.get? b=some o->(((s.heap.update D (Obj.mapSeq λ_=>(#[]:Array Value))).push (seqObj "tuple" its.toArray 0)).push (seqObj "list" #[] 0)).get? b=some o:=λb o nb q=>
  cD _ (cD _ ((yM _ _ _ _ nb).trans q))
 unfold ksk_tree;refine aA (listItems_at ho rfl ?_);refine aA (Aq ho rfl ?_ (by rw[fH];lia) (rN _));refine aA (seqEpoch_at BL rfl ?_);refine aA (wpAny_newTuple ?_ (by show its.length<=_;lia));refine aA (Gy ?_ (rN _));refine pK ?_;rw[hkS];have I3:Inv X (ao++[(D,seqObj "list" #[] e1)]++[(s.heap.objs.size+1,seqObj "list" #[] 0)]) Z H {s with heap:=((s.heap.update D (Obj.mapSeq λ_=>(#[]:Array Value))).push (seqObj "tuple" its.toArray 0)).push (seqObj "list" #[] 0)}:=by
  have aZ:=oD.set (t':=s.toks) Kg I kp;have T6:=oD.pin Kg aZ (cD _ (cD _ BL)) λv z=>by cases z
  exact oK.pin T4 T6 (by rw[<-hkS];exact eF _ rfl) λv z=>by cases z
 show wpAny (model X.prog X.w) X.A.in1.in1 (ksk_rest D (.ref fa) false its.toArray e1 (.ref (s.heap.objs.size+1))) P E _;unfold ksk_rest;refine aA (yV ?_)
 first
  |rw[List.forIn_toArray]
  |(rw[<-Lb];simp only[List.toList_toArray])
 refine aA (ksk_fold (λi s'=>∃(H':Hp) (kA:Array Value) (e:Nat),G H'/\Inv X (ao++[(D,seqObj "list" #[] e1)]++[(s.heap.objs.size+1,seqObj "list" kA e)]) Z H' s'/\IntsAre kA.toList (kz.take i)) its 0 _
  ⟨H,#[],0,g,I3,by simpa using IntsAre.nil⟩ ?step ?done)
 case step=>
  rintro j x s' hx ⟨H1,kA,e,g1,I',hk⟩;simp only[Nat.zero_add] at hk ⊢;have hj:j<its.length:=(fX.mp hx).1;obtain⟨k,hkj⟩ : ∃k,kz[j]?=some k:=⟨_,fj gV⟩;obtain⟨v,hv⟩ : ∃v,ys[j]?=some v:=⟨_,fj gV⟩;obtain⟨u,hu,rvu⟩:=rv.get hv;rw[hx] at hu;cases hu;have hz:kA.size<=64:=by
   have h1:=hk.length;rw[pG,Ah] at h1
   lia
  refine aA (DW (f9 (K j v k hv hkj H1 _ s' x g1 I'.Dj (by simp[Dk]) rvu) (λw s2 he=>?_) λ_ _ hF=>hF.elim));obtain⟨v',H2,aZ,rv',rfl,g2⟩:=he;obtain⟨t2,rfl⟩:=rv';have aZ:=aZ.T3 I'.ok.hd
  try dsimp only
  obtain⟨nk,Kh,_⟩:=aZ.pin (s.heap.objs.size+1,seqObj "list" kA e) Zaa;obtain⟨c2,nJ⟩ : ∃c2,(s2.heap.update (s.heap.objs.size+1) (Obj.mapSeq (·.push (.int k t2)))).get? (s.heap.objs.size+1)=some (seqObj "list" (kA.push (.int k t2)) c2):=⟨_,get?_update_seq nk (·.push (.int k t2))⟩;have ek:kz.take (j+1)=kz.take j++[k]:=by rw[List.take_add_one,hkj];simp
  have ea:(kA.push (Value.int k t2)).toList=kA.toList++[Value.int k t2]:=by simp
  refine aA (Aq nk rfl ?_ gV (jQ (Nat.le_of_eq (Array.size_push ..)) gV));refine aP ⟨rfl,H2,kA.push (.int k t2),c2,g2,?_,by rw[ea,ek];exact ksk_snoc hk⟩;exact oK.pin Kh (oK.set (t':=s2.toks) Kh aZ.bZ λb o nb q=>(yM _ _ _ _ nb).trans q) nJ λv z=>by cases z
 case done=>
  rintro s' ⟨H1,kA,e,g1,I',hk⟩;have Cu:IntsAre kA.toList kz:=by
   have e3:kz.take (0+its.length)=kz:=List.take_of_length_le gV;rw[e3] at hk;exact hk
  have nk:=(I'.pin (s.heap.objs.size+1,seqObj "list" kA e) Zaa).1
  try dsimp only
  refine aA (listItems_at nk rfl ?_);exact ziZ oD oK I' Cu gV gV cJ (by rw[<-hil];exact hr) λs' c=>h H1 s' c g1
theorem zfW{G:Hp->Prop}{l:Addr}{Q:VK}(I:Inv X (ao++[(fa,fo)]) Z H s)(g:G H)(hq:cR X.K H l ys)(hlen:kz.length=ys.length)(nM:ys.length<64)(K:Kf X Z G fa fo ys kz)
  (cJ:∀i j b,lt i j=some b->∃x y,kz[i]?=some x/\kz[j]?=some y/\b=decide (x<y)) (hr:2<=ys.length->bF lt (kas_sort ys.length)=some p/\p.size=ys.length)
  (q:∀H' r,G H'->H' r=none->Q (.ref r) (upd H' r (.lst (fQ ys p)))) :
  wpAny (model X.prog X.w) X.A (call (.builtin "sorted") [.ref l] [(Str.ofString "key",.ref fa)]) (EP X ao Z Q) E s:=by
 have hl:(100:Nat)<=sizeLine:=by decide
 obtain⟨its,rv,pl,hz⟩:=I.list hq;have hil:=rv.length;refine call_function_entry_kw kind_sorted plain_sorted entry_sorted (ksk_s1 _ _) ?_;unfold Builtin.«sorted»;refine aA (m:=checkCount "sorted" 1 1 _) (aP ?_);refine aA (collect_list pl.isList ?_ gV);refine aA (Gy ?_ (by show its.length<=_;lia));have hsz:((s.heap.push (seqObj "list" #[] 0)).update s.heap.objs.size (Obj.mapSeq (·++its.toArray))).objs.size=s.heap.objs.size+1:=by
  rw[Gu,size_push']
 have Bb:(((s.heap.push (seqObj "list" #[] 0)).update s.heap.objs.size (Obj.mapSeq (·++its.toArray))).push (seqObj "list" its.toArray 0)).get? (s.heap.objs.size+1)=some (seqObj "list" its.toArray 0):=by
  rw[<-hsz];exact eF _ rfl
 have keep:∀b o,s.heap.get? b=some o->(((s.heap.push (seqObj "list" #[] 0)).update s.heap.objs.size (Obj.mapSeq (·++its.toArray))).push (seqObj "list" its.toArray 0)).get? b=some o:=λb o q=>by
  have cJ:b<s.heap.objs.size:=bQ q;rw[DK _ _ _ (by rw[hsz];exact cY (tL cJ)),yM _ _ _ _ (cY cJ),DK _ _ _ (cY cJ)];exact q
 show wpAny _ _ _ _ _ {s with heap:=((s.heap.push (seqObj "list" #[] 0)).update s.heap.objs.size (Obj.mapSeq (·++its.toArray))).push (seqObj "list" its.toArray 0)};rw[hsz];have oD:Own X (ao++[(fa,fo)]) (s.heap.objs.size+1):=I.own (wC _);have I1:=I.kept (t':=s.toks) keep;refine aA (pK (wpAny_call_entry_kw slot_list_sort ⟨_,Bb,rfl⟩ entry_list_sort ?body (ksk_l1 _ _)));show wpAny (model X.prog X.w) X.A.in1.in1 (Builtin.«list.sort» ⟨[.ref (s.heap.objs.size+1)],[(Str.ofString "key",.ref fa)]⟩) _ _ _;rw[ksk_t1];refine zh9 (n:=0) I1 g oD (I.hok.fresh (wC _)) Bb Zaa rv hlen nM K cJ hr λH' s' c g' aZ Lz hc=>⟨_,rfl,?_⟩;refine aP ⟨_,rfl,.ref (s.heap.objs.size+1),upd H' (s.heap.objs.size+1) (.lst (fQ ys p)),?_,rfl,q H' _ g' Lz⟩;have hn:X.s₀.heap.get? (s.heap.objs.size+1)=none:=Du (jQ I.sz (wC _));refine aZ.bZ.track hn Lz (λp hp=>oD.h3 p (by
  rcases nG.mp hp with z|z
  ·exact Gh _ z
  ·exact k_ _ (Gh _ z))) oD.hL oD.h2 ⟨?_,(dI its p).toList,c,Xx rv p,by rw[O_];exact hc⟩
 unfold fQ;by_cases h2:ys.length<2
 ·rw[if_pos h2];exact hz
 ·rw[if_neg h2,fW,pG,(hr gV).2];exact hz
end
end L2
namespace Mi
open PySem PySem.Spec PyProof.Rows L2 PySem.W
section
variable {K:Frag}{cA:Cl}{U U1:Ph}{H H':Hp}{s:S}
theorem Kl(hS:aD K cA U H s)(x:Ext ⟨U.z,[]⟩ H U1 H')(r1:aD K cA U1 H' []):Ext U H ⟨U1.z,U.l⟩ H'/\aD K cA ⟨U1.z,U.l⟩ H' s:=by
 refine⟨⟨⟨[],by simp,by simp⟩,λa h=>x.ql a h,λa h=>x.j_ a h,λa o h t n=>x.frame a o h t Zaa,x.stay⟩,?_⟩;exact⟨hS.len,λn o a e1 e2=>(hS.obj n o a e1 e2).map (λ_ t q=>x.frame a _ q t Zaa) λ_ _ r=>Rep.zl ((Rep.zl r []).mono x λa ha=>by simp at ha) _,hS.uniq,λa ha=>x.ql a (hS.lz a ha),r1.zt⟩
theorem zkd(t:vB H H'):Ext ⟨U.z,[]⟩ H ⟨U.z,[]⟩ H':=
 ⟨⟨[],by simp,by simp⟩,λ_ h=>h,λ_ h=>.inl h,λa o h nt _=>t.kp a o h λps e=>by rw[e] at nt;exact nt,t.st⟩
theorem Km(z:∀a,U.z a->∃o,H a=some o):aD K cA ⟨U.z,[]⟩ H []:=⟨rfl,λn o a e=>by simp at e,Ao,λa h=>by simp at h,z⟩
theorem zeP{f:D->M Xv}:∀{xs:List D} {ks:List Int},gA f xs=some ks->ks.length=xs.length/\∀(i:Nat) d k,xs[i]?=some d->ks[i]?=some k->f d []=some (.ok (.d (.int k)),[])
 |[],ks,h=>by
  cases h;exact⟨rfl,λi d k e=>by simp at e⟩
 |x::r,ks,h=>by
  unfold gA at h;split at h
  ·rename_i k e;obtain⟨ks',e1,rfl⟩:=kZ.mp h;obtain⟨l,q⟩:=zeP e1;refine⟨by simp[l],λi d k' ed ek=>?_⟩;cases i with
   |zero=>simp at ed ek;subst ed ek;exact e
   |succ i=>exact q i d k' (by simpa using ed) (by simpa using ek)
  ·cases h
end
section
variable {X:Cx}{cA:Cl}{aq:Nat->Nat->Bool}{aj:Bool}{F:Fn}{EX:XS}{a:Expr}{A B:E}{fz:Bool}{k:Nat}{c P:Addr}{params:Arguments}{body:Expr}{scope:Scope}{x:Str}{p pos yw kpos:Pos}
theorem zhJ(on:qM=true)(hc:X.aj=true)(iC:X.env.code=.ref c)(hC:codeHdIn X.K c P=true)(hl:jT X.K c P=true)(TY:Ke X.K X.mg)(oG:closureFor scope X.env=pure [])(hq:X.env.qual++"<lambda>"=iV)(vC:defaultsOf params X.env=([],[]))
  (Sc:bW [x] [x] scope) (hr:bx k X.A) (kO:∀pm c' ctv u,bindArgs (kla_fn "<lambda>" iV params body scope [] pm (.ref c') ctv) ⟨[u],[]⟩=pure [(x,u)])
  (hm:X.mg "sorted"=none) (hg:Gl X "sorted") (ha:SE X cA aq aj F EX a A)
  (hb:∀fa c' s' H',SE (dH (fu X.prog X.w) X.prog X.w X.K X.mg X.base [x] iV scope fa (.ref c') X.A.in1.in1 X.stack s' H' (λ_ _ _=>False) true) cA aq aj F (λ_ _ _ _=>False) body B)
  (he:starEach [a] X.env=(false,eval a X.env)::starEach [] X.env:=by rfl) :
  SE X cA aq aj F EX (.Call (.Name "sorted" p) [a] [⟨some "key",.Lambda params body scope yw,kpos⟩] pos) (.oJ fz A B):=by
 intro ao s Z H Q I hh;obtain⟨U,J,st,hL,hS,h⟩:=hh;cases aj with
 |false=>exact h.elim
 |true=>
 have h:Run X.K cA (M.bd (ev aq true F A J) λx=>match x with
   |.d (.fl xs)=>M.bd (M.opt (gA (λd=>ev aq true F B [some (.d d)]) xs)) λks=>M.bd (M.opt (jo (zE ks) xs)) λys=>newL fz ys
   |_=>M.no) U H st _ _:=h
 refine Ag (vP I hg hm Zn ?_ Ro Ro);refine callWith_kw (e:=a) (rest:=[]) ?_ (by rw[he];rfl) (by rw[he];rfl);have PAa:PA X [a] (zp (tE X.K cA EX (ev aq true F A)) Hx):=rQ ha wV he;refine aQ (PAa pos ao s Z H (λvs H1=>∃v U1 d st1,vs=[v]/\aW X.K cA U1 H1 Z J/\aD X.K cA U1 H1 st1/\aU X.K cA U1 H1 d v/\Run X.K cA ((λx:Xv=>match x with
   |.d (.fl xs)=>M.bd (M.opt (gA (λd=>ev aq true F B [some (.d d)]) xs)) λks=>M.bd (M.opt (jo (zE ks) xs)) λys=>newL fz ys
   |_=>M.no) d) U1 H1 st1 (λd _ U' H'=>∀v,aU X.K cA U' H' d v->Q v H') (eX X.K cA EX Z)) I ?_) λus s1 hx=>?_
 ·exact aX hL hS h λv H1 U1 d st1 x1 hL1 aG r1 h2=>⟨v,U1,d,st1,rfl,hL1,aG,r1,h2⟩
 obtain⟨vs0,H1,I1,rvs,v,U1,d,st1,rfl,hL1,aG,r1,h2⟩:=hx;obtain⟨u,rfl,ru⟩:=vals1 rvs;have key:∃xs,d=.d (.fl xs):=by
  cases d with
  |l n=>exact h2.elim
  |d d=>cases d<;>first|exact⟨_,rfl⟩|exact h2.elim
 obtain⟨xs,rfl⟩:=key;have h2:Run X.K cA (M.bd (M.opt (gA (λd=>ev aq true F B [some (.d d)]) xs)) λks=>M.bd (M.opt (jo (zE ks) xs)) λys=>newL fz ys) U1 H1 st1 (λd _ U' H'=>∀v,aU X.K cA U' H' d v->Q v H') (eX X.K cA EX Z):=h2;obtain⟨ks,ek,h3⟩:=h2.m9;obtain⟨zs,ez,h4⟩:=h3.m9;obtain⟨kl,kf⟩:=zeP ek;cases r1 with
 |d r1=>
 cases r1 with
 |@fl _ l vs hl1 rs=>
 cases ru;have hlen:=rs.len;obtain⟨pp,qC,nM,hz⟩ : ∃pp:Array Nat,(2<=vs.length->bF (zE ks) (kas_sort vs.length)=some pp/\pp.size=vs.length)/\vs.length<64/\∀{U':Ph} {H':Hp},aB X.K cA U' H' xs vs->aB X.K cA U' H' zs (fQ vs pp):=by
  unfold jo at ez;by_cases c2:xs.length<2
  ·rw[if_pos c2] at ez;cases ez;refine⟨#[],λz=>absurd z gV,by lia,λr=>?_⟩;have:fQ vs #[]=vs:=by unfold fQ;rw[if_pos gV]
   rw[this];exact r
  ·rw[if_neg c2] at ez;by_cases c3:xs.length<64
   ·rw[if_pos c3] at ez;cases e:bF (zE ks) (PySem.W.kas_sort xs.length) with
    |none=>rw[e] at ez;cases ez
    |some q=>
     rw[e] at ez;dsimp only at ez;by_cases hq:q.size=xs.length
     ·rw[if_pos hq] at ez;cases ez;refine⟨q,λ_=>⟨by rw[<-hlen];exact e,by lia⟩,by lia,λr=>?_⟩;have:fQ vs q=q.toList.map λi=>vs.getD i .non:=by unfold fQ;rw[if_neg gV]
      rw[this];exact r.CW q.toList
     ·rw[if_neg hq] at ez;cases ez
   ·rw[if_neg c3] at ez;cases ez
 show wpAny _ _ (evalAll [do let v <-eval (.Lambda params body scope yw) X.env;standAt pos;pure v]) _ _ s1;refine wpAny_evalAll_cons (aA (zhI I1 on iC hC hl TY oG hq vC λfa c' ctv pm H2 s2 I2 gc tx=>aA (tZ (aP (wpAny_evalAll_nil ?_)))));have x2:Ext ⟨U1.z,[]⟩ H1 ⟨U1.z,[]⟩ H2:=zkd tx;have r2:aD X.K cA ⟨U1.z,[]⟩ H2 []:=Km λa z=>by obtain⟨o,e⟩:=aG.zt a z;exact tx.st a o e
 refine zfW (G:=λH3=>∃U3,Ext ⟨U1.z,[]⟩ H2 U3 H3/\aD X.K cA U3 H3 []) (fo:=lamO params body scope pm c' ctv) (ys:=vs) (kz:=ks) (lt:=zE ks) (p:=pp) I2 ⟨_,Ext.refl,r2⟩ (LstAt.sU (LstAt.mono (U:=⟨U1.z,[]⟩) x2 (λa ha=>by simp at ha) hl1)) gV nM (λi v k' hv hk H3 ps s' u g3 aZ Dk rv=>?_) (λi j b e=>?_) qC λH' r g3 hn=>?_
 ·obtain⟨U3,x3,r3⟩:=g3;obtain⟨d,ed⟩ : ∃d,xs[i]?=some d:=by
   cases e:xs[i]? with
   |none=>rw[rs.none e] at hv;cases hv
   |some d=>exact⟨d,rfl⟩
  obtain⟨v2,ev2,rd⟩:=rs.get ed;rw[hv] at ev2;cases ev2;have ef:=kf i d k' ed hk;have rd3:Rep X.K cA U3 H3 d v:=((Rep.zl rd []).mono x2 λa ha=>by simp at ha).mono x3 λa ha=>by simp at ha
  obtain⟨oc,w,ws,tq,g1,g2,g4⟩:=gc;have gc3:GoodC H3 c':=⟨oc,w,ws,tq,x3.frame c' _ g1 trivial Zaa,g2,g4⟩;refine zhe (X:=X.Dj) (CX:=fu X.prog X.w) (cm:=true) aZ (aZ.pin _ (k_ _ Dk)).1 gc3 Sc (λ_=>aZ.ok.hd hc) hr.depth (kO pm c' ctv) rv (hb fa c' s' H3) ?_ (λe s' z=>by obtain⟨_,_,_,_,_,_,_,_,_,_,z⟩:=z;exact z);refine⟨U3,[some (.d d)],[],⟨rfl,λj y e=>?_⟩,r3,?_⟩
  ·cases j with
   |zero=>simp at e;subst e;exact⟨v,rfl,.d rd3⟩
   |succ j=>simp at e
  ·unfold Run;rw[ef];intro U' H' x' r' v' rv';cases rv' with
   |d rv'=>
    cases rv';exact⟨rfl,U',x3.trans x',r'⟩
 ·unfold zE at e;cases e1:ks[i]? with
  |none=>rw[e1] at e;cases e
  |some a=>
   cases e2:ks[j]? with
   |none=>rw[e1,e2] at e;cases e
   |some b'=>
    rw[e1,e2] at e;cases e;exact⟨a,b',rfl,rfl,rfl⟩
 ·obtain⟨U3,x3,r3⟩:=g3;obtain⟨xe,re⟩:=Kl aG (x2.trans x3) r3;have rs3:aB X.K cA ⟨U3.z,U1.l⟩ H' xs vs:=rs.mono xe aG.lz;exact X5 re (h4.ext xe) r _ hn (hz rs3)
end
structure JL(X:Cx):Prop where
 ex:∃c P,X.env.code=.ref c/\codeHdIn X.K c P=true/\jT X.K c P=true/\Ke X.K X.mg
structure Dl(K:Frag)(mg:Str->Option Value)(fd:FuncData):Prop where
 ex:∃c P,fd.code=.ref c/\codeHdIn K c P=true/\jT K c P=true/\Ke K mg
section
variable {X:Cx}{cA:Cl}{aq:Nat->Nat->Bool}{aj:Bool}{F:Fn}{EX:XS}{a:Expr}{A B:E}{fz:Bool}{k:Nat}{params:Arguments}{body:Expr}{scope:Scope}{p pos yw kpos:Pos}
theorem ziM(x:Str)(L:JL X)(hr:bx k X.A)(hc:X.aj=true)(hm:X.mg "sorted"=none)(hg:JK X "sorted" .globalImplicit)(ha:JE X cA aq aj F EX a A)
  (hb:∀fa c' s' H',JE (dH (fu X.prog X.w) X.prog X.w X.K X.mg X.base [x] iV scope fa (.ref c') X.A.in1.in1 X.stack s' H' (λ_ _ _=>False) true) cA aq aj F (λ_ _ _ _=>False) body B)
  (oG:closureFor scope X.env=pure []:=by rfl) (hq:X.env.qual++"<lambda>"=iV:=by kernel_rfl) (vC:defaultsOf params X.env=([],[]):=by rfl)
  (kO:∀pm c' ctv u,bindArgs (kla_fn "<lambda>" iV params body scope [] pm (.ref c') ctv) ⟨[u],[]⟩=pure [(x,u)]:=by intros;rfl)
  (Sc:bW [x] [x] scope:=by exact⟨rfl,rfl,rfl,dk,rfl,dk,dk⟩) (he:starEach [a] X.env=(false,eval a X.env)::starEach [] X.env:=by rfl) (on:qM=true:=by rfl) :
  JE X cA aq aj F EX (.Call (.Name "sorted" p) [a] [⟨some "key",.Lambda params body scope yw,kpos⟩] pos) (.oJ fz A B):=by
 obtain⟨c,P,l1,l2,l3,l4⟩:=L.ex;exact⟨zhJ on hc l1 l2 l3 l4 oG hq vC Sc hr kO hm hg.o ha.o (λfa c' s' H'=>(hb fa c' s' H').o) he⟩
end
theorem fJL{P:Program}{w:World}{K:Frag}{mg:Str->Option Value}{base:Heap}{cA:Cl}{aq:Nat->Nat->Bool}{T:Nat->Option Df}{x:Str}{st:Stmt}{ps:List Str}{k n:Nat}{cm:Bool}{df:Df}(D:D3 K mg x st ps)(LK:Dl K mg (fdOf K x st))(N:List Str)(hT:T n=some df)
  (hb:∀(cdv:Value) (A:Around) (outer:List Env) (s:Shared) (H:Hp) (E:XK),bx k (A.deeper (envOfC x (au st) s.heap.objs.size (fV K x) cdv))->JL (dH (fu P w) P w K mg base N x (au st) (fV K x) cdv A outer s H E cm)->
   JB (dH (fu P w) P w K mg base N x (au st) (fV K x) cdv A outer s H E cm) cA aq cm (λc=>call aq T k c) (λ_ C dx H'=>E C dx H') (aJ st) df.body) (S:bW N ps (au st):=by exact⟨rfl,rfl,rfl,dk,rfl,dk,dk⟩) (hp:df.eU=ps.length:=by rfl) (hm:df.many=N.length:=by rfl) :
  cF P w K mg base (fu P w) cm (k+1) (fV K x) (fdOf K x st) ps (lG K cA (call aq T (k+1) cm n)):=by
 obtain⟨c,P',l1,l2,l3,l4⟩:=LK.ex;obtain⟨oc,od,kV,doc,pm,an,cdv,ct,osl,e,lk,iC⟩:=D.f.ex;rw[e] at lk l1 ⊢;have l1:cdv=.ref c:=l1;refine Qy lk iC S (λvs H Q E ⟨U,ds,s,r,hS,h⟩=>?_) λA outer s H vs Q E hr ⟨U,ds,st',r,hS,h⟩=>?_
 ·rw[<-r.len,(Ng hT h).1,hp]
 ·obtain⟨hl,h2⟩:=Ng hT h;exact⟨_,(hb cdv A outer s H E (hr.deeper _) ⟨c,P',l1,l2,l3,l4⟩).o,U,_,st',Sx r hl.symm hm,hS,h2⟩
structure kW(K:Frag)(h:Heap):Prop where
 ex:∃(q:Addr×FuncData) (c P:Addr),wD K "plain_rings"=some q/\q.2.code=.ref c/\codeHdIn K c P=true/\jT K c P=true/\K.lookup P=none/\h.get? P=some (tabObj #[])/\(∀c' P',jT K c' P'=true->P'=P)/\bmB K=true
theorem zi8{K:Frag}{c P:Addr}(h:jT K c P=true):∃o,K.lookup c=some o/\lM o=some (.ref P):=by
 unfold jT at h;split at h
 ·rename_i o e;refine⟨o,e,?_⟩;split at h
  ·rename_i vs ed;rw[eG] at h;obtain⟨h1,h2⟩:=h;split at h1
   ·rename_i q t e1;split at h2
    ·rename_i p Rj;unfold lM;rw[ed];dsimp only;rw[e1];dsimp only;rw[h1];dsimp only;rw[Rj,nR.mp h2]
    ·cases h2
   ·cases h1
  ·cases h
 ·cases h
theorem ziU{K:Frag}{c P:Addr}{o:Obj}(e:K.lookup c=some o)(h:lM o=some (.ref P)):jT K c P=true:=by
 unfold lM at h;split at h
 ·rename_i vs ed;split at h
  ·rename_i q t e1;split at h
   ·rename_i eq;unfold jT;rw[e];dsimp only;rw[ed];dsimp only;rw[e1,h];dsimp only;rw[eq];simp
   ·cases h
  ·cases h
 ·cases h
theorem zh7{o:Obj}(h:qL o=true):o=tabObj #[]:=by
 unfold qL at h;split at h
 ·rename_i vs sl;rw[eG] at h;rw[Array.isEmpty_iff.mp h.1,Array.isEmpty_iff.mp h.2]
 ·cases h
theorem ziK{K:Frag}{h:Heap}(e:Av K h=true):kW K h:=by
 unfold Av at e;split at e
 ·rename_i q hq;split at e
  ·rename_i c hc;split at e
   ·rename_i P hP;simp only[eG,gY] at e;obtain⟨⟨⟨⟨e1,e2⟩,e3⟩,e4⟩,e5⟩:=e;obtain⟨o,ho,hi⟩:=yK.mp hP;refine⟨q,c,P,hq,hc,e1,ziU ho hi,by simpa using e2,?_,λc' P' hl=>?_,e4⟩
    ·unfold GR at e3;split at e3
     ·rename_i o' pN;rw[pN,zh7 e3]
     ·cases e3
    ·obtain⟨o',pN,rY⟩:=zi8 hl;have:=e5 (c',o') (Ti pN);dsimp only at this;rw[rY] at this;exact nR.mp this
   ·cases e
  ·cases e
 ·cases e
theorem kW.keeps{K:Frag}{h h':Heap}(L:kW K h)(k:∀b o,h.get? b=some o->h'.get? b=some o):kW K h':=by
 obtain⟨q,c,P,a1,a2,a3,a4,a5,a6,a7⟩:=L.ex;exact⟨q,c,P,a1,a2,a3,a4,a5,k _ _ a6,a7⟩
theorem znD{K:Frag}{h:Heap}{mg:Str->Option Value}(e:bmB K=true)(X:K.In h)(G:h.Ns mainGlobals mg):Ke K mg:=by
 unfold bmB at e;split at e
 ·rename_i bm hb;split at e
  ·rename_i d sl hl;simp only[eG,nR,bne_iff_ne] at e;obtain⟨⟨e1,e2⟩,e3⟩:=e;exact⟨bm,_,mg_of X G hb,e2,e3,hl,rfl,by rw[e1],rfl⟩
  ·cases e
 ·cases e
theorem kW.lk{K:Frag}{h:Heap}{mg:Str->Option Value}(L:kW K h)(X:K.In h)(G:h.Ns mainGlobals mg)(st:Stmt):Dl K mg (fdOf K "plain_rings" st):=by
 obtain⟨q,c,P,a1,a2,a3,a4,a5,a6,a7,a8⟩:=L.ex;refine⟨c,P,?_,a3,a4,znD a8 X G⟩;unfold fdOf;rw[a1];exact a2
theorem zgu{P:Program}{w:World}{K:Frag}{mg mb:Str->Option Value}{CX:rR}{k:Nat}{fa a:Addr}{fd:FuncData}{x:Str}{sp:Sp}{s₁:Shared}{vs:List Value}{ns:List Int}
  (KX:K.In s₁.heap) (hns:s₁.heap.Ns mainGlobals mg) (hb:s₁.heap.Ns builtinsNs mb) (hbb:∀x:Str,x≠"__name__"->mb x=bootBuiltins x) (T7:s₁.heap.NoLimit) (hg:s₁.gens=#[])
  (ha:s₁.heap.get? a=some {cls:=.type "list",data:=.seq vs.toArray}) (hi:IntsAre vs ns) (hl:ns.length<=sizeLine) (hr:bx k callerA)
  (F:∀base:Heap,K.In base->base.Ns mainGlobals mg->cF P w K mg base CX true k fa fd [x] sp) (kO:∀(s:Shared) (u:Value),BindsTo s fd ⟨[u],[]⟩ [(x,u)])
  (Ml:∀H:Hp,cR K H a (ns.map V.int)->sp [.ref a] H (λv _=>v=.bl true) λ_ _ _=>False)
  (hCX:∀H e s',CX [] H s₁ (λ_ _ _=>False) e s'->False) (LH:kW K s₁.heap) :
  codeAny (model P w) callerA (.call (.ref fa) ⟨[.ref a],[]⟩) (λr s'=>r=.ok (.ret (.bool true))/\OldK s₁.heap s'.heap/\s'.os=s₁.os/\AllBare s'.gens) s₁:=by
 have rv:=Xd hi;have lenV:=hi.length;obtain⟨q,c,T,a1,a2,a3,a4,a5,a6,a7,a8⟩:=LH.ex;have nTa:T≠a:=λz=>by rw[z,ha] at a6;cases a6
 have core:∀H:Hp,H T=some (.lN #[])->cR K H a (ns.map V.int)->iM P w H s₁.heap->(∀b,H b≠none->b=T\/(b=a/\∃o xs,H b=some (.nZ o (.lst xs))))->(H a≠none->K.lookup a=none)->
   codeAny (model P w) callerA (.call (.ref fa) ⟨[.ref a],[]⟩) (λr s'=>r=.ok (.ret (.bool true))/\OldK s₁.heap s'.heap/\s'.os=s₁.os/\AllBare s'.gens) s₁:=by
  intro H hT hS hok hA hK;have rC:∀{b:Addr} {o:Obj},s₁.heap.get? b=some o->H b=none->(mL s₁.heap H).get? b=some o:=λe n=>zhT e n;have HD:∀{b:Addr} {o:Obj} {es:Array DictEntry} {ep:Nat},s₁.heap.get? b=some o->o.data=.dict es ep->H b=none:=λ{b o es ep} e d=>by
   cases qq:H b with
   |none=>rfl
   |some u=>
    rcases hA b (by rw[qq];simp) with z|⟨z,_⟩
    ·subst z;rw[a6] at e;cases e;have d':Data.fields #[]=Data.dict es ep:=d;cases d'
    ·subst z;rw[ha] at e;cases e;have d':Data.seq vs.toArray _=Data.dict es ep:=d;cases d'
  have NK:∀{b:Addr} {m:Str->Option Value},s₁.heap.Ns b m->(mL s₁.heap H).Ns b m:=λ{b m} ⟨o,es,ep,e,d,r⟩=>⟨o,es,ep,rC e (HD e d),d,r⟩;have hKb:K.In (mL s₁.heap H):=λb o e=>rC (KX b o e) (by
   cases qq:H b with
   |none=>rfl
   |some u=>
    rcases hA b (by rw[qq];simp) with z|⟨z,_⟩
    ·subst z;rw[a5] at e;cases e
    ·subst z;rw[hK (by rw[qq];simp)] at e;cases e)
  have hM:Mod K mg (mL s₁.heap H):=⟨hKb,NK hns,⟨mb,NK hb,hbb⟩,let ⟨mc,h1,h2⟩:=T7;⟨mc,NK h1,h2⟩⟩;have e0:pR P w K mg (mL s₁.heap H) callerA [] s₁ H:=⟨rfl,hM,λb o e=>zjT e,Nat.le_of_eq (zfB _ _),trivial,⟨λb hb=>absurd (show b∈([]:List Addr) from hb) Zaa,λ_ c' P' hc=>⟨#[],by rw[a7 c' P' hc];exact hT,.nil⟩⟩,hok,.of_eq hg⟩;refine yS ((F _ hKb (NK hns)).run callerA [] s₁ H ⟨[.ref a],[]⟩ [.ref a] [.ref a] _ _ (λ_=>rfl) hr e0 (kO s₁ (.ref a)) (.cons rfl .nil) (Ml H hS)) λr s' h=>?_;cases r with
  |error e=>exact(hCX H e s' h).elim
  |ok fl=>
   cases fl with
   |next=>exact False.elim h
   |brk=>exact False.elim h
   |cont=>exact False.elim h
   |ret u=>
    obtain⟨v,H',os,bare,un,Ko,r',q'⟩:=h;have q':v=.bl true:=q';subst q';obtain rfl:u=Value.bool true:=r';obtain⟨more,hT',_⟩:=un.jB T #[] hT;have oT:s'.heap.get? T=some (tabObj (#[]++more)):=Ko T _ hT';have ht₀:s₁.heap.TableAt c T #[]:=(codeHd_of_K KX a3).tab a6;have kept:∀b o,b≠T->s₁.heap.get? b=some o->s'.heap.get? b=some o:=λb o nb e=>by
     cases qq:H b with
     |none=>exact un.keep b o e qq (by intro z;exact absurd (show b∈([]:List Addr) from z) Zaa) Zaa
     |some u=>
      rcases hA b (by rw[qq];simp) with z|⟨_,ob,xs,z⟩
      ·exact absurd z nb
      ·have z2:=un.iW b ob _ z;obtain⟨e1,_⟩:=hok b _ z;obtain⟨e2,_⟩:=Ko b _ z2;rw[e] at e1;cases e1;exact e2
    refine⟨rfl,⟨λb o e=>?_,λb o e=>?_⟩,os,bare⟩
    ·by_cases z:b=T
     ·subst z;rw[a6] at e;cases e;exact .inr (.inl ⟨ht₀.isCodeTable,rfl,#[],more,rfl,oT⟩)
     ·exact .inl (kept b o z e)
    ·by_cases z:b=T
     ·exact⟨_,by rw[z];exact oT⟩
     ·exact⟨o,kept b o z e⟩
 have Aa:∀H,bI P w H s₁.heap T (.lN #[]):=λH=>a6;cases hk:K.lookup a with
 |some o=>
  have e:=KX a o hk;rw[ha] at e;cases e;refine core (λb=>if b=T then some (.lN #[]) else none) (if_pos rfl) (.inr ⟨_,vs.toArray,_,hk,rfl,rfl,rfl,by rw[fH,lenV];exact hl,by simpa using rv⟩) (λb u z=>?_) (λb z=>?_) λz=>absurd (if_neg (Ne.symm nTa)) z
  ·by_cases hb:b=T
   ·subst hb;have z':=(if_pos rfl).symm.trans z;cases z';exact Aa _
   ·have z':=(if_neg hb).symm.trans z;cases z'
  ·by_cases hb:b=T
   ·exact .inl hb
   ·exact absurd (if_neg hb) z
 |none=>
  refine core (λb=>if b=T then some (.lN #[]) else if b=a then some (.nZ {cls:=.type "list",data:=.seq vs.toArray} (.lst (ns.map V.int))) else none) (if_pos rfl) (.inl (.inr ⟨{cls:=.type "list",data:=.seq vs.toArray},by show (if a=T then _ else _)=_;rw[if_neg (Ne.symm nTa),if_pos rfl]⟩)) (λb u z=>?_) (λb z=>?_) λ_=>hk
  ·by_cases hb:b=T
   ·subst hb;have z':=(if_pos rfl).symm.trans z;cases z';exact Aa _
   ·have z':=(if_neg hb).symm.trans z;by_cases Dm:b=a
    ·have z'':=(if_pos Dm).symm.trans z';cases z'';subst Dm;exact⟨ha,by rw[fW];exact hl,vs,_,rv,ha⟩
    ·have z'':=(if_neg Dm).symm.trans z';cases z''
  ·by_cases hb:b=T
   ·exact .inl hb
   ·by_cases Dm:b=a
    ·exact .inr ⟨Dm,_,_,(if_neg hb).trans (if_pos Dm)⟩
    ·exact absurd ((if_neg hb).trans (if_neg Dm)) z
end Mi
namespace Mi
open PySem PySem.Spec PyProof.Rows L2
section
variable {K:W.Frag}{cA:Cl}{U:Ph}{H:Hp}{s:S}
theorem zeL{β:Type}{c:Nat}{x:Xv}{v:V}{k:List D->M β}{P:β->S->Ph->Hp->Prop}{Ee:Nat->List D->S->Ph->Hp->Prop}(r:aU K cA U H x v)(h:Run K cA (M.bd (sJ c x) k) U H s P Ee) :
  ∃fs ad dx vs,v=.ref ad/\H ad=some (.ins (cA.b c) dx ((cA.g c).zip vs))/\aB K cA U H fs vs/\Run K cA (k fs) U H s P Ee:=by
 cases r with
 |l _=>exact h.elim
 |d r=>cases r with
  |@ob ad e fs vs q r=>
   have h2:Run K cA (M.bd (if e=c then M.ret fs else M.no) k) U H s P Ee:=h;clear h;by_cases z:e=c
   ·rw[if_pos z] at h2;subst z;obtain⟨_,dx,q1,_⟩:=q;exact⟨fs,ad,dx,vs,rfl,q1,r,h2⟩
   ·rw[if_neg z] at h2;exact h2.elim
  |_=>exact h.elim
theorem Run.qt'{α:Type}{m:M α}{P:α->S->Ph->Hp->Prop}{Ee Ee':Nat->List D->S->Ph->Hp->Prop}(h:Run K cA (M.qt m) U H s P Ee):Run K cA m U H s P Ee':=by
 unfold Run M.qt at *;cases e:m s with
 |none=>rw[e] at h;exact h
 |some r=>
  obtain⟨r,s1⟩:=r;rw[e] at h;cases r with
  |ok a=>exact h
  |er c f=>exact h.elim
theorem zcp:∀{ns:List Str} {vs:List V} {m:Str},m∉ns->(ns.zip vs).lookup m=none
 |[],vs,m,_=>by simp
 |n::ns,[],m,_=>by simp
 |n::ns,v::vs,m,h=>by
  rw[Gp,pH,show (m==n)=false from Dv.mpr λe=>h (by simp[e])];exact zcp λz=>h (gU _ z)
end
structure Ow(K:W.Frag)(cA:Cl)(c:Nat):Prop where
 cl:Cls K (cA.b c)
 nf:∀f∈cA.g c,gZ K (cA.b c) f
 nd:(cA.g c).Nodup
section
variable {X:Cx}{cA:Cl}{aq:Nat->Nat->Bool}{aj:Bool}{F:Fn}{EX:XS}{a e:Expr}{es:List Expr}{A:E}{Xs:Es}{pos apos p:Pos}{x:Str}
theorem FW{c i:Nat}(o:Ow X.K cA c)(ha:JE X cA aq aj F EX a A)(hi:((cA.g c)[i]?==some x)=true:=by kernel_rfl)(hb:attributeBase a x X.env (eval a X.env)=eval a X.env:=by rfl):JE X cA aq aj F EX (.Attribute a x pos) (.of A c i):=⟨PE.weak (zkQ ha.o hb) λZ H Q hh=>un hh λU J s hL hS h=>by
 refine aX hL hS h λy H1 U1 d1 s1 x1 hL1 aG r1 h1=>?_;obtain⟨fs,ad,dx,vs,rfl,q1,q2,h2⟩:=zeL r1 h1;have hi:(cA.g c)[i]?=some x:=nR.mp hi;cases ef:fs[i]? with
 |none=>rw[ef] at h2;exact h2.elim
 |some d=>
  rw[ef] at h2;obtain⟨v,e1,rv⟩:=q2.get ef;exact⟨ad,_,dx,_,v,rfl,q1,o.cl,o.nf x (gJ hi),zfo o.nd hi e1,h2.bC aG v (.d rv)⟩⟩
theorem zfA:Passes (fu X.prog X.w) X λ_ _ _=>False:=λao Z H s e s' I h=>by
 obtain⟨_,_,_,_,_,_,_,_,_,_,z⟩:=h;exact z.elim
structure Mt(K:W.Frag)(C:Addr)(m q:Str)(st:Stmt)(ps:List Str)(f:Addr)(fd:FuncData):Prop where
 fn:oV K m q st f fd
 mt:Meth K C m f
 bd:Binds K fd ps []
theorem yx{c f k:Nat}{cm:Bool}{m q:Str}{st:Stmt}{ps:List Str}{fa:Addr}{fd:FuncData}{pl:Sem Bool}(o:Ow X.K cA c)(D:Mt X.K (cA.b c) m q st ps fa fd)(Fo:cF X.prog X.w X.K X.mg X.base (fu X.prog X.w) cm k fa fd ps (lG X.K cA (F f)))(hr:bx k X.A)(ha:JE X cA aq aj F EX a A)(hb:JA X cA aq aj F EX (e::es) Xs)
  (hm:decide (m∉cA.g c)=true:=by kernel_rfl) (i_:cm=true->X.aj=true:=by first|exact λ_=>rfl|exact λz=>nomatch z) (he:aC e=true:=by rfl) (cT:es.all aC=true:=by rfl)
  (ht:eval (.Call (.Attribute a m apos) (e::es) [] pos) X.env=(do
   let ov <-eval a X.env
   standAt apos.atName
   let (f,first) <-holding [ov] (getMethod ov m pl)
   callWith pos f first (backTo pos (starEach (e::es) X.env)) (backToKw pos (keywordEach [] X.env))):=by rfl):JE X cA aq aj F EX (.Call (.Attribute a m apos) (e::es) [] pos) (.cm c f A Xs):=⟨PE.weak (zjk (pl:=pl) (oh:=[]) ha.o o.cl D.mt Fo i_ hr D.bd .nil zfA hb.o (bf he) (bD cT) ht) λZ H Q hh=>un hh λU J s hL hS h=>by
 refine aX hL hS h λy H1 U1 d1 s1 x1 hL1 aG r1 h1=>?_;obtain⟨fs,ad,dx,vs,rfl,q1,q2,h2⟩:=zeL r1 h1;refine⟨ad,dx,_,rfl,q1,zcp (lC hm),oO hL1 aG h2 λus H2 U2 ds s2 x2 hL2 aM r2 h3=>?_⟩;rw[wA];obtain⟨U0,s0,a1,a2,a3⟩:=zev (EE:=λ_ _ _ _=>False) aM (.cons (r1.mono x2 aG.lz) r2) (λ_ _ _ _ _ _ z=>z) (h3.qt');refine⟨U0,_,s0,a1,a2,?_⟩;unfold Run at a3 ⊢;split at a3
 ·exact a3
 ·exact λU' H' x r=>(a3 U' H' x r).elim
 ·exact a3⟩
end
noncomputable def NP(K:W.Frag)(cA:Cl)(c:Nat)(m:List Xv->M Xv):Sp:=λvs H Q _=>∃x dx us U H0 xs s,vs=.ref x::us/\H0 x=none/\H0 dx=none/\dx≠x/\H=upd (upd H0 dx (.own x)) x (.ins (cA.b c) dx [])/\aR K cA U H0 xs us/\aD K cA U H0 s /\
 Run K cA (m (.d .any::xs)) U H0 s (λr _ U' H'=>∀ds ws,r=.d (.tup ds)->aB K cA U' H' ds ws->fG U' H' x (.ins (cA.b c) dx ((cA.g c).zip ws))->(cA.g c).length=ws.length->Q .non H') (λ_ _ _ _ _=>False)
section
variable {K:W.Frag}{cA:Cl}{U:Ph}{H:Hp}{s:S}
theorem zhS{xs:List Xv}{vs:List V}(h:locs xs=[])(r:aR K cA U H xs vs)(l:List Addr):aR K cA ⟨U.z,l⟩ H xs vs:=by
 induction r with
 |nil=>exact .nil
 |cons a r ih=>cases a with
  |d a=>exact .cons (.d (Rep.zl a l)) (ih h)
  |l a=>cases h
theorem Ext.made{x dx:Addr}{C:Addr}(hx:H x=none)(hd:H dx=none)(hn:dx≠x):Ext U H (U.mark x) (upd (upd H dx (.own x)) x (.ins C dx [])):=by
 have g:bG H (upd (upd H dx (.own x)) x (.ins C dx [])):=(bG.new hd).trans (bG.new (by rw[bT hn.symm];exact hx));exact⟨⟨[],by simp[Ph.mark],by simp⟩,λa z=>.inl z,λa z=>z.imp id λe=>by rw[e];exact hx,λa o h _ _=>g a o h,λa o h=>⟨o,g a o h⟩⟩
theorem aD.made{x dx:Addr}{C:Addr}(hS:aD K cA U H s)(hx:H x=none)(hd:H dx=none)(hn:dx≠x):aD K cA (U.mark x) (upd (upd H dx (.own x)) x (.ins C dx [])) s:=by
 have xt:=Ext.made (U:=U) (C:=C) hx hd hn;refine⟨hS.len,λn o a e1 e2=>(hS.obj n o a e1 e2).map (λu _ q=>?_) λ_ _ r=>r.mono xt hS.lz,hS.uniq,λa ha=>.inl (hS.lz a ha),λa z=>?_⟩
 ·have n1:a≠x:=λy=>by rw[y,hx] at q;cases q
  have n2:a≠dx:=λy=>by rw[y,hd] at q;cases q
  rw[bT n1,bT n2];exact q
 ·rcases z with z|z
  ·obtain⟨o,e⟩:=hS.zt a z;exact xt.stay a o e
  ·subst z;exact⟨_,iB⟩
end
section
variable {X:Cx}{cA:Cl}{aq:Nat->Nat->Bool}{aj:Bool}{F:Fn}{EX:XS}{e:Expr}{es:List Expr}{Xs:Es}{pos p:Pos}{x:Str}
theorem zoj{c f k:Nat}{cm:Bool}{ps:List Str}{fa:Addr}{fd:FuncData}(M:Mk X.K (cA.b c) fa)(Fo:cF X.prog X.w X.K X.mg X.base (fu X.prog X.w) cm k fa fd ps (NP X.K cA c (F f)))(hr:∀us,bx k (X.A.under (.builtin "type.__call__" ⟨.ref (cA.b c)::us,[]⟩)))(hb:Binds X.K fd ps [])(hm:X.mg x=some (.ref (cA.b c)))(hg:JK X x .globalImplicit)
  (ha:JA X cA aq aj F EX (e::es) Xs) (h:okN x=true:=by kernel_rfl) (i_:cm=true->X.aj=true:=by first|exact λ_=>rfl|exact λz=>nomatch z) (he:aC e=true:=by rfl) (cT:es.all aC=true:=by rfl):JE X cA aq aj F EX (.Call (.Name x p) (e::es) [] pos) (.mk c f Xs):=⟨PE.weak (zjS (oh:=[]) M Fo i_ hr hg.o hm hb .nil zfA ha.o (uZ h).1 (bf he) (bD cT)) λZ H Q hh=>un hh λU J s hL hS h=>
 oO hL hS h λus H1 U1 ds s1 x1 hL1 aG r1 h1 x dx hx hd hn=>by
  rw[wA];unfold Run zJ at h1;by_cases hl:locs ds=[]
  ·simp only[if_pos hl] at h1;refine⟨x,dx,us,⟨U1.z,[]⟩,H1,ds,[],rfl,hx,hd,hn,rfl,zhS hl r1 [],⟨rfl,(λn o a e=>by simp at e),Ao,(λa ha=>by cases ha),aG.zt⟩,?_⟩;unfold Run;cases e:F f (.d .any::ds) [] with
   |none=>simp only[e] at h1
   |some r=>
    obtain⟨r,s2⟩:=r;simp only[e] at h1;cases r with
    |er c f=>exact h1.elim
    |ok r=>
     intro U' H' xt aM ts ws er rs kp hlen;subst er;have nx:¬U1.z x:=aG.nz hx;have ne:∀a o,H1 a=some o->a≠x:=λa o q y=>by rw[y,hx] at q;cases q
     have xt2:Ext U1 H1 ⟨λa=>U'.z a/\a≠x,U1.l⟩ H':=by
      refine⟨⟨[],by simp,by simp⟩,λa z=>⟨xt.ql a z,λy=>nx (y▸z)⟩,λa z=>xt.j_ a z.1,λa o q t _=>xt.frame a o q t Zaa,xt.stay⟩
     refine⟨rfl,h1 _ H' xt2 ⟨aG.len,λn o a e1 e2=>(aG.obj n o a e1 e2).map (λu t q=>xt.frame a u q t Zaa) λ_ _ r=>r.mono xt2 aG.lz,aG.uniq,λa ha=>⟨xt.ql a (aG.lz a ha),λy=>nx (y▸aG.lz a ha)⟩,λa z=>aM.zt a z.1⟩ _ (.d (.ob ⟨λz=>z.2 rfl,dx,kp.at_,hlen⟩ (rs.kE (U':=⟨λa=>U'.z a/\a≠x,U1.l⟩) λ_ z=>z.1)))⟩
  ·simp only[if_neg hl] at h1⟩
end
structure yC(X:Cx)(cA:Cl)(aq:Nat->Nat->Bool)(aj:Bool)(F:Fn)(EX:XS)(c:Nat)(body:List Stmt)(is:Es)(ns:List Str):Prop where
 o:pO X body λD Z H=>∃U0 H0 U J s x dx done vs ys,Ext U0 H0 U H/\aW X.K cA U H Z J/\aD X.K cA U H s/\H0 x=none/\Z[0]?=some (some (.ref x))/\fG U H x (.ins (cA.b c) dx (done.zip vs))/\aR X.K cA U H ys vs/\done.length=vs.length/\done++ns=cA.g c/\done.length+ns.length<=900 /\
  Run X.K cA (M.bd (evs aq aj F is J) λzs=>cL (ys++zs)) U0 H0 s (λes _ U' H'=>∀ws,aB X.K cA U' H' es ws->fG U' H' x (.ins (cA.b c) dx ((cA.g c).zip ws))->(cA.g c).length=ws.length->D.nx Z H') (eX X.K cA EX Z)
theorem zel{f:Str}{v:V}:∀{fs:List (Str×V)},f∉fs.map (·.1)->fP f v fs=fs++[(f,v)]
 |[],_=>rfl
 |(g,x)::r,h=>by
  unfold fP;rw[if_neg λe=>h (by simp[e]),zel λz=>h (gU _ z)];rfl
theorem aR.out{K:W.Frag}{cA:Cl}{U:Ph}{H H':Hp}(x:cN U H H'):∀{ds:List Xv} {vs:List V},aR K cA U H ds vs->aR K cA U H' ds vs
 |_,_,.nil=>.nil
 |_,_,.cons h r=>.cons (h.out x) (aR.out x r)
theorem aR.app{K:W.Frag}{cA:Cl}{U:Ph}{H:Hp}:∀{ds es:List Xv} {vs us:List V},aR K cA U H ds vs->aR K cA U H es us->aR K cA U H (ds++es) (vs++us)
 |_,_,_,_,.nil,s=>s
 |_,_,_,_,.cons h r,s=>.cons h (aR.app r s)
theorem Run.er{K:W.Frag}{cA:Cl}{U:Ph}{H:Hp}{s:S}{α:Type}{m:M α}{P:α->S->Ph->Hp->Prop}{Ee:Nat->List D->S->Ph->Hp->Prop}(h:Run K cA m U H s P λ_ _ _ _ _=>False):Run K cA m U H s P Ee:=by
 unfold Run at *;split at h
 ·exact h
 ·exact λU' H' x r=>(h U' H' x r).elim
 ·exact h
section
variable {X:Cx}{cA:Cl}{aq:Nat->Nat->Bool}{aj:Bool}{F:Fn}{EX:XS}{c:Nat}{a:Expr}{A:E}{is:Es}{ns:List Str}{body:List Stmt}{f:Str}{pos p p2:Pos}
theorem zlq:yC X cA aq aj F EX c [] .nil []:=⟨λao s Z H D I hh=>Ws ao s Z H D I (by
 obtain⟨U0,H0,U,J,st,x,dx,done,vs,ys,xt,hL,hS,hx,h0,kp,rs,hl,hg,hz,h⟩:=hh;rw[wA] at hg;subst hg;have h2:Run X.K cA (M.bd (cL ys) M.ret) U H st (λes _ U' H'=>∀ws,aB X.K cA U' H' es ws->fG U' H' x (.ins (cA.b c) dx ((cA.g c).zip ws))->(cA.g c).length=ws.length->D.nx Z H') (eX X.K cA EX Z):=by
  have h3:=h.ext xt;unfold Run at h3 ⊢;have e0:M.bd (evs aq aj F .nil J) (λzs=>cL (ys++zs)) st=cL ys st:=by show cL (ys++[]) st=_;rw[wA]
  rw[e0] at h3;unfold M.bd;cases e1:cL ys st with
  |none=>rw[e1] at h3;exact h3
  |some r=>
   obtain⟨r,s2⟩:=r;rw[e1] at h3;cases r with
   |er c f=>exact h3
   |ok ds=>exact h3
 obtain⟨ds,_,rs2,h4⟩:=RT rs h2;exact h4.bC hS vs rs2 kp hl)⟩
theorem NQ{j:Nat}(ow:Ow X.K cA c)(ha:JE X cA aq aj F EX a A)(hr:yC X cA aq aj F EX c body is ns)(h0:(decide (X.N[0]?=some ("self" : Str))&&vA X.env.scope "self"&&okN "self")=true:=by kernel_rfl)
  (hs:swapsWith a (some (.Attribute (.Name "self" p) f p2)) pos.line X.env=pure false:=by rfl):yC X cA aq aj F EX c (.Assign [.Attribute (.Name "self" p) f p2] a pos::body) (.cons A is) (f::ns):=by
 rw[eG,eG] at h0;obtain⟨k,e,hv⟩:=TX h0.1.2;refine⟨λao s Z H D I hh=>Wt (zkB (Wn (i:=0) (lC h0.1.1) (by cases k<;>first|exact .inl e|exact .inr (.inl e)|exact .inr (.inr e)|cases hv) (uZ h0.2).1 (uZ h0.2).2.1) ha.o hs) hr.o ao s Z H D I ?_⟩;obtain⟨U0,H0,U,J,st,x,dx,done,vs,ys,xt,hL,hS,hx,hx0,kp,rs,hl,hg,hz,h⟩:=hh;have h:Run X.K cA (M.bd (M.bd (ev aq aj F A J) λy=>M.bd (evs aq aj F is J) λzs=>M.ret (y::zs)) λzs=>cL (ys++zs)) U0 H0 st _ _:=h;simp only[gM] at h;refine⟨U,J,st,hL,hS,(h.bd0 xt).imp λy s1 U1 H1 ⟨x1,aG,h1⟩ v rv=>?_⟩;have NZ:=kp.mono x1;have nf:f∈cA.g c:=by rw[<-hg];simp
 have nd:f∉done:=λz=>by
  have:=ow.nd;rw[<-hg,Lg] at this;exact this.2.2 f z f Zaa rfl
 have hk:(done.zip vs).map (·.1)=done:=by rw[List.map_fst_zip];lia
 refine⟨.ref x,hx0,x,_,dx,_,rfl,NZ.at_,ow.cl,ow.nf f nf,?_,?_⟩
 ·have:(done.zip vs).length<=done.length:=by rw[List.length_zip];lia
  simp at hz
  lia
 rw[zel (by rw[hk];exact nd)];have ez:done.zip vs++[(f,v)]=(done++[f]).zip (vs++[v]):=by rw[List.zip_append hl];rfl
 rw[ez];have ox:cN U1 H1 (upd H1 x (.ins (cA.b c) dx ((done++[f]).zip (vs++[v])))):=NZ.ext.1;refine⟨U0,H0,U1,J,s1,x,dx,done++[f],vs++[v],ys++[y],Ext.keep (vs:=[]) (xt.trans x1) hx,(hL.mono x1 hS.lz).out ox,aG.keep NZ,hx,hx0,NZ.ext.2,((rs.mono x1 hS.lz).app (.cons rv .nil)).out ox,by simp[hl],by rw[<-hg,Lf];rfl,by simp at hz ⊢;lia,?_⟩;have h1:Run X.K cA (M.bd (evs aq aj F is J) λzs=>M.bd (M.ret (y::zs)) λzs=>cL (ys++zs)) U0 H0 s1 _ _:=h1;have e2:(λzs=>cL (ys++[y]++zs))=λzs=>M.bd (M.ret (y::zs)) λzs=>cL (ys++zs):=by
  funext zs
  rw[Lf];rfl
 rw[e2];exact h1
end
theorem zhn{K:W.Frag}{cA:Cl}{U:Ph}{H:Hp}{s:S}{α:Type}{m m':M α}{P:α->S->Ph->Hp->Prop}{Ee:Nat->List D->S->Ph->Hp->Prop}(e:m s=m' s)(h:Run K cA m U H s P Ee):Run K cA m' U H s P Ee:=by
 unfold Run at *;rw[<-e];exact h
theorem zfw{aq:Nat->Nat->Bool}{T:Nat->Option Df}{k n m p:Nat}{cm:Bool}{is:Es}{xs:List Xv}{s:S}(hT:T n=some ⟨m,p,.cons (.ret (.tup is)) .nil⟩)(hl:xs.length=p) :
  call aq T (k+1) cm n xs s=M.bd (M.bd (evs aq cm (call aq T k cm) is (xs.map some++List.replicate (m-p) none)) cL) (λds=>M.ret (.d (.tup ds))) s:=by
 unfold call;simp only[hT,if_pos hl];show (match bO (ofM (M.bd (evs aq cm (call aq T k cm) is _) λvs=>M.bd (cL vs) λds=>M.ret (.d (.tup ds))) _ λx s=>some (.rt x,s)) _ s with|some (.nx _,s')=>_|some (.rt v,s')=>_|some (.er c fs _,s')=>_|_=>none)=_;rw[gM];unfold bO ofM;cases e:M.bd (evs aq cm (call aq T k cm) is (xs.map some++List.replicate (m-p) none)) (λvs=>M.bd (cL vs) λds=>M.ret (Xv.d (.tup ds))) s with
 |none=>rfl
 |some r=>
  obtain⟨r,s1⟩:=r;cases r<;>rfl
theorem zjJ{P:Program}{w:World}{K:W.Frag}{mg:Str->Option Value}{base:Heap}{cA:Cl}{aq:Nat->Nat->Bool}{T:Nat->Option Df}{x qual:Str}{st:Stmt}{f:Addr}{fd:FuncData}{N ps:List Str}{k n c m p:Nat}{cm:Bool}{is:Es}(F:oV K x qual st f fd)(hT:T n=some ⟨m,p,.cons (.ret (.tup is)) .nil⟩)
  (hb:∀(cdv:Value) (A:Around) (outer:List Env) (s:Shared) (H:Hp) (E:XK),bx k (A.deeper (envOfC qual (au st) s.heap.objs.size f cdv))->
   yC (dH (fu P w) P w K mg base N qual (au st) f cdv A outer s H E cm) cA aq cm (call aq T k cm) (λ_ C dx H'=>E C dx H') c (aJ st) is (cA.g c)) (hg:(cA.g c).length<=900) (S:bW N ps (au st):=by exact⟨rfl,rfl,rfl,dk,rfl,dk,dk⟩) (hp:p=ps.length:=by rfl) (hm:m=N.length:=by rfl) (h0:0<p:=by decide) :
  cF P w K mg base (fu P w) cm (k+1) f fd ps (NP K cA c (call aq T (k+1) cm n)):=by
 obtain⟨oc,od,kV,doc,pm,an,cdv,ct,osl,rfl,lk,iC⟩:=F.ex;have hlen:∀{U:Ph} {H:Hp} {s:Mi.S} {xs:List Xv} {P:Xv->Mi.S->Ph->Hp->Prop},Run K cA (call aq T (k+1) cm n (.d .any::xs)) U H s P (λ_ _ _ _ _=>False)->xs.length+1=p:=λ{U H s xs P} h=>by
  unfold call at h;simp only[hT] at h;by_cases hl:(Xv.d D.any::xs).length=p
  ·simpa using hl
  ·rw[if_neg hl] at h;exact h.elim
 refine Qy lk iC S (λvs H Q E ⟨x,dx,us,U,H0,xs,s,e,_,_,_,_,r,_,h⟩=>?_) λA outer s H vs Q E hr ⟨x,dx,us,U,H0,xs,st',e,hx,hd,hn,eH,r,hS,h⟩=>⟨_,(hb cdv A outer s H E (hr.deeper _)).o,?_⟩
 ·have:=hlen h;rw[e,gW,<-r.len,<-hp]
  lia
 ·subst e eH;have hl:=hlen h;have xt:=Ext.made (U:=U) (C:=cA.b c) hx hd hn;refine⟨U,H0,U.mark x,(Xv.d .any::xs).map some++List.replicate (m-p) none,st',x,dx,[],[],[],xt,Sx (.cons (.d (.any x)) (r.mono xt hS.lz)) (by simp;lia) hm,hS.made hx hd hn,hx,rfl,⟨iB,λz=>hS.nz hx (hS.lz x z),.inr rfl,trivial⟩,.nil,rfl,rfl,by simpa using hg,?_⟩;have h2:=(zhn (zfw hT (by simpa using hl)) h).bd0 Ext.refl;exact Run.er (Run.imp h2 λds s1 U1 H1 ⟨x1,aG,h4⟩ ws rs kp hl=>h4 U1 H1 x1 aG ds ws rfl rs kp hl)
section
variable {prog:Program}{w:World}{A:Around}{E:Value->Shared->Prop}{s:Shared}
theorem zdU{r:Addr}{n:Nat}{lo hi:Int}{t u v:Tok}{Q:List Value->Shared->Prop}(hh:A.handled=none)(hr:IsRange s.heap r lo hi 1 t u v)(hs:Builtin.Range.small lo hi 1=true)(hn:Builtin.Range.rangeSize lo hi 1=n)(hl:n<=65536)
  (q:∀(h':Heap) (tk:Nat) (acc:Array Value),(∀b o,s.heap.get? b=some o->h'.get? b=some o)->ItemsOf (λi v=>∃t,v=.int (lo+i*1) t) acc n->Q acc.toList {s with heap:=h',toks:=tk}):wpAny (model prog w) A (collect (.ref r)) Q E s:=by
 unfold collect;refine aA (wpAny_runValue (Gw F.entry_proto_collect ?_));rw[Gi F.plain_proto_collect _];refine aA (m:=newList []) (Gy (aP ⟨Gz F.plain_list_iadd _,Gw F.entry_list_iadd ?_⟩));rw[Gi F.plain_list_iadd _];have fin:∀{r':Result} {s':Shared},(∃h' tk acc c,r'=.ok (.ret (.ref s.heap.objs.size))/\s'={s with heap:=h',toks:=tk}/\h'.get? s.heap.objs.size=some (seqObj "list" acc c)/\(∀b o,s.heap.get? b=some o->h'.get? b=some o)/\ItemsOf (λi v=>∃t,v=.int (lo+i*1) t) acc n)->(match r' with
   |.ok (.ret v)=>wpAny (model prog w) A (match v with
    |.ref a=>do
     match (<-load a).data with
      |.seq xs _=>pure xs.toList
      |_=>unsupported "internal:collect"
    |_=>unsupported "internal:collect") Q E s'
   |.ok _=>False
   |.error e=>E e s'):=λ{r' s'} z=>by
  obtain⟨h',tk,acc,c,rfl,rfl,hS,kp,tD⟩:=z;exact aA (wpAny_load hS (aP (q h' tk acc kp tD)))
 refine f9 (wpAny_extend_range (A:=A) (s:={s with heap:=s.heap.push (seqObj "list" #[] 0)}) (R:=λr' s'=>∃h' tk acc c,r'=.ok (.ret (.ref s.heap.objs.size))/\s'={s with heap:=h',toks:=tk}/\h'.get? s.heap.objs.size=some (seqObj "list" acc c)/\(∀b o,s.heap.get? b=some o->h'.get? b=some o)/\ItemsOf (λi v=>∃t,v=.int (lo+i*1) t) acc n)
  hh (cD _ hr) hs hn gV s.heap.objs.size (.ref s.heap.objs.size) 0 (eF _ rfl) λh' tk acc c kp hS tD=>⟨h',tk,acc,c,rfl,rfl,hS,λb o e=>kp b o (cY (bQ e)) (cD _ e),tD⟩) (λf s' z=>?_) λe s' z=>?_
 ·cases f with
  |done f=>exact fin z
  |again c'=>exact⟨z.1,yS z.2 λr s'' hr=>fin hr⟩
 ·obtain⟨_,_,_,_,e,_⟩:=z;cases e
end
theorem ze8(r:Addr)(lo hi:Int)(t u v:Tok)(n:Nat)(hs:Builtin.Range.small lo hi 1=true)(hn:Builtin.Range.rangeSize lo hi 1=n)(hl:n<=65536):Meets (Builtin.«tuple.__new__» ⟨[.type "tuple",.ref r],[]⟩)
   (λA R s=>A.handled=none/\IsRange s.heap r lo hi 1 t u v/\∀(h':Heap) (tk:Nat) (acc:Array Value),(∀b o,s.heap.get? b=some o->h'.get? b=some o)->ItemsOf (λi v=>∃t,v=.int (lo+i*1) t) acc n->R (.ok (.ret (.ref h'.objs.size))) {s with heap:=h'.push {cls:=.type "tuple",data:=.seq acc},toks:=tk}):=
 .of_wp λprog w A R s h=>by
  obtain⟨hh,hr,h⟩:=h;have hsub:=sub_tuple_self;have hinit:=init_tuple_lookup;have hmh:=madeHere_tuple;have hT:s.TypeIs (.ref r) "range":=⟨_,hr,rfl⟩;have hh1:A.in1.handled=none:=hh
  wp_walk using wpAny_typeOf hT,K6 hr,zdU hh1 hr hs hn hl
  intro h' tk acc hk tD;show wpAny _ _ (Builtin.Tuple.tupleExact acc.toList.toArray >>= λv=>ret v) _ _ _;unfold Builtin.Tuple.tupleExact;have e:acc.toList.toArray=acc:=by simp
  rw[e];exact aA (tK (aP ⟨_,rfl,h h' tk acc hk tD⟩) (show acc.size<=sizeLine by rw[tD.1];exact jQ hl Ro))
section
variable {X:Cx}
theorem zcg{ao:List (Addr×Obj)}{Z:L2.St}{H:Hp}{s:Shared}{Q:VK}{hi:Int}{t u v:Tok}{tk:Nat}(hc:X.aj=true)(I:Inv X ao Z H s)(hk:okR 0 hi=true)
  (q:∀l,H l=none->Q (.ref l) (upd H l (.tup (FP 0 (hi-0).toNat)))) :
  wpAny (model X.prog X.w) X.A (PySem.call (.type "tuple") [.ref s.heap.objs.size]) (EP X ao Z Q) X.xe {s with heap:=s.heap.push {cls:=.type "range",data:=.fields #[.int 0 t,.int hi u,.int 1 v]},toks:=tk}:=by
 obtain⟨h1,h2,h3,h4,h5⟩:=lC hk;have en:Builtin.Range.rangeSize 0 hi 1=((hi-0).toNat:Nat):=by rw[rangeSize_one];split<;>lia
 refine callType_new F.called_tuple Ro (F.typeCall_tuple_1 _) (F.newCall_tuple_1 _) (λobj=>F.args_object_init_2 obj _) F.entry_tuple_new (ze8 _ 0 hi t u v _ (small_one h1 h2 h3 h4) en h5) ⟨I.ok.hd hc,IsRange.new ..,λh' tk' acc kp ⟨z1,z2⟩=>?_⟩;have hv:Vals (FP 0 (hi-0).toNat) acc.toList:=by
  have:=zj5 (i:=0) (acc:=acc) (n:=(hi-0).toNat) (m:=0) (λk v e=>by
   obtain⟨t,e⟩:=z2 k v (by simpa using e);exact⟨t,by rw[e,Int.mul_one,Nat.zero_add]⟩) (by rw[pG];exact z1)
  simpa [FP] using this
 have hz:s.heap.objs.size<=h'.objs.size:=rM (bQ (kp _ _ (eF s.heap rfl)));have I':=I.laid (a:=h'.objs.size) (o:=.tup (FP 0 (hi-0).toNat)) (h':=h'.push {cls:=.type "tuple",data:=.seq acc}) (t':=tk') (λb u q=>cD _ (kp b u (cD _ q))) hz (show bI X.prog X.w _ _ _ (.tup (FP 0 (hi-0).toNat)) from ⟨by
  rw[hv.length,pG,z1];exact jQ h5 Ro,acc.toList,hv,⟨_,eF _ rfl,rfl,0,by simp⟩⟩)
 exact⟨⟨_,eF _ rfl,rfl⟩,.ref h'.objs.size,_,I',rfl,q _ (I.hok.fresh hz)⟩
def Kp(vs:List V)(H:Hp)(Q:VK):Prop:=∃j:Int,vs=[.int j]/\okR 0 j=true/\∀l,H l=none->Q (.ref l) (upd H l (.tup (FP 0 (j-0).toNat)))
theorem zmt{e:Expr}{t:TA}{p p' pos pos':Pos}(hc:X.aj=true)(hg:Gl X "tuple")(hm:X.mg "tuple"=none)(T8:Gl X "range")(T9:X.mg "range"=none)(ha:PA X [e] t)(he:starEach [e] X.env=(false,eval e X.env)::starEach [] X.env:=by rfl) :
  PE X (.Call (.Name "tuple" p) [.Call (.Name "range" p') [e] [] pos'] [] pos) (Qz Kp t):=by
 intro ao s Z H Q I h;refine Ag (vP I hg hm Jz ?_);refine Ac ?_ rfl rfl;show wpAny _ _ (spliced ((false,eval (.Call (.Name "range" p') [e] [] pos') X.env)::backTo pos (starEach [] X.env))) _ _ s;refine La ?_;refine Ag (vP I T8 T9 boot_range ?_);refine Ac (aQ (ha pos' ao s Z H _ I h) λus s1 ⟨vs,H1,I1,r1,q1⟩=>?_) he rfl;obtain⟨j,rfl,hk,q⟩:=q1;cases r1 with
 |cons r rr=>
  cases rr;obtain⟨t,rfl⟩:=r;exact call_range_1 (Calls.spliced_nil (zcg hc I1 hk q))
theorem zk9{e:Expr}{te:TE}(h:PE X e te)(he:∀whole,isTrue e X.env whole=(do let v <-whole;standAt e.pos;holding [v] (truthy v))):PT X e (λZ H Q=>te Z H λx H1=>∃k,Bm X.K x H1 k/\Q k H1):=by
 intro ao s Z H Q I hw;exact isTrue_plain (aQ (h ao s Z H _ I hw) λv s1 hx=>eE hx λx H1 I1 r1 q1=>zkM ao s1 Z H1 x v Q I1 r1 q1) (he _)
end
section
variable {K:W.Frag}{cA:Cl}{U:Ph}{H:Hp}
theorem zkL:bH K cA .Ey Kp:=by
 intro U H ds vs Q zt rs o;have o:bK K cA U H (Cg ds) Q:=o;unfold Cg at o;split at o
 ·rename_i j _;obtain⟨v,rfl,r1⟩:=rs.one;cases (show Rep K cA U H (.int j) v from r1);by_cases hk:okR 0 j=true
  ·rw[if_pos hk] at o;exact⟨j,rfl,hk,λl hl=>o.tup zt (Zv _) hl⟩
  ·rw[if_neg hk] at o;exact o.elim
 ·exact o.elim
end
section
variable {X:Cx}{cA:Cl}{aq:Nat->Nat->Bool}{aj:Bool}{F:Fn}{EX:XS}{a e:Expr}{A:E}{pos pos' p p':Pos}{Xs:Es}{fz:Bool}
theorem zni(hc:X.aj=true)(hm:X.mg "tuple"=none)(hg:JK X "tuple" .globalImplicit)(T9:X.mg "range"=none)(T8:JK X "range" .globalImplicit)(ha:JA X cA aq aj F EX [e] Xs)(he:aC e=true:=by rfl):JE X cA aq aj F EX (.Call (.Name "tuple" p) [.Call (.Name "range" p') [e] [] pos'] [] pos) (.pr fz .Ey Xs):=⟨PE.weak (zmt hc hg.o hm T8.o T9 ha.o (bf he)) λZ H Q hh=>un hh λU J s hL hS h=>
 oO hL hS h λvs H1 U1 ds s1 x1 hL1 aG r1 h1=>by
  obtain⟨ds,rs,h3⟩:=uP aG r1 h1;exact zkL U1 H1 ds _ _ aG.zs rs (tR aG h3)⟩
theorem znq(ha:JE X cA aq aj F EX a A)(he:zT a=true:=by rfl):JT X cA aq aj F EX a (.BZ A):=⟨PT.weak (zk9 ha.o (by cases a<;>first|(intro _;rfl)|cases he)) λZ H Q hh=>un (S9 hh) λU J s hL hS h=>by
 refine aX hL hS h λx H1 U1 d1 s1 x1 hL1 aG r1 h1=>?_;obtain⟨dd,rv,h2⟩:=Ji aG r1 h1;obtain⟨bb,e,h3⟩:=Run.m9 h2;obtain⟨c,ec,q⟩:=h3.bC aG _ (.d (.bl bb));cases ec;exact⟨bb,zlS rv e,q⟩⟩
end
def iu(h:Heap)(items:Array Value)(rows:List (List Int))(no:List Addr):Prop:=∀i v,items[i]?=some v->∃a xs,v=.ref a/\IsTup h a xs/\IntsAre xs.toList (rows.getD i [])/\a∉no
theorem iu.keep{h h':Heap}{items:Array Value}{rows:List (List Int)}{no:List Addr}(g:iu h items rows no)(k:∀b o,b∉no->h.get? b=some o->h'.get? b=some o):iu h' items rows no:=λi v e=>by
 obtain⟨a,xs,e1,⟨o,e2,r⟩,e3,e4⟩:=g i v e;exact⟨a,xs,e1,⟨o,k a o e4 e2,r⟩,e3,e4⟩
noncomputable abbrev wg(rows:List (List Int))(i j:Nat):Bool:=HT.lexLt (rows.getD i []) (rows.getD j [])
section
variable {prog:Program}{w:World}{A:Around}{R:Result->Shared->Prop}{I S l:Addr}{items:Array Value}{rows:List (List Int)}
theorem zke{s:Shared}{i j:Nat}{u v:Value}{Q:Value->Shared->Prop}{E:Value->Shared->Prop}(hu:A.units<cLine)(g:iu s.heap items rows [I,S])(h1:items[i]?=some u)(h2:items[j]?=some v)(q:Q (.bool (wg rows i j)) s):wpAny (model prog w) A (richCompare .Lt u v) Q E s:=by
 obtain⟨a,xs,rfl,p1,i1,_⟩:=g i u h1;obtain⟨b,ys,rfl,p2,i2,_⟩:=g j v h2;exact HT.jX p1 p2 i1 i2 hu q
theorem zfe(hh:A.handled=none)(hu:A.units+1<cLine)(hlI:l≠I)(hS:S∉[I,l]):∀(k j:Nat) (s:Shared) (vb:Value) (c:Nat),items.size-(j+1)=k->j+1<=items.size->(s.heap.IsListIter I l (j+1)/\s.heap.IsList l items)->items[argBest (wg rows) j]?=some vb->iu s.heap items rows [I,S]->
  s.heap.get? S=some (seqObj "list" #[vb,vb] c)->(∀v h' tk,items[argBest (wg rows) (items.size-1)]?=some v->(∀b o,b∉[I,S]->s.heap.get? b=some o->h'.get? b=some o)->R (.ok (.ret v)) {s with heap:=h',toks:=tk})->
  codeAny (model prog w) A (.builtin "min.loop" ⟨[.ref I,.none,.ref S],[]⟩) R s:=by
 have W:=Walks.list (prog:=prog) (w:=w) (A:=A.in1) hh I l hlI items;have nm:(toString "min"++toString ".loop" : String)="min.loop":=by decide
 have SI:S∉[I]:=λz=>hS (by simp at z;simp[z]);intro k
 induction k with
 |zero=>
  intro j s vb c e1 e2 st hb g oS q;refine Gw F.entry_min_loop ?_;rw[Gi Aj _];refine aA (m:=seqItems? (.ref S)) (rK oS rfl ?_);refine aA (m:=tryCatch (pyNext (.ref I)) _) (wpAny_tryCatch (W.done s _ _ ((show j+1=items.size by lia)▸st) λh' tk kp=>?_));refine aA (m:=updateSeq S λ_=>#[]) (wpAny_updateSeq (kp S _ SI oS) rfl (aA (yU (aP (q vb _ tk ?_ λb o hb e=>?_)))))
  ·rw[show items.size-1=j by lia];exact hb
  ·exact(wu _ _ (λz=>hb (by simp[z]))).trans (kp b o (λz=>hb (by simp at z;simp[z])) e)
 |succ k ih=>
  intro j s vb c e1 e2 st hb g oS q;refine Gw F.entry_min_loop ?_;rw[Gi Aj _];refine aA (m:=seqItems? (.ref S)) (rK oS rfl ?_);refine aA (m:=tryCatch (pyNext (.ref I)) _) (wpAny_tryCatch (W.item (j+1) s _ _ gV st λv h' tk hP st' kp=>?_));have T_:=kp S _ SI oS;have g':iu h' items rows [I,S]:=g.keep λb o hb e=>kp b o (λz=>hb (by simp at z;simp[z])) e;refine aA (m:=tryCatch (holding [v,v] (richCompare .Lt v vb >>= _)) _) (wpAny_tryCatch (pK (aA (zke (A:=A.in1) (s:={s with heap:=h',toks:=tk}) hu g' hP hb ?_))));refine aA (pK (vI (aA (yU (aP ?_)))));cases e3:wg rows (j+1) (argBest (wg rows) j) with
  |true=>
   simp only[if_true];refine aA (wpAny_updateSeq T_ rfl (aA (yU ?_)));rw[nm];have FZ:∀b o,b≠S->h'.get? b=some o->(h'.update S (Obj.mapSeq λ_=>#[v,v])).get? b=some o:=λb o hb e=>(wu _ _ (Ne.symm hb)).trans e;refine aP ⟨Gz Aj _,ih (j+1) _ v _ gV gV (W.frame _ _ _ st' λb hb o e=>FZ b o (λz=>hS (by rw[<-z];exact hb)) e) (by simp only[argBest,e3,if_true];exact hP) (g'.keep λb o hb e=>FZ b o (λz=>hb (by simp[z])) e) (Af _ T_ rfl) λv' h2 tk2 Kq Kr=>q v' h2 tk2 Kq λb o hb e=>Kr b o hb (FZ b o (λz=>hb (by simp[z])) (kp b o (λz=>hb (by simp at z;simp[z])) e))⟩
  |false=>
   simp only[rG,nU];refine aA (yU ?_);rw[nm];exact aP ⟨Gz Aj _,ih (j+1) _ vb c gV gV st' (by simp only[argBest,e3,rG,nU];exact hb) g' T_ λv' h2 tk2 Kq Kr=>q v' h2 tk2 Kq λb o hb e=>Kr b o hb (kp b o (λz=>hb (by simp at z;simp[z])) e)⟩
theorem zfl{s:Shared}{E:Value->Shared->Prop}{Q:Value->Shared->Prop}(hh:A.handled=none)(hu:A.units+2<cLine)(hl:s.heap.IsList l items)(h0:0<items.size)(g:iu s.heap items rows [])
  (q:∀v h' tk,items[argBest (wg rows) (items.size-1)]?=some v->(∀b o,s.heap.get? b=some o->h'.get? b=some o)->Q v {s with heap:=h',toks:=tk}):wpAny (model prog w) A (PySem.call (.builtin "min") [.ref l]) Q E s:=by
 have nm:(toString "min"++toString ".loop" : String)="min.loop":=by decide
 have cJ:l<s.heap.objs.size:=by obtain⟨o,e,_⟩:=hl;exact bQ e
 refine call_function_tree F.kind_min F.plain_min F.entry_min (F.args_min1 _) ?_;refine aA (m:=Builtin.Builtins.bindParams "min" ["key","default"] 0 ⟨[],[]⟩) (DX (show Builtin.Builtins.bindParams "min" ["key","default"] 0 ⟨[],[]⟩=pure [none,none] from rfl) (aA (aP ?_)));refine aA (Ld hl (aA (tK ?_)));rw[nm];have n1:(s.heap.push {cls:=.type "list_iterator",data:=.fields #[.ref l,.int 0 0]}).objs.size=s.heap.objs.size+1:=vK ..;refine aP ⟨Gz Aj _,?_⟩;refine Gw F.entry_min_loop ?_;rw[Gi Aj _];have W:=Walks.list (prog:=prog) (w:=w) (A:=A.in1) hh s.heap.objs.size l (cY cJ) items;have oS:((s.heap.push {cls:=.type "list_iterator",data:=.fields #[.ref l,.int 0 0]}).push (seqObj "list" #[] 0)).get? (s.heap.objs.size+1)=some (seqObj "list" #[] 0):=by rw[<-n1];exact eF _ rfl
 have k0:∀b o,s.heap.get? b=some o->((s.heap.push {cls:=.type "list_iterator",data:=.fields #[.ref l,.int 0 0]}).push (seqObj "list" #[] 0)).get? b=some o:=λb o e=>cD _ (cD _ e);rw[n1];refine aA (m:=seqItems? (.ref (s.heap.objs.size+1))) (rK oS rfl ?_);refine aA (m:=tryCatch (pyNext (.ref s.heap.objs.size)) _) (wpAny_tryCatch (W.item 0 _ _ _ h0 ⟨⟨_,cD _ (eF _ rfl),rfl,rfl⟩,hl.at λo e=>k0 l o e⟩ λv h' tk hP st' kp=>?_));have ne1:s.heap.objs.size+1∉[s.heap.objs.size]:=by simp
 refine aA (m:=updateSeq (s.heap.objs.size+1) λ_=>#[v,v]) (wpAny_updateSeq (kp _ _ ne1 oS) rfl ?_);rw[nm];have FZ:∀b o,b≠s.heap.objs.size+1->h'.get? b=some o->(h'.update (s.heap.objs.size+1) (Obj.mapSeq λ_=>#[v,v])).get? b=some o:=λb o hb e=>(wu _ _ (Ne.symm hb)).trans e;have Ks:∀b o,s.heap.get? b=some o->(h'.update (s.heap.objs.size+1) (Obj.mapSeq λ_=>#[v,v])).get? b=some o:=λb o e=>FZ b o (cY (tL (bQ e))) (kp b o (by simpa using cY (bQ e)) (k0 b o e));have out:∀b o,s.heap.get? b=some o->b∉[s.heap.objs.size,s.heap.objs.size+1]:=λb o e z=>by
  rcases jA.mp z with z|z
  ·exact absurd z (cY (bQ e))
  ·exact absurd (rH.mp z) (cY (tL (bQ e)))
 refine aP ⟨Gz Aj _,zfe (A:=A) (rows:=rows) hh gV (cY cJ) (λz=>by
  rcases jA.mp z with z|z
  ·exact absurd z (Nat.succ_ne_self _)
  ·exact absurd (rH.mp z) (pL (tL cJ))) _ 0 _ v _ rfl h0 (W.frame _ _ _ st' λb hb o e=>FZ b o (λz=>by
  rcases jA.mp hb with y|y
  ·exact absurd (z.symm.trans y) (Nat.succ_ne_self _)
  ·exact absurd (z.symm.trans (rH.mp y)) (pL (tL cJ))) e) hP ?_ (Af _ (kp _ _ ne1 oS) rfl) λv' h2 tk2 Kq Kr=>q v' h2 tk2 Kq λb o e=>Kr b o (out b o e) (Ks b o e)⟩
 intro i u e;obtain⟨a,xs,e1,⟨o,e2,r⟩,e3,_⟩:=g i u e;exact⟨a,xs,e1,⟨o,Ks a o e2,r⟩,e3,out a o e2⟩
end
theorem zej{x:List Int}{rs:List (List Int)}:∀k,k<=rs.length->(x::rs).getD (argBest (wg (x::rs)) k) []=gq x (rs.take k)
 |0,_=>rfl
 |k+1,hk=>by
  have ih:=zej (x:=x) (rs:=rs) k gV;have app:∀(a b:List (List Int)) (y:List Int),gq y (a++b)=gq (gq y a) b:=λa=>by
   induction a with
   |nil=>intro b y;rfl
   |cons z a ih=>intro b y;exact ih b _
  have ht:rs.take (k+1)=rs.take k++[rs[k]' gV]:=List.take_succ_eq_append_getElem gV;have hv:(x::rs).getD (k+1) []=rs[k]' gV:=by
   rw[mD,Dt,fj gV];rfl
  rw[ht,app,<-ih];show _=(if ltI (rs[k]' gV) _=true then _ else _);rw[argBest.eq_2,R5];unfold wg;rw[hv]
  split
  ·exact hv
  ·rfl
theorem zcx{K:W.Frag}{cA:Cl}{U:Ph}{H:Hp}:∀{xs:List D} {rs:List (List Int)} {vs:List V},jZ xs=some rs->aB K cA U H xs vs->rs.length=vs.length/\∀(i:Nat) v,vs[i]?=some v->∃a,v=.ref a/\TupAt K U H a ((rs.getD i []).map .int)
 |[],rs,vs,h,r=>by cases h;cases r;exact⟨rfl,λi v e=>by simp at e⟩
 |d::xs,rs,vs,h,r=>by
  cases r with
  |cons q r=>cases q with
   |@tup a ys us t ts=>
    unfold jZ at h;cases e1:cH ys with
    |none=>simp only[e1] at h;cases h
    |some is=>cases e2:jZ xs with
     |none=>simp only[e1,e2] at h;cases h
     |some rr=>
      simp only[e1,e2] at h;cases h;obtain⟨l,k⟩:=zcx e2 r;refine⟨by simp[l],λi v e=>?_⟩;cases i with
      |zero=>
       simp at e;subst e;refine⟨a,rfl,?_⟩;show TupAt K U H a (is.map V.int);rw[<-show _=is.map V.int from M9 e1 ts];exact t
      |succ i=>exact k i v (by simpa using e)
   |_=>cases h
section
variable {X:Cx}{cA:Cl}{aq:Nat->Nat->Bool}{aj:Bool}{F:Fn}{EX:XS}{e:Expr}{pos p:Pos}{es:List Expr}{Xs:Es}{fz:Bool}
def vD(K:W.Frag)(vs:List V)(H:Hp)(Q:VK):Prop:=∃(l:Addr) (x:List Int) (rs:List (List Int)) (us:List V),vs=[.ref l]/\cR K H l us/\(x::rs).length=us.length/\(∀(i:Nat) v,us[i]?=some v->∃a,v=.ref a/\gK K H a (((x::rs).getD i []).map V.int))/\∀(i:Nat) a,us[i]?=some (.ref a)->(x::rs).getD i []=gq x rs->Q (.ref a) H
theorem zgq:∀{is:List Int} {us:List Value},Vals (is.map V.int) us->IntsAre us is
 |[],_,.nil=>.nil
 |_::is,_,.cons ⟨t,e⟩ r=>by subst e;exact .cons _ t (zgq r)
theorem zgv(hc:X.aj=true)(hu:X.A.units+2<cLine):cZ X (.builtin "min") (vD X.K):=by
 intro ao s Z H xs us Q I r ⟨l,x,rs,ws,e,hl,hlen,Ku,q⟩;subst e;obtain⟨u,rfl,ru⟩:=Vals.one r;cases (show u=Value.ref l from ru);obtain⟨its,rv,pl,hz⟩:=I.list hl;have hL:=rv.length;have hsz:its.toArray.size=rs.length+1:=by rw[fH,<-hL,<-hlen];rfl
 refine zfl (rows:=x::rs) (I.ok.hd hc) hu pl.isList gV (λi v e=>?_) λv h' tk hP hk=>?_
 ·have hi:its[i]?=some v:=by simpa using e
  have cJ:i<ws.length:=by rw[hL];exact(fX.mp hi).1
  obtain⟨a,ea,ht⟩:=Ku i _ (fj cJ);obtain⟨v',e1,e2⟩:=rv.get (fj cJ);rw[hi] at e1;cases e1;rw[ea] at e2;cases (show v=Value.ref a from e2);obtain⟨xs,rx,p,_⟩:=I.tuple ht;exact⟨a,_,rfl,p,by simpa using zgq rx,by simp⟩
 ·rw[hsz,Nat.add_sub_cancel] at hP;have hi:its[argBest (wg (x::rs)) rs.length]?=some v:=by simpa using hP
  have cJ:argBest (wg (x::rs)) rs.length<ws.length:=by rw[hL];exact(fX.mp hi).1
  obtain⟨a,ea,ht⟩:=Ku _ _ (fj cJ);obtain⟨v',e1,e2⟩:=rv.get (fj cJ);rw[hi] at e1;cases e1;rw[ea] at e2;cases (show v=Value.ref a from e2);exact⟨.ref a,H,I.kept (h':=h') (t':=tk) hk,rfl,q _ a ((fj cJ).trans (by rw[ea])) (by rw[zej rs.length (cj _),Gv])⟩
theorem zjs{K:W.Frag}:bH K cA .su (vD K):=by
 intro U H ds vs Q zt rs o;have o:bK K cA U H (oM ds) Q:=o;unfold oM at o;split at o
 ·rename_i xs _;obtain⟨v,rfl,rv⟩:=rs.one;obtain⟨a,us,rfl,sq,q⟩ : ∃a us,v=.ref a/\cR K H a us/\aB K cA U H xs us:=rv;split at o
  ·rename_i x r e;obtain⟨l,k⟩:=zcx e q;refine⟨a,x,r,us,rfl,sq,l,λi v ei=>?_,λi b ei hb=>?_⟩
   ·obtain⟨c,e1,e2⟩:=k i v ei;exact⟨c,e1,e2.jG⟩
   ·obtain⟨c,e1,e2⟩:=k i _ ei;cases e1;rw[hb] at e2;have rr:∀is:List Int,aB K cA U H (is.map D.int) (is.map V.int):=λis=>by
     induction is with
     |nil=>exact .nil
     |cons j is ih=>exact .cons (.int j) ih
    exact o.here (.tup e2 (rr _))
  ·exact o.elim
 ·exact o.elim
theorem zlO{k:Nat}(hr:bx k X.A)(hc:X.aj=true)(hm:X.mg "min"=none)(hg:JK X "min" .globalImplicit)(ha:JA X cA aq aj F EX (e::es) Xs)(he:aC e=true:=by rfl)(cT:es.all aC=true:=by rfl):JE X cA aq aj F EX (.Call (.Name "min" p) (e::es) [] pos) (.pr fz .su Xs):=⟨zL (zgv hc (by have:=hr.un;lia)) zjs hg.o hm PyProof.Rows.boot_min ha.o Ro Ro (bf he) (bD cT)⟩
end
end Mi
namespace Mi
open PySem PySem.Spec PyProof.Rows L2 PySem.W
noncomputable def iw(K:Frag)(C:Addr)(m:Str):Addr:=match lK K C m with
 |some p=>p.1
 |none=>0
noncomputable def jL(K:Frag)(C:Addr)(m:Str)(st:Stmt):FuncData:=match lK K C m with
 |some p=>p.2
 |none=>Ed m m st
theorem zjC{fd:FuncData}{m q:Str}{st:Stmt}(h:nW fd=Ed m q st):fd=fnOf m q (aY st) (aJ st) (au st) .none fd.kwdefaults fd.doc fd.pyModule fd.annotations fd.code fd.closureTuple:=by
 cases fd;unfold nW Ed at h;cases h;rfl
theorem znb{K:Frag}{C:Addr}{m q:Str}{st:Stmt}(h:(lK K C m).map (λp=>nW p.2)=some (Ed m q st)):oV K m q st (iw K C m) (jL K C m st)/\Meth K C m (iw K C m):=by
 cases e:lK K C m with
 |none=>rw[e] at h;cases h
 |some p=>
  rw[e] at h;have hp:nW p.2=Ed m q st:=cO h;have h1:iw K C m=p.1:=by unfold iw;rw[e]
  have h2:jL K C m st=p.2:=by unfold jL;rw[e]
  rw[h1,h2];unfold lK at e;split at e
  ·rename_i f hf;split at e
   ·rename_i oc od fd sl hl;split at e
    ·rename_i hc;cases e;simp only[eG] at hc;have eq:fd=_:=zjC hp;have qn:fd.qualname=q:=by rw[eq]
     exact⟨⟨⟨oc,od,_,_,_,_,_,_,sl,eq,hl,by rw[<-qn];exact hc.1.1⟩,hc.1.2⟩,hf,hc.2,hc.1.2⟩
    ·cases e
   ·cases e
  ·cases e
structure rD(fs:List (Str×Stmt))(ms:List uf)(xs:List (Nat×Str))(l:Lk)(b:Bd)(K:Frag):Prop where
 i:oZ fs ms xs l K
 m:∀p∈b.ms,oV K p.1 p.2.1 p.2.2 (iw K (dX K b.n) p.1) (jL K (dX K b.n) p.1 p.2.2)/\Meth K (dX K b.n) p.1 (iw K (dX K b.n) p.1)
 b:yX K b=true
section
variable {K:Frag}{b:Bd}
theorem zmY{cA:Cl}(h:yX K b=true)(hb:cA.b 0=dX K b.n)(hg:cA.g 0=b.fs)(nd:b.fs.Nodup):Ow K cA 0:=by
 unfold yX at h;simp only[eG,nR,gY] at h;obtain⟨⟨⟨⟨⟨⟨⟨h1,h2⟩,h3⟩,h4⟩,h5⟩,h6⟩,h7⟩,h8⟩:=h;exact⟨by rw[hb];exact⟨h2,h3,h4,h5⟩,λf hf=>by rw[hb];rw[hg] at hf;exact h8 f hf,by rw[hg];exact nd⟩
theorem znz{f:Addr}(h:yX K b=true)(m:Meth K (dX K b.n) "__init__" f):Mk K (dX K b.n) f:=by
 unfold yX at h;simp only[eG,nR,gY] at h;exact⟨h.1.1.2,m.at_,m.fn,h.1.2⟩
theorem znO{h:Heap}{mg:Str->Option Value}(z:yX K b=true)(X:K.In h)(G:h.Ns mainGlobals mg):mg b.n=some (.ref (dX K b.n)):=by
 unfold yX at z;simp only[eG] at z;exact zns z.1.1.1.1.1.1.1 X G
end
theorem bx.made{k:Nat}{A:Around}(r:bx (k+1) A)(env:Env)(C:Addr)(us:List Value):bx k ((A.deeper env).under (.builtin "type.__call__" ⟨.ref C::us,[]⟩)):=
 ⟨by have:=r.dp;rw[zfi];show A.depth+1+1+3*k+5<_;lia,by have:=r.un;rw[ze7];show A.units+3+1+16*k+200<_;lia,by
  have e:(A.deeper env).guards=some []:=r.gd;rw[<-e];cases h:(A.deeper env).guards<;>simp[Around.under,pushGuards,Code.guards,Code.isGuard,guardIds,h]⟩
section
variable {P:Program}{w:World}{K:Frag}{mg:Str->Option Value}{base:Heap}{cA:Cl}{aq:Nat->Nat->Bool}{T:Nat->Option Df}{x m q:Str}{st:Stmt}{ps:List Str}{k n:Nat}{cm:Bool}{df:Df}{C fa:Addr}{fd:FuncData}
theorem fM(D:Mt K C m q st ps fa fd)(N:List Str)(hT:T n=some df)
  (hb:∀(cdv:Value) (A:Around) (outer:List Env) (s:Shared) (H:Hp) (E:XK),bx k (A.deeper (envOfC q (au st) s.heap.objs.size fa cdv))->
   JB (dH (fu P w) P w K mg base N q (au st) fa cdv A outer s H E cm) cA aq cm (λc=>call aq T k c) (λ_ C dx H'=>E C dx H') (aJ st) df.body) (S:bW N ps (au st):=by exact⟨rfl,rfl,rfl,dk,rfl,dk,dk⟩) (hp:df.eU=ps.length:=by rfl) (hm:df.many=N.length:=by rfl) :
  cF P w K mg base (fu P w) cm (k+1) fa fd ps (lG K cA (call aq T (k+1) cm n)):=Za D.fn S hT hp hm hb
theorem zhh{c:Nat}:cF P w K mg base (fu P w) cm 0 fa fd ps (NP K cA c (call aq T 0 cm n)):=
 ⟨λvs H Q E ⟨_,_,_,_,_,_,_,_,_,_,_,_,_,_,h⟩=>h.elim,λA outer s H args us vs Q E _ _ _ _ _ ⟨_,_,_,_,_,_,_,_,_,_,_,_,_,_,h⟩=>h.elim⟩
theorem fR(D:D3 K mg x st ps)(N:List Str)(hT:T n=some df)
  (hb:∀(cdv:Value) (A:Around) (outer:List Env) (s:Shared) (H:Hp) (E:XK),bx (k+1) A->
   JB (dH (fu P w) P w K mg base N x (au st) (fV K x) cdv A outer s H E cm) cA aq cm (λc=>call aq T k c) (λ_ C dx H'=>E C dx H') (aJ st) df.body) (S:bW N ps (au st):=by exact⟨rfl,rfl,rfl,dk,rfl,dk,dk⟩) (hp:df.eU=ps.length:=by rfl) (hm:df.many=N.length:=by rfl) :
  cF P w K mg base (fu P w) cm (k+1) (fV K x) (fdOf K x st) ps (lG K cA (call aq T (k+1) cm n)):=YL D.f S hT hp hm λcdv A outer s H E hr=>(hb cdv A outer s H E hr).o
theorem Ua{p p2:Str}(h:oV K m q st fa fd/\Meth K C m fa)(hb:∀(kV doc pm:Value) (an:Option Addr) (cdv ct a b:Value),bindArgs (fnOf m q (aY st) (aJ st) (au st) .none kV doc pm an cdv ct) ⟨[a,b],[]⟩=pure [(p,a),(p2,b)]:=by intros;rfl):Mt K C m q st [p,p2] fa fd:=⟨h.1,h.2,by
 obtain⟨oc,od,kV,doc,pm,an,cdv,ct,osl,rfl,lk,iC⟩:=h.1.ex;exact u6 (hb kV doc pm an cdv ct)⟩
theorem znP{p p2 p3:Str}(h:oV K m q st fa fd/\Meth K C m fa)(hb:∀(kV doc pm:Value) (an:Option Addr) (cdv ct a b c:Value),bindArgs (fnOf m q (aY st) (aJ st) (au st) .none kV doc pm an cdv ct) ⟨[a,b,c],[]⟩=pure [(p,a),(p2,b),(p3,c)]:=by intros;rfl):Mt K C m q st [p,p2,p3] fa fd:=⟨h.1,h.2,by
 obtain⟨oc,od,kV,doc,pm,an,cdv,ct,osl,rfl,lk,iC⟩:=h.1.ex;exact u9 (hb kV doc pm an cdv ct)⟩
theorem zoc{p p2 p3 p4:Str}(h:oV K m q st fa fd/\Meth K C m fa)(hb:∀(kV doc pm:Value) (an:Option Addr) (cdv ct a b c d:Value),bindArgs (fnOf m q (aY st) (aJ st) (au st) .none kV doc pm an cdv ct) ⟨[a,b,c,d],[]⟩=pure [(p,a),(p2,b),(p3,c),(p4,d)]:=by intros;rfl):Mt K C m q st [p,p2,p3,p4] fa fd:=⟨h.1,h.2,by
 obtain⟨oc,od,kV,doc,pm,an,cdv,ct,osl,rfl,lk,iC⟩:=h.1.ex;exact u_ (hb kV doc pm an cdv ct)⟩
end
noncomputable def jh(fs:List (Str×Stmt))(ms:List uf)(xs:List (Nat×Str))(l:Lk)(b:Bd):Hook where
 α:=((List (Option FuncData)×List (Option FuncData)×Bool)×(List (Option FuncData)×Bool))×Bool
 obs:=λs=>((jR fs ms xs l s,wG b s),nY s)
 val:=λw=>((lD fs ms w,wH b),true)
 says:=λ_ h=>∃K:Frag,K.In h/\rD fs ms xs l b K/\kW K h
 of:=λw s e=>by
  have e9:(jR fs ms xs l s,wG b s)=(lD fs ms w,wH b):=lq Prod.fst e;have el:nY s=true:=lq Prod.snd e;have e0:jR fs ms xs l s=lD fs ms w:=lq Prod.fst e9;have e4:wG b s=wH b:=lq Prod.snd e9;have e3:(_&&_&&_)=true:=lq (λx=>x.2.2) e0;rw[eG,eG,gY,gY] at e3;refine⟨bR s.heap,zhs,⟨⟨λp hp=>?_,Kac e3.1.1,λm hm=>?_,e3.1.2,λx hx=>zm9 (e3.2 x hx)⟩,λp hp=>?_,lq Prod.snd e4⟩,ziK el⟩
  ·exact zny (Pq.mp (lq Prod.fst e0) p hp)
  ·exact znK (Pq.mp (lq (λx=>x.2.1) e0) m hm)
  ·exact znb (Pq.mp (lq Prod.fst e4) p hp)
 keeps:=λw h h' ⟨K,X,Y,R7⟩ k=>⟨K,X.keeps k,Y,R7.keeps k⟩
theorem Dn{l:OpenLaw}{k:Nat}{q:Program}{loose:List Str}{XP:(Str->Option Value)->Heap->Prop}{fs:List (Str×Stmt)}{ms:List uf}{xs:List (Nat×Str)}{lk:Lk}{b:Bd}{d:DefRec}{x:Str}(hn:l.most=some 63)(QW:d.params.defaults=[])(hr:bx k callerA)
  (F:∀(w:World) (K:Frag) (mg:Str->Option Value) (fa:Addr) (h:Heap),rD fs ms xs lk b K->kW K h->K.In h->h.Ns mainGlobals mg->mg d.name=some (.ref fa)->
   ∃fd:FuncData,(∀(s:Shared) (u:Value),BindsTo s fd ⟨[u],[]⟩ [(x,u)])/\∀base:Heap,K.In base->base.Ns mainGlobals mg->cF l.prog w K mg base (fu l.prog w) true k fa fd [x] (u5 K)) :
  WalkO q loose XP (jh fs ms xs lk b).says l.row.toRowW d [] (λf vs=>PySem.call f vs):=by
 refine Xc.ou hn QW λw s₀ s₁ mg mb fa o pm cd doc a vs ns G Y ho hd iC hmg Bt hints hlen hg=>?_;obtain⟨K,KX,SY,LH⟩:=Y;obtain⟨fd,hb,hF⟩:=F w K mg fa _ SY LH KX G.T.g hmg;exact zgu KX G.T.g G.T.b G.T.builtins G.T.nolimit hg Bt hints (jQ hlen Ro) hr hF hb (λH hS=>⟨a,ns,rfl,hS,hlen,trivial,λ_=>rfl⟩) (λH e s' h=>by
  obtain⟨_,_,_,_,_,_,_,_,_,_,z⟩:=h;exact z) LH
end Mi
namespace Mi
open PySem
theorem zdL{α:Type}{q:α->Bool}:∀l:List α,l.length=(l.filter q).length+(l.filter λx=>!q x).length
 |[]=>rfl
 |x::l=>by
  have:=zdL (q:=q) l;simp only[List.filter_cons];cases q x<;>simp<;>lia
theorem zk4{ps:List (Int×Int)}{n:Int}(h1:1<=n)(h8:n<=8)(ht:∀p∈ps,0<=p.1/\p.1<p.2/\p.2<n)(hi:ps.Pairwise lx):(ps.length:Int)<=7*n:=by
 have key:∀m:Nat,∀qs:List (Int×Int),(∀p∈qs,0<=p.1/\p.1<(m:Int)/\p.1<p.2/\p.2<n)->qs.Nodup->(qs.length:Int)<=7*m:=by
  intro m
  induction m with
  |zero=>
   intro qs hq _;cases qs with
   |nil=>simp
   |cons p r=>have:=hq p Zaa;lia
  |succ m ih=>
   intro qs hq nd;have h1:=ih (qs.filter λp=>decide (p.1<(m:Int))) (λp hp=>by
    obtain⟨a,b⟩:=mF.mp hp;have:=hq p a;have:=lC b
    lia) (nd.filter _)
   have h2:(qs.filter λp=>!decide (p.1<(m:Int))).length<=(([1,2,3,4,5,6,7]:List Int).map λx=>((m:Int),x)).length:=Z_ (nd.filter _) (λp hp=>by
    obtain⟨a,b⟩:=mF.mp hp;have:=hq p a;have b:¬p.1<(m:Int):=by simpa using b
    obtain⟨p1,p2⟩:=p;dsimp only at *;have e:p1=(m:Int):=by lia
    subst e;refine qI.mpr ⟨p2,?_,rfl⟩;have:p2=1\/p2=2\/p2=3\/p2=4\/p2=5\/p2=6\/p2=7:=by lia
    simpa using this)
   have h3:=zdL (q:=λp=>decide (p.1<(m:Int))) qs;simp only[fW,gW,DQ] at h2
   lia
 have:=key n.toNat ps (λp hp=>by have:=ht p hp;lia) (zhA hi)
 lia
theorem W.c0{F:List Xv->M Xv}{xs:List Xv}{s:S}{e:D}{P:Xv->S->Prop}(h:W (F (dz 0 xs)) [] λv _=>v=.d e)(k:P (.d e) s)(hl:locs xs=[]:=by rfl):W (bU F xs) s P:=vo hl (h.imp λ_ _ q=>⟨_,q,k⟩)
theorem W.c1{F:List Xv->M Xv}{xs:List Xv}{s:S}{P:Xv->S->Prop}(h:W (F (dz 0 xs)) [] λv _=>∃d,v=.d d)(k:∀d,P (.d d) s)(hl:locs xs=[]:=by rfl):W (bU F xs) s P:=vo hl (h.imp λ_ _ ⟨d,q⟩=>⟨d,q,k d⟩)
section
variable {s:S}{o o' L L':SO}
theorem g1_:(s++[o]++[L])[s.length]?=some o:=by simp
theorem zmI:(s++[o]++[L]).set s.length o'=s++[o']++[L]:=by simp
theorem Kaq{F:List Xv->M Xv}{xs:List Xv}{P:Xv->S->Prop}(hl:locs xs=[s.length])(h:W (F (dz 0 xs)) [o] λv s1=>∃d o',v=.d d/\s1=[o']/\P (.d d) (s++[o']++[L])):W (bU F xs) (s++[o]++[L]) P:=by
 refine Zx (n:=s.length) (o:=o) hl g1_ (h.imp λv s1=>?_);rintro⟨d,o',rfl,rfl,hp⟩;exact⟨d,o',rfl,rfl,by rw[zmI];exact hp⟩
end
section
variable {n m:Int}{ps qs:List (Int×Int)}{x:D}{hs:List Int}
theorem zhX{k a b:Int}:kI k a b=kI k b a:=by
 unfold kI
 split<;>split<;>split<;>split<;>lia
end
noncomputable abbrev Fr:=List (Option (List Int))
noncomputable def bJ:Option (List Int)->D
 |none=>.non
 |some l=>.tup (l.map .int)
noncomputable def cellK:Option (List Int)->Kx
 |none=>.non
 |some l=>.row l
noncomputable def jx(F:Fr):D:=.tup (F.map bJ)
theorem Ub:∀l:List Int,cH (l.map .int)=some l
 |[]=>rfl
 |i::l=>by show Option.map _ (cH (l.map .int))=_;rw[Ub l];rfl
theorem N5(F:Fr):kOf (jx F)=some (F.map cellK):=by
 show Cp (F.map bJ)=_
 induction F with
 |nil=>rfl
 |cons c F ih=>
  have e:uN (bJ c)=some (cellK c):=by
   cases c with
   |none=>rfl
   |some l=>show Option.map _ (cH (l.map .int))=_;rw[Ub];rfl
  simp only[jk,Cp,e,ih]
theorem zgo:∀{F G:Fr},F.map cellK=G.map cellK->F=G
 |[],[],_=>rfl
 |[],_::_,h=>by cases h
 |_::_,[],h=>by cases h
 |c::F,e::G,h=>by
  simp only[jk,List.cons.injEq] at h;rw[zgo h.2]
  congr 1
  have h1:=h.1;cases c with
  |none=>cases e with
   |none=>rfl
   |some _=>cases h1
  |some l=>cases e with
   |none=>cases h1
   |some m=>cases h1;rfl
structure Bo(n k:Nat)(es:Nat->List Int)(A:Int->Int->Bool):Prop where
 hn:n<=8
 hk:k<=24
 mem:∀i,i<n->∀e∈es i,0<=e/\e<n/\e≠i
 sym:∀i e:Nat,i<n->e<n->(e:Int)∈es i->(i:Int)∈es e
 len:∀i,i<n->(es i).length<=8
 asy:∀a b:Int,0<=a->a<k->0<=b->b<k->A a b=A b a
structure Fv(n k:Nat)(F:Fr):Prop where
 len:F.length=n
 lo:∀(i:Nat) L,F[i]?=some (some L)->∀x∈L,0<=x/\x<k
 ll:∀(i:Nat) L,F[i]?=some (some L)->L.length<=24
 so:∀(i:Nat) L,F[i]?=some (some L)->L.Pairwise (·<·)
structure qF(es:Nat->List Int)(A:Int->Int->Bool)(F:Fr)(g:Nat->Int):Prop where
 mem:∀(i:Nat) L,F[i]?=some (some L)->g i∈L
 fit:∀(i e:Nat) L M,F[i]?=some (some L)->F[e]?=some (some M)->(e:Int)∈es i->A (g i) (g e)=true
def Sat(es:Nat->List Int)(A:Int->Int->Bool)(F:Fr):Prop:=∃g,qF es A F g
noncomputable def gC(f:Int->Bool)(F:Fr)(e:Int):Fr:=F.set e.toNat ((F[e.toNat]?.join).map (·.filter f))
noncomputable def settle(es:Nat->List Int)(A:Int->Int->Bool)(F:Fr)(p:Nat)(x:Int):Fr:=(es p).foldl (gC (A x)) (F.set p none)
theorem zee{f:Int->Bool}{F:Fr}{e:Int}:(gC f F e).length=F.length:=pI ..
theorem Uc{f:Int->Bool}:∀{l:List Int} {F:Fr},(l.foldl (gC f) F).length=F.length
 |[],F=>rfl
 |e::l,F=>by rw[List.foldl_cons,Uc,zee]
theorem zkh{f:Int->Bool}{F:Fr}{e:Int}(h0:0<=e)(i:Nat)(hi:i<F.length):(gC f F e)[i]?=if (i:Int)=e then F[i]?.map (Option.map (·.filter f)) else F[i]?:=by
 unfold gC;by_cases z:(i:Int)=e
 ·have:e.toNat=i:=by lia
  rw[if_pos z,this,yL hi,fj hi];rfl
 ·rw[if_neg z,qH gV]
theorem Ud{f:Int->Bool}:∀{l:List Int} {F:Fr} (i:Nat),(∀e∈l,0<=e)->i<F.length->(l.foldl (gC f) F)[i]?=if (i:Int)∈l then F[i]?.map (Option.map (·.filter f)) else F[i]?
 |[],F,i,_,hi=>by simp
 |e::l,F,i,h,hi=>by
  rw[List.foldl_cons,Ud i (λx hx=>h x (by simp[hx])) (by rw[zee];exact hi),zkh (h e Zaa) i hi];have ff:∀c:Option (Option (List Int)),(c.map (Option.map (·.filter f))).map (Option.map (·.filter f))=c.map (Option.map (·.filter f)):=λc=>by
   cases c with
   |none=>rfl
   |some c=>cases c with
    |none=>rfl
    |some L=>simp
  by_cases a:(i:Int)=e
  ·by_cases b:(i:Int)∈l
   ·rw[if_pos b,if_pos a,if_pos (by simp[b]),ff]
   ·rw[if_neg b,if_pos a,if_pos (by simp[a])]
  ·by_cases b:(i:Int)∈l
   ·rw[if_pos b,if_neg a,if_pos (by simp[b])]
   ·rw[if_neg b,if_neg a,if_neg (by simp[a,b])]
section
variable {n k:Nat}{es:Nat->List Int}{A:Int->Int->Bool}{F:Fr}{p:Nat}{x:Int}{g:Nat->Int}
theorem zcw:(settle es A F p x).length=F.length:=by unfold settle;rw[Uc,pI]
theorem zdx(B:Bo n k es A)(hF:F.length=n)(hp:p<n)(i:Nat)(hi:i<n):(settle es A F p x)[i]?=if i=p then some none else if (i:Int)∈es p then F[i]?.map (Option.map (·.filter (A x))) else F[i]?:=by
 unfold settle;rw[Ud i (λe he=>(B.mem p hp e he).1) (by rw[pI,hF];exact hi)];by_cases e:i=p
 ·subst e;rw[if_pos rfl,if_neg (λz=>(B.mem i hp _ z).2.2 rfl),yL (by rw[hF];exact hi)]
 ·rw[if_neg e,qH (Ne.symm e)]
theorem rE{i:Nat}{c:Option (List Int)}(hF:F.length=n)(h:F[i]?=some c):i<n:=by rw[<-hF];exact(fX.mp h).1
theorem N6(B:Bo n k es A)(hF:F.length=n)(hp:p<n){i:Nat}{M:List Int}(h:(settle es A F p x)[i]?=some (some M)):i≠p/\∃L,F[i]?=some (some L)/\M=if (i:Int)∈es p then L.filter (A x) else L:=by
 have hi:i<n:=rE (by rw[zcw];exact hF) h;rw[zdx B hF hp i hi] at h;by_cases e:i=p
 ·rw[if_pos e] at h;cases h
 ·rw[if_neg e] at h;refine⟨e,?_⟩;by_cases m:(i:Int)∈es p
  ·rw[if_pos m] at h;obtain⟨c,e1,e2⟩:=kZ.mp h;cases c with
   |none=>cases e2
   |some L=>cases e2;exact⟨L,e1,by rw[if_pos m]⟩
  ·rw[if_neg m] at h;exact⟨M,h,by rw[if_neg m]⟩
theorem Kv(B:Bo n k es A)(hF:F.length=n)(hp:p<n){i:Nat}{L:List Int}(hi:i≠p)(h:F[i]?=some (some L)):(settle es A F p x)[i]?=some (some (if (i:Int)∈es p then L.filter (A x) else L)):=by
 rw[zdx B hF hp i (rE hF h),if_neg hi,h]
 split<;>rfl
theorem Kw(B:Bo n k es A)(v:Fv n k F)(hp:p<n):Fv n k (settle es A F p x):=by
 refine⟨by rw[zcw];exact v.len,λi M h=>?_,λi M h=>?_,λi M h=>?_⟩<;>obtain⟨_,L,e,rfl⟩:=N6 B v.len hp h
 ·intro y hy;refine v.lo i L e y ?_;split at hy
  ·exact(mF.mp hy).1
  ·exact hy
 ·split
  ·exact jQ (List.length_filter_le _ _) (v.ll i L e)
  ·exact v.ll i L e
 ·split
  ·exact(v.so i L e).filter _
  ·exact v.so i L e
theorem N7(B:Bo n k es A)(v:Fv n k F)(hp:p<n){L:List Int}(hL:F[p]?=some (some L))(s:qF es A F g):qF es A (settle es A F p (g p)) g:=by
 refine⟨λi M h=>?_,λi e M N h1 h2 he=>?_⟩
 ·obtain⟨_,L',e,rfl⟩:=N6 B v.len hp h;have:=s.mem i L' e
  split
  ·exact mF.mpr ⟨this,s.fit p i L L' hL e (by assumption)⟩
  ·exact this
 ·obtain⟨_,L',e1,_⟩:=N6 B v.len hp h1;obtain⟨_,L2,e2,_⟩:=N6 B v.len hp h2;exact s.fit i e L' L2 e1 e2 he
theorem zeM(B:Bo n k es A)(v:Fv n k F)(hp:p<n){L:List Int}(hL:F[p]?=some (some L))(hx:x∈L)(s:qF es A (settle es A F p x) g):qF es A F λi=>if i=p then x else g i:=by
 have ap:∀(i:Nat) M,i≠p->F[i]?=some (some M)->(i:Int)∈es p->A x (g i)=true/\(0<=g i/\g i<k):=λi M ni h m=>by
  have h2:=Kv (x:=x) B v.len hp ni h;have:=s.mem i _ h2;rw[if_pos m] at this;exact⟨(mF.mp this).2,v.lo i M h _ (mF.mp this).1⟩
 have hxk:=v.lo p L hL x hx;refine⟨λi M h=>?_,λi e M N h1 h2 he=>?_⟩
 ·by_cases z:i=p
  ·subst z;rw[if_pos rfl];rw[hL] at h;cases h;exact hx
  ·rw[if_neg z];have:=s.mem i _ (Kv (x:=x) B v.len hp z h);split at this
   ·exact(mF.mp this).1
   ·exact this
 ·have li:=rE v.len h1;have le:=rE v.len h2;by_cases z:i=p
  ·subst z;have ne:e≠i:=λq=>(B.mem i li _ he).2.2 (by rw[q]);rw[if_pos rfl,if_neg ne];exact(ap e N ne h2 he).1
  ·by_cases y:e=p
   ·subst y;rw[if_neg z,if_pos rfl];have m:=B.sym i e li le he;obtain⟨q1,q2⟩:=ap i M z h1 m;rw[B.asy _ _ q2.1 q2.2 hxk.1 hxk.2];exact q1
   ·rw[if_neg z,if_neg y];exact s.fit i e _ _ (Kv (x:=x) B v.len hp z h1) (Kv (x:=x) B v.len hp y h2) he
theorem Ga(B:Bo n k es A)(v:Fv n k F)(hp:p<n){L:List Int}(hL:F[p]?=some (some L)):Sat es A F↔∃x∈L,Sat es A (settle es A F p x):=
 ⟨λ⟨g,s⟩=>⟨g p,s.mem p L hL,g,N7 B v hp hL s⟩,λ⟨x,hx,g,s⟩=>⟨_,zeM B v hp hL hx s⟩⟩
noncomputable def dO(es:Nat->List Int)(F:Fr)(p:Nat):Nat:=((es p).filter λe=>(F[e.toNat]?.join).isSome).length
noncomputable def bnd(es:Nat->List Int)(F:Fr):Fr:=F.mapIdx λi c=>if 0<dO es F i then c else none
theorem ziI{i:Nat}:(bnd es F)[i]?=F[i]?.map λc=>if 0<dO es F i then c else none:=by unfold bnd;rw[List.getElem?_mapIdx]
theorem Dp{i:Nat}{L:List Int}(h:(bnd es F)[i]?=some (some L)):F[i]?=some (some L)/\0<dO es F i:=by
 rw[ziI] at h;obtain⟨c,e1,e2⟩:=kZ.mp h;split at e2
 ·subst e2;exact⟨e1,by assumption⟩
 ·cases e2
theorem zic(v:Fv n k F):Fv n k (bnd es F):=⟨by unfold bnd;rw[List.length_mapIdx];exact v.len,λi L h=>v.lo i L (Dp h).1,λi L h=>v.ll i L (Dp h).1,λi L h=>v.so i L (Dp h).1⟩
theorem zeE{i e:Nat}{L:List Int}(hm:(e:Int)∈es i)(h:F[e]?=some (some L)):0<dO es F i:=by
 unfold dO;refine O7 (a:=(e:Int)) (mF.mpr ⟨hm,?_⟩);rw[rJ,h];rfl
theorem zjO(B:Bo n k es A)(v:Fv n k F)(ne:∀(i:Nat) L,F[i]?=some (some L)->L≠[]):Sat es A (bnd es F)↔Sat es A F:=by
 constructor
 ·rintro⟨g,s⟩;have to:∀(i:Nat) L,F[i]?=some (some L)->0<dO es F i->(bnd es F)[i]?=some (some L):=λi L h q=>by rw[ziI,h];show some (if _ then _ else _)=_;rw[if_pos q]
  refine⟨λi=>if 0<dO es F i then g i else ((F[i]?.join).getD []).headD 0,λi L h=>?_,λi e L M h1 h2 he=>?_⟩
  ·by_cases q:0<dO es F i
   ·rw[if_pos q];exact s.mem i L (to i L h q)
   ·rw[if_neg q,h];show L.headD 0∈L;cases L with
    |nil=>exact absurd rfl (ne i [] h)
    |cons a L=>exact lg
  ·have q1:=zeE he h2;have q2:=zeE (B.sym i e (rE v.len h1) (rE v.len h2) he) h1;rw[if_pos q1,if_pos q2];exact s.fit i e L M (to i L h1 q1) (to e M h2 q2) he
 ·rintro⟨g,s⟩;exact⟨g,λi L h=>s.mem i L (Dp h).1,λi e L M h1 h2 he=>s.fit i e L M (Dp h1).1 (Dp h2).1 he⟩
theorem Ue(h:∀(i:Nat) L,F[i]?≠some (some L)):Sat es A F:=⟨λ_=>0,λi L q=>absurd q (h i L),λi _ L _ q=>absurd q (h i L)⟩
theorem ziN{i:Nat}(h:F[i]?=some (some [])):¬Sat es A F:=λ⟨g,s⟩=>nomatch s.mem i [] h
noncomputable def dY(k:Nat):List Int:=(List.range k).map λ(i:Nat)=>(i:Int)
theorem bN{k:Nat}{y:Int}:y∈dY k↔0<=y/\y<k:=by
 unfold dY;rw[qI]
 constructor
 ·rintro⟨i,hi,rfl⟩;have:=Am.mp hi;lia
 ·intro h;exact⟨y.toNat,Am.mpr gV,by lia⟩
theorem Ug(B:Bo n k es A)(v:Fv n k F)(hp:p<n)(hk:1<=k)(dM:∀t a b:Int,0<=a->a<k->0<=b->b<k->A ((a+t)%k) ((b+t)%k)=A a b)(all:∀(i:Nat) L,F[i]?=some (some L)->L=dY k)(hL:F[p]?=some (some (dY k))):Sat es A F↔Sat es A (settle es A F p 0):=by
 constructor
 ·rintro⟨g,s⟩;have md:∀z:Int,0<=z%(k:Int)/\z%(k:Int)<k:=λz=>⟨Al _ gV,DG _ gV⟩;have s2:qF es A F λi=>(g i + -(g p))%k:=by
   refine⟨λi L h=>?_,λi e L M h1 h2 he=>?_⟩
   ·rw[all i L h];exact bN.mpr (md _)
   ·have a:=bN.mp (all i L h1▸s.mem i L h1);have b:=bN.mp (all e M h2▸s.mem e M h2);show A ((g i + -(g p))%k) ((g e + -(g p))%k)=true;rw[dM _ _ _ a.1 a.2 b.1 b.2];exact s.fit i e L M h1 h2 he
  have:=N7 B v hp hL s2;have e0:(g p + -(g p))%(k:Int)=0:=by rw[Int.add_right_neg];rfl
  simp only[e0] at this;exact⟨_,this⟩
 ·intro h;exact(Ga B v hp hL).mpr ⟨0,bN.mpr ⟨by lia,by lia⟩,h⟩
noncomputable def unset(F:Fr):Nat:=F.countP Option.isSome
theorem zc9:unset (bnd es F)<=unset F:=by
 unfold unset bnd;generalize dO es F=f
 induction F generalizing f with
 |nil=>simp
 |cons c F ih=>
  rw[List.mapIdx_cons,Ai,Ai];have:=ih (λi=>f (i+1));have e:(if (if 0<f 0 then c else none).isSome=true then 1 else 0)<=(if c.isSome=true then 1 else 0):=by
   split<;>split<;>simp_all
  lia
theorem zgh{F:Fr}:∀{p:Nat} {L:List Int},F[p]?=some (some L)->unset (F.set p none)+1=unset F:=by
 unfold unset
 induction F with
 |nil=>intro p L h;simp at h
 |cons c F ih=>
  intro p L h;cases p with
  |zero=>simp at h;subst h;simp
  |succ p=>
   have:=ih (p:=p) (L:=L) (by simpa using h);rw[List.set_cons_succ,Ai,Ai]
   lia
theorem zf5{f:Int->Bool}{F:Fr}{e:Int}:unset (gC f F e)<=unset F:=by
 unfold unset gC;generalize e.toNat=j
 induction F generalizing j with
 |nil=>simp
 |cons c F ih=>
  cases j with
  |zero=>cases c<;>simp
  |succ j=>
   rw[List.set_cons_succ,Ai,Ai,Dt];have:=ih j
   lia
theorem zck{f:Int->Bool}:∀{l:List Int} {F:Fr},unset (l.foldl (gC f) F)<=unset F
 |[],F=>cj _
 |e::l,F=>jQ (zck (l:=l)) zf5
theorem Ky{L:List Int}(h:F[p]?=some (some L)):unset (settle es A F p x)+1<=unset F:=by
 have:=zck (f:=A x) (l:=es p) (F:=F.set p none);have:=zgh h;unfold settle
 lia
theorem zfg(h:unset F=0)(i:Nat)(L:List Int):F[i]?≠some (some L):=λe=>by
 have:=List.countP_eq_zero.mp h _ (gJ e);exact this rfl
def lJ(es:Nat->List Int)(A:Int->Int->Bool)(kvs:iQ):Prop:=∀F d,bL (F.map cellK) kvs=some d->∃b,d=.bl b/\(b=true↔Sat es A F)
theorem zez{j q:List Kx}{d:D}:∀{kvs:iQ},bL j (jF q d kvs)=if j=q then some d else bL j kvs:=by
 intro kvs;unfold jF;have app:∀{r:iQ},bL j (r++[(q,d)])=match bL j r with|some e=>some e|none=>if j=q then some d else none:=λ{r}=>by
  induction r with
  |nil=>
   show (if q=j then some d else none)=if j=q then some d else none
   by_cases e:q=j
   ·rw[if_pos e,if_pos e.symm]
   ·rw[if_neg e,if_neg λz=>e z.symm]
  |cons p r ih=>
   rw[List.cons_append];unfold bL;by_cases e:p.1=j
   ·simp[e]
   ·simp only[e,nU];exact ih
 by_cases h:(bL q kvs).isSome=true
 ·rw[if_pos h];by_cases e:j=q
  ·subst e;rw[if_pos rfl]
   induction kvs with
   |nil=>simp[bL] at h
   |cons p r ih=>
    rw[jk];by_cases z:p.1=j
    ·rw[if_pos z];unfold bL;rw[if_pos z]
    ·rw[if_neg z];unfold bL at h ⊢;rw[if_neg z] at h ⊢;exact ih h
  ·rw[if_neg e];clear h
   induction kvs with
   |nil=>rfl
   |cons p r ih=>
    rw[jk];by_cases z:p.1=q
    ·rw[if_pos z];unfold bL;rw[if_neg (λy=>e (y.symm.trans z)),if_neg (λy=>e (y.symm.trans z))];exact ih
    ·rw[if_neg z];unfold bL;by_cases y:p.1=j
     ·rw[if_pos y,if_pos y]
     ·rw[if_neg y,if_neg y];exact ih
 ·rw[if_neg h,app];by_cases e:j=q
  ·subst e;have:bL j kvs=none:=by simpa using h
   simp[this]
  ·rw[if_neg e,if_neg e];cases bL j kvs<;>rfl
theorem zg2{q:List Kx}{d:D}{kvs:iQ}:(jF q d kvs).length<=kvs.length+1:=by
 unfold jF
 split
 ·rw[fW];lia
 ·simp
theorem zjt{kvs:iQ}{b:Bool}(h:lJ es A kvs)(hb:b=true↔Sat es A F):lJ es A (jF (F.map cellK) (.bl b) kvs):=λG d e=>by
 rw[zez] at e;by_cases z:G.map cellK=F.map cellK
 ·rw[if_pos z] at e;cases e;rw[zgo z];exact⟨b,rfl,hb⟩
 ·rw[if_neg z] at e;exact h G d e
end
noncomputable def cnt(k:Nat):Nat->Nat
 |0=>1
 |m+1=>1+k*cnt k m
section
variable {aq:Nat->Nat->Bool}{aj:Bool}{F:Fn}{J:Vs}{s:S}{P:Xv->S->Prop}
theorem W.sJ{c:Nat}{fs:List D}{P:List D->S->Prop}(h:P fs s):W (Mi.sJ c (.d (.ob c fs))) s P:=by
 show W (if c=c then M.ret fs else M.no) s P;rw[if_pos rfl];exact W.ret h
theorem W.cm{c f:Nat}{o:E}{xs:Es}{fs:List D}{vs:List Xv}(h1:dJ aq o J=some (.d (.ob c fs)))(h2:o7 aq xs J=some vs)(k:W (bU (F f) (.d (.ob c fs)::vs)) s P):W (ev aq aj F (.cm c f o xs) J) s P:=
 W.bd (W.eq (gQ o _ h1) (W.bd (W.sJ (W.bd (W.eq (jO xs h2) (W.qt k))))))
theorem W.oH(h:P (.l s.length) (s++[.dct []])):W (ev aq aj F .oH J) s P:=⟨_,_,rfl,h⟩
theorem W.key{x:D}{kx:List Kx}{P:List Kx->S->Prop}(e:kOf x=some kx)(h:P kx s):W (Mi.key (.d x)) s P:=W.opt e h
theorem W.cC{n:Nat}{kvs:iQ}{P:Nat×iQ->S->Prop}(e:s[n]?=some (.dct kvs))(h:P (n,kvs) s):W (Mi.cC (.l n)) s P:=⟨_,s,by unfold Mi.cC;simp only[e],h⟩
theorem W.sE{b:Bool}{k d:E}{x:D}{n:Nat}{kx:List Kx}{kvs:iQ}(h1:dJ aq k J=some (.d x))(h2:dJ aq d J=some (.l n))(e:kOf x=some kx)(hn:s[n]?=some (.dct kvs))(h:P (.d (.bl ((bL kx kvs).isSome==b))) s):W (ev aq aj F (.sE b k d) J) s P:=
 W.bd (W.eq (gQ k _ h1) (W.bd (W.eq (gQ d _ h2) (W.bd (W.key e (W.bd (W.cC hn (W.ret h))))))))
theorem W.jE{d k:E}{x v:D}{n:Nat}{kx:List Kx}{kvs:iQ}(h1:dJ aq d J=some (.l n))(h2:dJ aq k J=some (.d x))(e:kOf x=some kx)(hn:s[n]?=some (.dct kvs))(hv:bL kx kvs=some v)(h:P (.d v) s):W (ev aq aj F (.jE d k) J) s P:=
 W.bd (W.eq (gQ d _ h1) (W.bd (W.eq (gQ k _ h2) (W.bd (W.key e (W.bd (W.cC hn (W.opt (a:=.d v) (by show Option.map _ (bL kx kvs)=_;rw[hv];rfl) h))))))))
theorem W.BZ{a:E}(h:W (ev aq aj F a J) s λx s1=>W (rd x) s1 λd s2=>∃b,xM d=some b/\P (.d (.bl b)) s2):W (ev aq aj F (.BZ a) J) s P:=
 W.bd (h.imp λ_ _ h=>W.bd (h.imp λ_ _ ⟨_,e,h⟩=>W.bd (W.opt e (W.ret h))))
theorem KaJ{xs:List D}{P:Src×Nat->S->Prop}(h:P (.fix (enumFrom 0 xs),(enumFrom 0 xs).length) s):W (oN (.d (.tup xs))) s P:=⟨_,s,rfl,h⟩
theorem W.mk{c f:Nat}{xs:Es}{vs:List Xv}{ds:List D}(h:W (evs aq aj F xs J) s λus s1=>us=vs/\P (.d (.ob c ds)) s1)(hl:locs vs=[])(k:W (F f (.d .any::vs)) [] λv _=>v=.d (.tup ds)):W (ev aq aj F (.mk c f xs) J) s P:=by
 refine W.bd (h.imp λus s1 ⟨e,hp⟩=>?_);subst e;obtain⟨v,s2,e1,rfl⟩:=k;refine⟨_,s1,?_,hp⟩;unfold zJ;rw[if_pos hl];simp only[e1]
end
theorem WS.dput{aq:Nat->Nat->Bool}{aj:Bool}{F:Bool->Fn}{J:Vs}{s:S}{Q:Out->S->Prop}{d k v:E}{x:D}{n:Nat}{kx:List Kx}(h1:dJ aq d J=some (.l n))(h2:dJ aq k J=some (.d x))(e:kOf x=some kx)
  (h:W (ev aq aj (F aj) v J) s λz s1=>∃w kvs,z=.d w/\s1[n]?=some (.dct kvs)/\kvs.length<sizeLine/\Q (.nx J) (s1.set n (.dct (jF kx w kvs)))):WS (ex aq aj F (.dput d k v) J) s Q:=by
 refine WS.ofM (W.bd (h.imp λz s1 ⟨w,kvs,ez,hn,hl,q⟩=>?_));subst ez;refine W.bd (W.dat (W.bd (W.eq (gQ d _ h1) (W.bd (W.eq (gQ k _ h2) (W.bd (W.key e (W.bd (W.cC hn ?_)))))))));rw[if_pos hl];exact⟨_,_,rfl,WS.nx q⟩
theorem zbA{α:Type}{f:α->D}:∀(l:List α) (j:Nat),enumFrom j (l.map f)=(l.zipIdx j).map λp=>.tup [.int p.2,f p.1]
 |[],j=>rfl
 |a::l,j=>by rw[jk,List.zipIdx_cons,jk,<-zbA l (j+1)];rfl
theorem KaU{o:Option Rz}{xs:List D}{s:S}{P:Xv->S->Prop}(e:o=some (.nw xs))(h:P (.l s.length) (s++[.lst xs])):W (cI false o) s P:=by subst e;exact⟨_,_,rfl,h⟩
theorem ziG{n:Nat}{j:Int}(h0:0<=j)(h:j<n):L2.rW n j=some j.toNat:=by
 unfold L2.rW;rw[if_pos h0,if_pos h]
theorem zjf{n:Nat}{j:Int}(h0:j<0)(h : -(n:Int)<=j):L2.rW n j=some (j+n).toNat:=by
 unfold L2.rW;rw[if_neg gV,if_pos h]
theorem znx{xs:List D}{j:Int}{x:D}(h0:j<0)(h1 : -(xs.length:Int)<=j)(h:xs[(j+xs.length).toNat]?=some x):prim .ix [.fl xs,.int j]=some (.dat x):=by
 show Option.map Rz.dat (L2.qQ xs j)=_;have:L2.qQ xs j=some x:=by
  unfold L2.qQ;rw[zjf h0 h1];exact h
 rw[this];rfl
theorem zhD(F:Fr):memD (.tup []) (F.map bJ)=some (decide (some []∈F)):=by
 induction F with
 |nil=>rfl
 |cons c F ih=>
  simp only[jk,memD,ih];cases c with
  |none=>simp[bJ,c7,kq]
  |some l=>
   cases l with
   |nil=>
    have:c7 50 (bJ (some [])) (.tup [])=some true:=rfl;rw[this];simp
   |cons a l=>
    have:c7 50 (bJ (some (a::l))) (.tup [])=some false:=rfl;rw[this];simp
theorem znG{f:Bool->Bool}{F:Fr}:Ez f [.tup [],jx F]=some (.dat (.bl (f (decide (some []∈F))))):=by
 show Option.map _ (memD (.tup []) (F.map bJ))=_;rw[zhD];rfl
theorem zgK{k':Nat}:∀(a b:List Int),dR (c7 k') (a.map D.int) (b.map D.int)=some (decide (a=b))
 |[],[]=>by simp[dR]
 |[],_::_=>by simp[dR]
 |_::_,[]=>by simp[dR]
 |x::a,y::b=>by
  have hi:c7 k' (.int x) (.int y)=some (x==y):=by cases k'<;>rfl
  simp only[jk,dR,zgK a b,hi]
  congr 1
  by_cases e:x=y<;>by_cases e2:a=b<;>simp[e,e2]
theorem zmM{f:Bool->Bool}{a b:List Int}:Ca f [.tup (a.map .int),.tup (b.map .int)]=some (.dat (.bl (f (decide (a=b))))):=by
 show Option.map _ (dR (c7 49) (a.map D.int) (b.map D.int))=_;rw[zgK];rfl
theorem zc8:∀rs:List (List Int),jZ (rs.map λr=>D.tup (r.map .int))=some rs
 |[]=>rfl
 |r::rs=>by simp only[jk,jZ,Ub,zc8 rs]
theorem Uh:∀(rs:List (List Int)) (b:List Int),gq b rs=b\/gq b rs∈rs
 |[],b=>.inl rfl
 |x::r,b=>by
  unfold gq
  split
  ·rcases Uh r x with h|h
   ·rw[h];exact .inr lg
   ·exact .inr (gU _ h)
  ·rcases Uh r b with h|h
   ·exact .inl h
   ·exact .inr (gU _ h)
theorem zlA{rs:List (List Int)}(h:rs≠[]):∃r∈rs,prim .su [.fl (rs.map λr=>D.tup (r.map .int))]=some (.dat (.tup (r.map .int))):=by
 cases rs with
 |nil=>exact absurd rfl h
 |cons x r=>
  refine⟨gq x r,?_,?_⟩
  ·rcases Uh r x with h|h
   ·rw[h];exact lg
   ·exact gU _ h
  ·show oM [.fl ((x::r).map λr=>D.tup (r.map .int))]=_;unfold oM;simp only[zc8]
theorem zne{n:Nat}(h:n<=65536):prim .Ey [.int n]=some (.dat (.tup ((dY n).map .int))):=by
 show (if okR 0 (n:Int)=true then some (Rz.dat (.tup (I9 0 ((n:Int)-0).toNat))) else none)=_;rw[if_pos (show okR 0 (n:Int)=true from nH gV)];unfold I9 dY;rw[GC,show ((n:Int)-0).toNat=n by lia]
 congr 4
 funext i
 simp
noncomputable def Dq(n:Nat)(es:Nat->List Int):List D:=(List.range n).map λi=>.tup ((es i).map .int)
noncomputable def wj(k:Nat)(A:Int->Int->Bool):List D:=(List.range k).map λ(a:Nat)=>.fl ((List.range k).map λ(b:Nat)=>.bl (A a b))
noncomputable def jy(al:Bool)(n k:Nat)(es:Nat->List Int)(A:Int->Int->Bool):D:=.ob 0 [.fl (Dq n es),.tup ((dY k).map .int),.fl (wj k A),.bl al]
noncomputable abbrev boD(n k:Nat)(es:Nat->List Int)(A:Int->Int->Bool):D:=jy true n k es A
theorem zly{n:Nat}{es:Nat->List Int}{i:Nat}(h:i<n):(Dq n es)[i]?=some (.tup ((es i).map .int)):=by
 unfold Dq;rw[jP,Gk h];rfl
theorem znJ{k:Nat}{A:Int->Int->Bool}{a:Int}(h0:0<=a)(h:a<k):(wj k A)[a.toNat]?=some (.fl ((List.range k).map λ(b:Nat)=>.bl (A a b))):=by
 unfold wj;rw[jP,Gk gV];have:((a.toNat:Nat):Int)=a:=by lia
 simp[this]
theorem Ui{k:Nat}{f:Int->Bool}{b:Int}(h0:0<=b)(h:b<k):((List.range k).map λ(b:Nat)=>D.bl (f b))[b.toNat]?=some (.bl (f b)):=by
 rw[jP,Gk gV];have:((b.toNat:Nat):Int)=b:=by lia
 simp[this]
theorem Kz{F:Fr}{i:Nat}{c:Option (List Int)}(h:F[i]?=some c):(F.map bJ)[i]?=some (bJ c):=by rw[jP,h];rfl
theorem zj6{f:Int->Bool}{F:Fr}{e:Int}:(gC f F e).map bJ=(F.map bJ).set e.toNat (bJ ((F[e.toNat]?.join).map (·.filter f))):=by
 unfold gC;rw[List.map_set]
theorem zhj{f:Int->Bool}{F:Fr}{e:Int}(h:F[e.toNat]?=some none):gC f F e=F:=by
 unfold gC;rw[h];obtain⟨hl,e2⟩:=fX.mp h;show F.set e.toNat none=F;rw[<-e2,List.set_getElem_self]
theorem zdl{α:Type}{p:Int->Bool}(l:List Int):l.filterMap (λy=>if p y=true then some (D.int y) else none)=(l.filter p).map .int:=by
 induction l with
 |nil=>rfl
 |cons a l ih=>
  rw[Gj,List.filter_cons];by_cases q:p a=true
  ·simp[q,ih]
  ·simp[q,ih]
noncomputable def tot(k:Nat):Nat->Nat
 |0=>0
 |m+1=>k*cnt k m+tot k m
theorem zir{k:Nat}{L:List Int}(h:L.Pairwise (·<·))(hb:∀x∈L,0<=x/\x<k):L.length<=k:=by
 have key:∀(L:List Int) (a:Int),L.Pairwise (·<·)->(∀x∈L,a<=x/\x<k)->a<=k->(L.length:Int)<=k-a:=by
  intro L
  induction L with
  |nil=>intro a _ _ ha;simp;lia
  |cons x r ih=>
   intro a h hb ha;rw[Gq] at h;have hx:=hb x Zaa;have:=ih (x+1) h.2 (λy hy=>by have:=h.1 y hy;have:=hb y (by simp[hy]);lia) gV;rw[gW]
   lia
 have:=key L 0 h hb gV
 lia
noncomputable def cX(k d:Int)(a b:Int):Bool:=decide (d<=kI k a b)
section
variable {n k d:Int}{ps:List (Int×Int)}{ls:List Int}
theorem zgb(hd:1<=d){a b:Int}:cX k d a b=cX k d b a:=by
 unfold cX;rw[wz,FQ hd,FQ hd]
 lia
theorem N_(hd:1<=d)(t a b:Int)(a0:0<=a)(ak:a<k)(b0:0<=b)(bk:b<k):cX k d ((a+t)%k) ((b+t)%k)=cX k d a b:=by
 unfold cX;rw[wz,FQ hd,FQ hd];have e1:=O9 (a+t) k;have e2:=O9 (b+t) k;have u0:=Al (a+t) (b:=k) gV;have w0:=Al (b+t) (b:=k) gV;have uk:=DG (a+t) (b:=k) gV;have wk:=DG (b+t) (b:=k) gV;generalize (a+t)%k=u at *;generalize (b+t)%k=w at *;generalize (a+t)/k=q1 at *;generalize (b+t)/k=q2 at *;have e3:k*(q1-q2)=(a-b)-(u-w):=by rw[Int.mul_sub];lia
 have c:q1-q2 = -1\/q1-q2=0\/q1-q2=1:=by
  have h1:q1-q2<2:=Int.not_le.mp λz=>by
   have:=Int.mul_le_mul_of_nonneg_left z (show 0<=k by lia)
   lia
  have h2 : -2<q1-q2:=Int.not_le.mp λz=>by
   have:=Int.mul_le_mul_of_nonneg_left z (show 0<=k by lia)
   lia
  lia
 rcases c with c|c|c<;>rw[c] at e3<;>lia
theorem KC(w:Web n ps){i e:Int}:e∈bM i ps↔(i,e)∈ps\/(e,i)∈ps:=by
 unfold bM;rw[Gn]
 constructor
 ·rintro⟨p,hp,h⟩;obtain⟨a,b⟩:=p;unfold endOf at h;dsimp only at h;split at h
  ·cases h;subst_vars;exact .inl hp
  ·split at h
   ·cases h;subst_vars;exact .inr hp
   ·cases h
 ·rintro(hp|hp)
  ·exact⟨_,hp,by simp[endOf]⟩
  ·have:=w.tie _ hp;dsimp only at this;exact⟨_,hp,by unfold endOf;dsimp only;rw[if_neg gV,if_pos rfl]⟩
theorem zlk(w:Web n ps)(hd:1<=d)(hk:k<=24):Bo n.toNat k.toNat (λi=>bM i ps) (cX k d) where
 hn:=by have:=w.h8;lia
 hk:=by lia
 mem:=λi hi e he=>by
  have:=Z9 w he;refine⟨this.1,by lia,λz=>?_⟩;subst z;rcases(KC w).mp he with h|h<;>have:=w.tie _ h<;>dsimp only at this<;>lia
 sym:=λi e _ _ he=>(KC w).mpr ((KC w).mp he).symm
 len:=λi hi=>by
  have:=zir (k:=n.toNat) (Z0 w i) (λx hx=>by have:=Z9 w hx;have:=w.h1;lia);have:=w.h8
  lia
 asy:=λa b _ _ _ _=>zgb hd
noncomputable def ji(n k:Int):Fr:=List.replicate n.toNat (some (dY k.toNat))
theorem KD{i:Nat}{L:List Int}(h:(ji n k)[i]?=some (some L)):i<n.toNat/\L=dY k.toNat:=by
 unfold ji at h;rw[Ad] at h;split at h
 ·cases h;exact⟨by assumption,rfl⟩
 ·cases h
theorem Oa{i:Nat}(h:i<n.toNat):(ji n k)[i]?=some (some (dY k.toNat)):=by
 unfold ji;rw[Ad,if_pos h]
theorem Ob(hk:k<=24):Fv n.toNat k.toNat (ji n k) where
 len:=by unfold ji;simp
 lo:=λi L h x hx=>by rw[(KD h).2] at hx;exact bN.mp hx
 ll:=λi L h=>by rw[(KD h).2];unfold dY;simp;lia
 so:=λi L h=>by
  rw[(KD h).2];unfold dY;rw[Pu];exact List.pairwise_lt_range.imp (by intro a b h;lia)
theorem zes(w:Web n ps)(hd:1<=d){hs:List Int}(h:jK n k d ps hs):qF (λi=>bM i ps) (cX k d) (ji n k) λj=>at' hs j where
 mem:=λi L e=>by
  obtain⟨h1,rfl⟩:=KD e;have:=h.len;have:=h.lo _ (Ka (fs:=hs) (j:=i) gV gV);exact bN.mpr gV
 fit:=λi e L M _ _ he=>by
  rcases(KC w).mp he with q|q
  ·have:=h.fit _ q;show cX k d (at' hs i) (at' hs e)=true;unfold cX;rw[Pj];exact this
  ·have:=h.fit _ q;rw[zgb hd];show cX k d (at' hs e) (at' hs i)=true;unfold cX;rw[Pj];exact this
theorem zho(w:Web n ps){hs:List Int}(hl:hs.length=n.toNat)(s:qF (λi=>bM i ps) (cX k d) (ji n k) λj=>at' hs j):jK n k d ps hs where
 len:=by have:=w.h1;lia
 lo:=λx hx=>by
  obtain⟨j,hj,e⟩:=yN hx;have:=s.mem j _ (Oa gV);have e2:at' hs (j:Int)=x:=by
   unfold at';rw[rJ,mD,fj hj,e];rfl
  rw[e2] at this;have:=bN.mp this
  lia
 fit:=λp hp=>by
  have ht:=w.tie p hp;obtain⟨a,b⟩:=p;dsimp only at ht;obtain⟨i,rfl⟩:=K7 ht.1;obtain⟨e,rfl⟩:=K7 (show 0<=b by lia);have:=s.fit i e _ _ (Oa gV) (Oa gV) ((KC w).mpr (.inl hp));unfold cX at this;rw[Pj] at this;exact this
end
theorem zeo{k k2 m m2:Nat}(hk:k<=k2)(hm:m<=m2):cnt k m<=cnt k2 m2:=by
 have h1:∀m,cnt k m<=cnt k2 m:=by
  intro m
  induction m with
  |zero=>exact cj _
  |succ m ih=>exact Nat.add_le_add_left (Nat.mul_le_mul hk ih) 1
 have h3:∀m,1<=cnt k2 m:=λm=>by cases m<;>unfold cnt<;>lia
 by_cases c:k2=0
 ·subst c;have:k=0:=by lia
  subst this;cases m<;>cases m2<;>simp[cnt]
 ·have h2:∀j,cnt k2 m<=cnt k2 (m+j):=by
   intro j
   induction j with
   |zero=>exact cj _
   |succ j ih=>
    have:1*cnt k2 (m+j)<=k2*cnt k2 (m+j):=K_ _ gV;show _<=1+k2*cnt k2 (m+j)
    lia
  have:=h2 (m2-m);rw[show m+(m2-m)=m2 by lia] at this;exact jQ (h1 m) this
theorem zg7{k k2 m m2:Nat}(hk:k<=k2)(hm:m<=m2):tot k m<=tot k2 m2:=by
 have h1:∀m,tot k m<=tot k2 m:=by
  intro m
  induction m with
  |zero=>exact cj _
  |succ m ih=>exact Nat.add_le_add (Nat.mul_le_mul hk (zeo hk (cj _))) ih
 have h2:∀j,tot k2 m<=tot k2 (m+j):=by
  intro j
  induction j with
  |zero=>exact cj _
  |succ j ih=>show _<=k2*cnt k2 (m+j)+tot k2 (m+j);lia
 have:=h2 (m2-m);rw[show m+(m2-m)=m2 by lia] at this;exact jQ (h1 m) this
theorem Uj(a b k:Int):(a%k+b)%k=(a+b)%k:=by
 have e:=O9 a k;have:a%k+b=(a+b)+k*(-(a/k)):=by rw[Int.mul_neg];lia
 rw[this,Int.add_mul_emod_self_left]
theorem Oc{a k:Int}(h0:0<=a)(h:a<k):a%k=a:=Int.emod_eq_of_lt h0 h
theorem Uk{a k:Int}(h:0<k):0<=a%k/\a%k<k:=⟨Al _ gV,DG _ h⟩
noncomputable def bA(k m:Int)(hs:List Int):List Int:=hs.map λx=>(x+m)%k
section
variable {n k d m:Int}{ps:List (Int×Int)}{hs:List Int}
theorem zgc(w:Web n ps)(hd:1<=d)(hk:1<=k)(h:jK n k d ps hs):jK n k d ps (bA k m hs) where
 len:=by unfold bA;rw[fW];exact h.len
 lo:=λx hx=>by
  obtain⟨y,_,rfl⟩:=qI.mp hx;exact Uk gV
 fit:=λp hp=>by
  have ht:=w.tie p hp;have hl:=h.len;have a:=h.lo _ (Ka (fs:=hs) (j:=p.1) gV gV);have b:=h.lo _ (Ka (fs:=hs) (j:=p.2) gV gV);unfold bA;rw[Kc gV gV,Kc gV gV];have:=N_ (k:=k) hd m _ _ a.1 a.2 b.1 b.2;unfold cX at this;rw[wz] at this;exact this.mpr (h.fit p hp)
end
section
variable {n k d:Int}{ps:List (Int×Int)}
noncomputable def yD(k d:Int)(ps:List (Int×Int))(r:List Int)(x:Int):Bool:=ps.all λp=>decide (p.2=(r.length:Int)->d<=kI k (at' r p.1) x)
noncomputable def nextR(k d:Int)(ps:List (Int×Int))(r:List Int):List (List Int):=((dY k.toNat).filter (yD k d ps r)).map λx=>r++[x]
noncomputable def grow(k d:Int)(ps:List (Int×Int))(rows:List (List Int)):List (List Int):=rows.flatMap (nextR k d ps)
noncomputable def grows(k d:Int)(ps:List (Int×Int))(rows:List (List Int)):Nat->List (List Int)
 |0=>rows
 |i+1=>grow k d ps (grows k d ps rows i)
theorem o8{rows:List (List Int)}{h:List Int}:h∈grow k d ps rows↔∃r∈rows,∃x:Int,(0<=x/\x<(k.toNat:Nat))/\yD k d ps r x=true/\h=r++[x]:=by
 unfold grow nextR;rw[List.mem_flatMap]
 constructor
 ·rintro⟨r,hr,hh⟩;obtain⟨x,hx,rfl⟩:=qI.mp hh;obtain⟨h1,h2⟩:=mF.mp hx;exact⟨r,hr,x,bN.mp h1,h2,rfl⟩
 ·rintro⟨r,hr,x,h1,h2,rfl⟩;exact⟨r,hr,qI.mpr ⟨x,mF.mpr ⟨bN.mpr h1,h2⟩,rfl⟩⟩
structure Pre(k d:Int)(ps:List (Int×Int))(i:Nat)(r:List Int):Prop where
 len:r.length=i
 lo:∀x∈r,0<=x/\x<k
 fit:∀p∈ps,p.2<i->d<=kI k (at' r p.1) (at' r p.2)
theorem zhr(w:Web n ps)(hk:1<=k){i:Nat}{rows:List (List Int)}(P:List Int->Prop)(hP:∀r x,i≠0->r.length=i->(P (r++[x])↔P r))(h0:i≠0)(h:∀r,r∈rows↔Pre k d ps i r/\P r):∀r,r∈grow k d ps rows↔Pre k d ps (i+1) r/\P r:=by
 intro g;rw[o8]
 constructor
 ·rintro⟨r,hr,x,hx,ok,rfl⟩;obtain⟨hp,hq⟩:=(h r).mp hr;have hl:=hp.len;refine⟨⟨by simp[hl],λy hy=>?_,λp qC vW=>?_⟩,(hP r x h0 hl).mpr hq⟩
  ·rcases nG.mp hy with hy|hy
   ·exact hp.lo y hy
   ·have:y=x:=rH.mp hy
    lia
  ·have ht:=w.tie p qC;by_cases c:p.2<i
   ·rw[z_ gV gV,z_ gV gV];exact hp.fit p qC c
   ·have e:p.2=(r.length:Int):=by lia
    have:=lC (gY.mp ok p qC) e;rw[e,TV,z_ gV gV];exact this
 ·rintro⟨hp,hq⟩;have hl:=hp.len;have tO:g≠[]:=λe=>by rw[e] at hl;simp at hl
  obtain⟨r,x,rfl⟩ : ∃r x,g=r++[x]:=⟨g.dropLast,g.getLast tO,(List.dropLast_concat_getLast tO).symm⟩;have hrl:r.length=i:=by simpa using hl
  have hx:=hp.lo x Zaa;refine⟨r,(h r).mpr ⟨⟨hrl,λy hy=>hp.lo y (by simp[hy]),λp qC vW=>?_⟩,(hP r x h0 hrl).mp hq⟩,x,by lia,gY.mpr λp qC=>nH λe=>?_,rfl⟩
  ·have ht:=w.tie p qC;have:=hp.fit p qC gV
   rwa [z_ gV gV,z_ gV gV] at this
  ·have ht:=w.tie p qC;have:=hp.fit p qC gV
   rwa [e,TV,z_ gV gV] at this
theorem zfc(w:Web n ps):grow k d ps [[]]=(dY k.toNat).map λx=>[x]:=by
 unfold grow nextR;rw[Px,List.flatMap_nil,wA];have:(dY k.toNat).filter (yD k d ps [])=dY k.toNat:=by
  refine List.filter_eq_self.mpr λx _=>gY.mpr λp hp=>nH λe=>?_;have:=w.tie p hp;simp at e
  lia
 rw[this];rfl
theorem zgp(w:Web n ps)(hd:1<=d){r:List Int}(hr:∀x∈r,0<=x/\x<k)(t x:Int)(hx:0<=x/\x<k):yD k d ps (bA k t r) ((x+t)%k)=yD k d ps r x:=by
 unfold yD;rw[Bool.eq_iff_iff,gY,gY];have key:∀p∈ps,(p.2=((bA k t r).length:Int)->d<=kI k (at' (bA k t r) p.1) ((x+t)%k))↔(p.2=(r.length:Int)->d<=kI k (at' r p.1) x):=λp hp=>by
  have ht:=w.tie p hp;have el:(bA k t r).length=r.length:=by unfold bA;rw[fW]
  rw[el]
  constructor
  ·intro h e;have:=h e;unfold bA at this;rw[Kc gV gV] at this;have a:=hr _ (Ka (fs:=r) (j:=p.1) gV gV);have f:=N_ (k:=k) hd t _ _ a.1 a.2 hx.1 hx.2;unfold cX at f;rw[wz] at f;exact f.mp this
  ·intro h e;have:=h e;unfold bA;rw[Kc gV gV];have a:=hr _ (Ka (fs:=r) (j:=p.1) gV gV);have f:=N_ (k:=k) hd t _ _ a.1 a.2 hx.1 hx.2;unfold cX at f;rw[wz] at f;exact f.mpr this
 constructor
 ·intro h p hp;exact nH ((key p hp).mp (lC (h p hp)))
 ·intro h p hp;exact nH ((key p hp).mpr (lC (h p hp)))
theorem o9{k:Nat}:(dY k).Nodup:=by
 unfold dY;exact Pu.mpr (List.nodup_range.imp λh e=>h gV)
theorem zgy(w:Web n ps)(hd:1<=d)(hk:1<=k){r:List Int}(hr:∀x∈r,0<=x/\x<k)(t:Int):((nextR k d ps r).map (bA k t)).Perm (nextR k d ps (bA k t r)):=by
 unfold nextR;have e1:(((dY k.toNat).filter (yD k d ps r)).map λx=>r++[x]).map (bA k t)=((((dY k.toNat).filter (yD k d ps r)).map λx=>(x+t)%k).map λx=>bA k t r++[x]):=by
  rw[GC,GC];refine List.map_congr_left λx _=>?_;show bA k t (r++[x])=bA k t r++[(x+t)%k];unfold bA;rw[DP];rfl
 rw[e1];refine List.Perm.map _ ?_;have inj:∀a b:Int,0<=a->a<k->0<=b->b<k->(a+t)%k=(b+t)%k->a=b:=λa b a0 a1 b0 b1 e=>by
  have h1:((a+t)%k + -t)%k=a:=by rw[Uj,show a+t + -t=a by lia,Oc a0 a1]
  have h2:((b+t)%k + -t)%k=b:=by rw[Uj,show b+t + -t=b by lia,Oc b0 b1]
  rw[<-h1,<-h2,e]
 refine(List.perm_ext_iff_of_nodup ?_ (o9.filter _)).mpr λy=>?_
 ·refine Pu.mpr (List.Pairwise.imp_of_mem (λ{a b} ha hb h e=>?_) (o9.filter (yD k d ps r)));have a1:=bN.mp (mF.mp ha).1;have b1:=bN.mp (mF.mp hb).1;exact h (inj a b gV gV gV gV e)
 ·constructor
  ·intro hy;obtain⟨x,hx,rfl⟩:=qI.mp hy;obtain⟨h1,h2⟩:=mF.mp hx;have h1:=bN.mp h1;have:=Uk (a:=x+t) (k:=k) gV;exact mF.mpr ⟨bN.mpr gV,by rw[zgp w hd hr t x gV];exact h2⟩
  ·intro hy;obtain⟨h1,h2⟩:=mF.mp hy;have h1:=bN.mp h1;have hm:=Uk (a:=y + -t) (k:=k) gV;have ey:((y + -t)%k+t)%k=y:=by rw[Uj,show y + -t+t=y by lia,Oc gV gV]
   refine qI.mpr ⟨(y + -t)%k,mF.mpr ⟨bN.mpr gV,?_⟩,ey⟩;rw[<-zgp w hd hr t _ hm,ey];exact h2
theorem zjd(hk:1<=k){rows:List (List Int)}(h:∀r∈rows,∀x∈r,0<=x/\x<k):∀r∈grow k d ps rows,∀x∈r,0<=x/\x<k:=λr hr x hx=>by
 obtain⟨q,hq,y,hy,_,rfl⟩:=o8.mp hr;rcases nG.mp hx with hx|hx
 ·exact h q hq x hx
 ·have:x=y:=rH.mp hx
  lia
theorem zdc(w:Web n ps)(hd:1<=d)(hk:1<=k)(t:Int):∀{rows:List (List Int)},(∀r∈rows,∀x∈r,0<=x/\x<k)->((grow k d ps rows).map (bA k t)).Perm (grow k d ps (rows.map (bA k t)))
 |[],_=>List.Perm.refl _
 |r::rows,h=>by
  have e1:grow k d ps (r::rows)=nextR k d ps r++grow k d ps rows:=by unfold grow;rw[Px]
  have e2:grow k d ps ((r::rows).map (bA k t))=nextR k d ps (bA k t r)++grow k d ps (rows.map (bA k t)):=by unfold grow;rw[jk,Px]
  rw[e1,e2,DP];exact(zgy w hd hk (h r Zaa) t).append (zdc w hd hk t λq hq=>h q (by simp[hq]))
theorem zco(w:Web n ps)(hd:1<=d)(hk:1<=k)(t:Int){rows:List (List Int)}(h:∀r∈rows,∀x∈r,0<=x/\x<k):∀m,(∀r∈grows k d ps rows m,∀x∈r,0<=x/\x<k)/\((grows k d ps rows m).map (bA k t)).Perm (grows k d ps (rows.map (bA k t)) m)
 |0=>⟨h,List.Perm.refl _⟩
 |m+1=>by
  obtain⟨h1,h2⟩:=zco w hd hk t h m;refine⟨zjd hk h1,?_⟩;show ((grow k d ps (grows k d ps rows m)).map (bA k t)).Perm (grow k d ps (grows k d ps (rows.map (bA k t)) m));refine(zdc w hd hk t h1).trans ?_;unfold grow;exact List.Perm.flatMap_right _ h2
theorem zdJ{a b:List (List Int)}:∀m,grows k d ps (a++b) m=grows k d ps a m++grows k d ps b m
 |0=>rfl
 |m+1=>by
  show grow k d ps (grows k d ps (a++b) m)=grow k d ps (grows k d ps a m)++grow k d ps (grows k d ps b m);rw[zdJ m];unfold grow;rw[List.flatMap_append]
theorem zdq:∀m,grows k d ps [] m=[]
 |0=>rfl
 |m+1=>by show grow k d ps (grows k d ps [] m)=[];rw[zdq m];rfl
theorem zcm{rows:List (List Int)}:∀m,grows k d ps rows (m+1)=grows k d ps (grow k d ps rows) m
 |0=>rfl
 |m+1=>by
  show grow k d ps (grows k d ps rows (m+1))=grow k d ps (grows k d ps (grow k d ps rows) m);rw[zcm m]
theorem zbW(w:Web n ps)(hd:1<=d)(hk:1<=k)(m:Nat):(grows k d ps [[]] (m+1)).length=k.toNat*(grows k d ps [[0]] m).length:=by
 rw[zcm,zfc w];have one:∀x:Int,0<=x->x<k->(grows k d ps [[x]] m).length=(grows k d ps [[0]] m).length:=λx h0 h1=>by
  have:=(zco w hd hk x (rows:=[[0]]) (λr hr y hy=>by
   rw[rH.mp hr] at hy;have:y=0:=rH.mp hy
   lia) m).2.length_eq
  rw[fW] at this;rw[this];have e:[[(0:Int)]].map (bA k x)=[[x]]:=by
   unfold bA;simp[Oc h0 h1]
  rw[e]
 have all:∀l:List Int,(∀x∈l,0<=x/\x<k)->(grows k d ps (l.map λx=>[x]) m).length=l.length*(grows k d ps [[0]] m).length:=λl=>by
  induction l with
  |nil=>intro _;rw[List.map_nil,zdq];simp
  |cons x l ih=>
   intro h;rw[jk,show [x]::l.map (λx=>[x])=[[x]]++l.map (λx=>[x]) from rfl,zdJ,pA,one x (h x Zaa).1 (h x Zaa).2,ih λy hy=>h y (by simp[hy]),gW,Nat.succ_mul]
   lia
 rw[all _ λx hx=>by have:=bN.mp hx;lia]
 congr 1
 unfold dY;simp
end
section
variable {n k d:Int}{ps:List (Int×Int)}
theorem Ul(w:Web n ps)(hk:1<=k):∀(m:Nat) r,r∈grows k d ps [[0]] m↔Pre k d ps (m+1) r/\at' r 0=0
 |0,r=>by
  show r∈[[0]]↔_;rw[rH]
  constructor
  ·rintro rfl;refine⟨⟨rfl,λx hx=>by rw[rH.mp hx];lia,λp hp hl=>?_⟩,rfl⟩;have:=w.tie p hp
   lia
  ·rintro⟨h,e⟩;have hl:=h.len
   match r,hl with
   |[x],_=>
    have:at' [x] 0=x:=rfl;rw[this] at e;rw[e]
 |m+1,r=>zhr w hk (λr=>at' r 0=0) (λr x h0 hl=>by rw[z_ gV gV]) gV (Ul w hk m) r
theorem zdI(w:Web n ps){h:List Int}:(jK n k d ps h/\at' h 0=0)↔Pre k d ps (n.toNat-1+1) h/\at' h 0=0:=by
 have h1:=w.h1
 constructor
 ·rintro⟨q,e⟩;exact⟨⟨by have:=q.len;lia,q.lo,λp hp _=>q.fit p hp⟩,e⟩
 ·rintro⟨q,e⟩;exact⟨⟨by have:=q.len;lia,q.lo,λp hp=>q.fit p hp (by have:=w.tie p hp;lia)⟩,e⟩
theorem zhB(w:Web n ps)(hd:1<=d)(hk:1<=k):0<(grows k d ps [[]] n.toNat).length↔∃h,jK n k d ps h:=by
 have h1:=w.h1;have e:=zbW w hd hk (n.toNat-1);rw[show n.toNat-1+1=n.toNat by lia] at e;rw[e]
 constructor
 ·intro h;have:0<(grows k d ps [[0]] (n.toNat-1)).length:=Nat.pos_of_mul_pos_left h;obtain⟨r,hr⟩:=List.exists_mem_of_length_pos this;exact⟨r,((zdI w).mpr ((Ul w hk _ r).mp hr)).1⟩
 ·rintro⟨h,hh⟩;have hl:=hh.len;have ht:=zgc (m:=-(at' h 0)) w hd hk hh;have e0:at' (bA k (-(at' h 0)) h) 0=0:=by
   unfold bA;rw[Kc gV gV,show at' h 0 + -(at' h 0)=0 by lia];exact Int.zero_emod k
  have:=(Ul w hk _ _).mpr ((zdI w).mp ⟨ht,e0⟩);exact Nat.mul_pos gV (O7 this)
end
def Le{Z ρ:Type}(a b:Z->Option ρ):Prop:=∀s r,a s=some r->b s=some r
theorem Le.refl{Z ρ:Type}{a:Z->Option ρ}:Le a a:=λ_ _ h=>h
section
variable {α β:Type}
theorem Le.bd{m1 m2:M α}{k1 k2:α->M β}(h:Le m1 m2)(k:∀a,Le (k1 a) (k2 a)):Le (M.bd m1 k1) (M.bd m2 k2):=λs r e=>by
 unfold M.bd at e ⊢;cases em:m1 s with
 |none=>rw[em] at e;cases e
 |some q=>
  rw[em] at e;rw[h s q em];obtain⟨q,s'⟩:=q;cases q with
  |ok a=>exact k a s' r e
  |er c f=>exact e
theorem Le.qt{m1 m2:M α}(h:Le m1 m2):Le (M.qt m1) (M.qt m2):=λs r e=>by
 unfold M.qt at e ⊢;cases em:m1 s with
 |none=>rw[em] at e;cases e
 |some q=>rw[em] at e;rw[h s q em];exact e
theorem Le.ite{Z ρ:Type}{c:Prop}[Decidable c]{a b a' b':Z->Option ρ}(h:Le a a')(k:Le b b'):Le (if c then a else b) (if c then a' else b'):=by
 by_cases z:c
 ·rw[if_pos z,if_pos z];exact h
 ·rw[if_neg z,if_neg z];exact k
theorem Le.walk{c:Src}{f1 f2:D->List D->M (List D)}(h:∀d acc,Le (f1 d acc) (f2 d acc)):∀(k i:Nat) (acc:List D),Le (walk c f1 k i acc) (walk c f2 k i acc)
 |0,_,_=>Le.refl
 |k+1,i,acc=>λs r e=>by
  unfold Mi.walk at e ⊢;split at e
  ·cases e
  ·exact e
  ·exact Le.bd (h _ _) (λacc'=>Le.walk h k (i+1) acc') s r e
theorem Kab{f1 f2:D->M Xv}(h:∀d,Le (f1 d) (f2 d)):∀{xs:List D} {ks:List Int},gA f1 xs=some ks->gA f2 xs=some ks
 |[],ks,e=>e
 |x::r,ks,e=>by
  unfold gA at e ⊢;split at e
  ·rename_i k ex;rw[h x _ _ ex];obtain⟨q,e1,e2⟩:=kZ.mp e;dsimp only;rw[Kab h e1];exact lq some e2
  ·cases e
def RF(a b:List Xv->M Xv):Prop:=∀xs s r s1,a xs s=some (r,s1)->b xs s=some (r,s1)\/(s=[]/\∃d s2,r=.ok (.d d)/\b xs s=some (.ok (.d d),s2))
theorem Le.bU{F1 F2:List Xv->M Xv}{xs:List Xv}(h:RF F1 F2):Le (bU F1 xs) (bU F2 xs):=λs r e=>by
 unfold Mi.bU at e ⊢;by_cases hn:(locs xs).Nodup
 ·rw[if_pos hn] at e ⊢;cases es:iI s (locs xs) with
  |none=>rw[es] at e;cases e
  |some s0=>
   rw[es] at e;dsimp only at e ⊢;cases ef:F1 (dz 0 xs) s0 with
   |none=>rw[ef] at e;cases e
   |some q=>
    obtain⟨q,s1⟩:=q;rw[ef] at e;rcases h _ _ _ _ ef with z|⟨rfl,d,s2,rfl,z⟩
    ·rw[z];exact e
    ·rw[z];have hl:locs xs=[]:=by
      cases el:locs xs with
      |nil=>rfl
      |cons n l=>
       rw[el] at es;unfold iI at es;split at es<;>cases es
     rw[hl] at e ⊢;cases s1<;>cases s2<;>exact e
 ·rw[if_neg hn] at e;cases e
theorem Le.zJ{F1 F2:List Xv->M Xv}{c:Nat}{xs:List Xv}(h:RF F1 F2):Le (zJ F1 c xs) (zJ F2 c xs):=λs r e=>by
 unfold Mi.zJ at e ⊢;by_cases hn:locs xs=[]
 ·rw[if_pos hn] at e ⊢;split at e
  ·rename_i ds s1 ef;rcases h _ _ _ _ ef with z|⟨_,d,s2,e2,z⟩
   ·rw[z];exact e
   ·cases e2;rw[z];exact e
  ·cases e
 ·rw[if_neg hn] at e;cases e
theorem Le.ofM{m1 m2:M α}{J:Vs}{k1 k2:α->MS}(h:Le m1 m2)(k:∀a,Le (k1 a) (k2 a)):Le (ofM m1 J k1) (ofM m2 J k2):=λs r e=>by
 unfold Mi.ofM at e ⊢;cases em:m1 s with
 |none=>rw[em] at e;cases e
 |some q=>
  rw[em] at e;rw[h s q em];obtain⟨q,s'⟩:=q;cases q with
  |ok a=>exact k a s' r e
  |er c f=>exact e
theorem Le.bO{m1 m2:MS}{k1 k2:Vs->MS}(h:Le m1 m2)(k:∀a,Le (k1 a) (k2 a)):Le (bO m1 k1) (bO m2 k2):=λs r e=>by
 unfold Mi.bO at e ⊢;cases em:m1 s with
 |none=>rw[em] at e;cases e
 |some q=>
  rw[em] at e;rw[h s q em];obtain⟨q,s'⟩:=q;cases q with
  |nx J=>exact k J s' r e
  |_=>exact e
theorem Le.cU{c1 c2:Vs->M Bool}{b1 b2:Vs->MS}(h:∀J,Le (c1 J) (c2 J))(k:∀J,Le (b1 J) (b2 J)):∀(n:Nat) (J:Vs),Le (cU c1 b1 n J) (cU c2 b2 n J)
 |0,_=>Le.refl
 |n+1,J=>by
  unfold Mi.cU;refine Le.ofM (h J) λok=>Le.ite (λs r e=>?_) Le.refl
  try dsimp only at e ⊢
  cases em:b1 J s with
  |none=>rw[em] at e;cases e
  |some q=>
   rw[em] at e;rw[k J s q em];obtain⟨q,s'⟩:=q;cases q with
   |nx J'=>exact Le.cU h k n J' s' r e
   |ct J'=>exact Le.cU h k n J' s' r e
   |_=>exact e
theorem Le.cM{c:Src}{b1 b2:D->Vs->MS}(k:∀d J,Le (b1 d J) (b2 d J)):∀(n i:Nat) (J:Vs),Le (cM c b1 n i J) (cM c b2 n i J)
 |0,_,_=>Le.refl
 |n+1,i,J=>λs r e=>by
  unfold Mi.cM at e ⊢;split at e
  ·cases e
  ·exact e
  ·rename_i d ed;cases em:b1 d J s with
   |none=>rw[em] at e;cases e
   |some q=>
    rw[em] at e;rw[k d J s q em];obtain⟨q,s'⟩:=q;cases q with
    |nx J'=>exact Le.cM k n (i+1) J' s' r e
    |ct J'=>exact Le.cM k n (i+1) J' s' r e
    |_=>exact e
end
section
variable {aq:Nat->Nat->Bool}{aj:Bool}{F1 F2:Fn}(h:∀f,RF (F1 f) (F2 f))
include h
mutual
theorem cG:∀(e:E) (J:Vs),Le (ev aq aj F1 e J) (ev aq aj F2 e J)
 |.c d,J=>Le.refl
 |.v i,J=>Le.refl
 |.pr fz p xs,J=>by unfold ev;exact Le.bd (yE xs J) λ_=>Le.refl
 |.xK p q a b c,J=>by
  unfold ev;exact Le.bd (cG a J) λ_=>Le.bd (cG b J) λ_=>Le.bd Le.refl λ_=>Le.bd Le.refl λ_=>Le.bd Le.refl λ_=>Le.ite (Le.bd (cG c J) λ_=>Le.refl) Le.refl
 |.XR p q r a b c d,J=>by
  unfold ev;exact Le.bd (cG a J) λ_=>Le.bd (cG b J) λ_=>Le.bd Le.refl λ_=>Le.bd Le.refl λ_=>Le.bd Le.refl λ_=>Le.ite (Le.bd (cG c J) λ_=>Le.bd Le.refl λ_=>Le.bd Le.refl λ_=>Le.bd Le.refl λ_=>Le.ite (Le.bd (cG d J) λ_=>Le.refl) Le.refl) Le.refl
 |.and a b,J=>by unfold ev;exact Le.bd (cG a J) λ_=>Le.bd Le.refl λ_=>Le.ite (cG b J) Le.refl
 |.or a b,J=>by unfold ev;exact Le.bd (cG a J) λ_=>Le.bd Le.refl λ_=>Le.ite Le.refl (cG b J)
 |.not a,J=>by unfold ev;exact Le.bd (cG a J) λ_=>Le.refl
 |.ite c a b,J=>by unfold ev;exact Le.bd (cG c J) λ_=>Le.bd Le.refl λ_=>Le.ite (cG a J) (cG b J)
 |.tup xs,J=>by unfold ev;exact Le.bd (yE xs J) λ_=>Le.refl
 |.lst fz xs,J=>by unfold ev;exact Le.bd (yE xs J) λ_=>Le.refl
 |.BX k i,J=>Le.refl
 |.call f xs,J=>by unfold ev;exact Le.bd (yE xs J) λ_=>Le.bU (h f)
 |.mX a k,J=>by unfold ev;exact Le.bd (cG a J) λ_=>Le.refl
 |.sl fz a lo hi,J=>by unfold ev;exact Le.bd (cG a J) λ_=>Le.bd (zid lo J) λ_=>Le.bd (zid hi J) λ_=>Le.refl
 |.meth fz p k o xs,J=>by unfold ev;exact Le.bd (cG o J) λ_=>Le.bd Le.refl λ_=>Le.ite (Le.bd (yE xs J) λ_=>Le.refl) Le.refl
 |.push o a,J=>by unfold ev;exact Le.bd (cG o J) λ_=>Le.bd Le.refl λ_=>Le.bd (cG a J) λ_=>Le.refl
 |.pop o,J=>by unfold ev;exact Le.bd (cG o J) λ_=>Le.refl
 |.comp fz elt tg it fr many cond,J=>by
  unfold ev;exact Le.ite (Le.bd (Od it J) λ_=>Le.bd (Le.walk (λ_ _=>Le.bd Le.refl λJ'=>Le.bd (Le.qt (ziH cond J')) λ_=>Le.ite (Le.bd (Le.qt (cG elt J')) λ_=>Le.refl) Le.refl) _ _ _) λ_=>Le.refl) Le.refl
 |.iH fz elt tg it Ry BP fr many cond,J=>by
  unfold ev;exact Le.ite (Le.bd (Od it J) λ_=>Le.bd (Le.walk (λ_ _=>Le.bd Le.refl λJ'=>Le.bd (Le.qt (Od BP J')) λ_=>Le.walk (λ_ _=>Le.bd Le.refl λJf=>Le.bd (Le.qt (ziH cond Jf)) λ_=>Le.ite (Le.bd (Le.qt (cG elt Jf)) λ_=>Le.refl) Le.refl) _ _ _) _ _ _) λ_=>Le.refl) Le.refl
 |.fld o cs i,J=>by unfold ev;exact Le.bd (cG o J) λ_=>Le.refl
 |.of o c i,J=>by unfold ev;exact Le.bd (cG o J) λ_=>Le.refl
 |.mk c f xs,J=>by unfold ev;exact Le.bd (yE xs J) λ_=>Le.zJ (h f)
 |.cm c f o xs,J=>by unfold ev;exact Le.bd (cG o J) λ_=>Le.bd Le.refl λ_=>Le.bd (yE xs J) λ_=>Le.qt (Le.bU (h f))
 |.oH,J=>Le.refl
 |.sE b k d,J=>by unfold ev;exact Le.bd (cG k J) λ_=>Le.bd (cG d J) λ_=>Le.refl
 |.jE d k,J=>by unfold ev;exact Le.bd (cG d J) λ_=>Le.bd (cG k J) λ_=>Le.refl
 |.BZ a,J=>by unfold ev;exact Le.bd (cG a J) λ_=>Le.refl
 |.oJ fz a b,J=>by
  unfold ev;refine Le.ite (Le.bd (cG a J) λx=>?_) Le.refl
  split
  ·intro s r e;rename_i xs;cases ek:gA (λd=>ev aq aj F1 b [some (.d d)]) xs with
   |none=>rw[ek] at e;cases e
   |some ks=>
    rw[ek] at e;rw[Kab (λd=>cG b [some (.d d)]) ek];exact e
  ·exact Le.refl
 |.X3 a b,J=>by unfold ev;exact Le.bd (cG a J) λ_=>Le.bd Le.refl λ_=>Le.bd Le.refl λ_=>Le.ite Le.refl (cG b J)
 |.ins o i a,J=>by unfold ev;exact Le.bd (cG o J) λ_=>Le.bd Le.refl λ_=>Le.bd (cG i J) λ_=>Le.bd Le.refl λ_=>Le.bd (cG a J) λ_=>Le.refl
 |.no,J=>Le.refl
theorem Od:∀(w:Wk) (J:Vs),Le (gF aq aj F1 w J) (gF aq aj F2 w J)
 |.seq e,J=>by unfold gF;exact Le.bd (cG e J) λ_=>Le.refl
 |.rg a b,J=>by unfold gF;exact Le.bd (cG a J) λ_=>Le.bd (cG b J) λ_=>Le.refl
 |.zip a b,J=>by unfold gF;exact Le.bd (cG a J) λ_=>Le.bd (cG b J) λ_=>Le.refl
 |.enum a,J=>by unfold gF;exact Le.bd (cG a J) λ_=>Le.refl
 |.X4 a,J=>by unfold gF;exact Le.bd (cG a J) λ_=>Le.refl
theorem zid:∀(o:Eo) (J:Vs),Le (tQ aq aj F1 o J) (tQ aq aj F2 o J)
 |.no,J=>Le.refl
 |.yes a,J=>by unfold tQ;exact Le.bd (cG a J) λ_=>Le.refl
theorem ziH:∀(o:Eo) (J:Vs),Le (lZ aq aj F1 o J) (lZ aq aj F2 o J)
 |.no,J=>Le.refl
 |.yes a,J=>by unfold lZ;exact Le.bd (cG a J) λ_=>Le.refl
theorem yE:∀(xs:Es) (J:Vs),Le (evs aq aj F1 xs J) (evs aq aj F2 xs J)
 |.nil,J=>Le.refl
 |.cons a r,J=>by unfold evs;exact Le.bd (cG a J) λ_=>Le.bd (yE r J) λ_=>Le.refl
end
theorem zeW(t:Tg)(x:Xv)(J:Vs):Le (store aq aj F1 t x J) (store aq aj F2 t x J):=by
 cases t with
 |nm i=>exact Le.refl
 |tp is=>exact Le.refl
 |aq o i=>exact Le.ofM (Le.bd Le.refl λ_=>Le.bd (cG h o J) λ_=>Le.bd (cG h i J) λ_=>Le.refl) λ_=>Le.refl
end
section
variable {aq:Nat->Nat->Bool}{F1 F2:Bool->Fn}(h:∀c f,RF (F1 c f) (F2 c f))
include h
mutual
theorem znk:∀(aj:Bool) (st:St) (J:Vs),Le (ex aq aj F1 st J) (ex aq aj F2 st J)
 |aj,.pass,J=>Le.refl
 |aj,.ex e,J=>by unfold ex;exact Le.ofM (cG (h aj) e J) λ_=>Le.refl
 |aj,.asg t e,J=>by unfold ex;exact Le.ofM (cG (h aj) e J) λx=>zeW (h aj) t x J
 |aj,.par i j a b,J=>by unfold ex;exact Le.ite (Le.ofM (Le.bd (cG (h aj) a J) λ_=>Le.bd (cG (h aj) b J) λ_=>Le.refl) λ_=>Le.refl) Le.refl
 |aj,.aug i e,J=>by unfold ex;exact Le.ofM (Le.bd Le.refl λ_=>Le.bd (cG (h aj) e J) λ_=>Le.refl) λ_=>Le.refl
 |aj,.ret e,J=>by unfold ex;exact Le.ofM (cG (h aj) e J) λ_=>Le.refl
 |aj,.rise c kp xs,J=>by unfold ex;exact Le.ite (Le.ofM (Le.bd (yE (h aj) xs J) λ_=>Le.refl) λ_=>Le.refl) Le.refl
 |aj,.iff c t e,J=>by unfold ex;exact Le.ofM (Le.bd (cG (h aj) c J) λ_=>Le.refl) λ_=>Le.ite (Ab aj t J) (Ab aj e J)
 |aj,.wh c b,J=>by unfold ex;exact Le.cU (λJ=>Le.bd (cG (h aj) c J) λ_=>Le.refl) (λJ=>Ab aj b J) _ J
 |aj,.fr t w b,J=>by unfold ex;exact Le.ite (Le.ofM (Od (h aj) w J) λ_=>Le.cM (λd J=>Le.bO (zeW (h aj) t (.d d) J) λJ'=>Ab aj b J') _ _ J) Le.refl
 |aj,.IK b d i hh,J=>by
  unfold ex;refine Le.ite (λs r e=>?_) Le.refl
  try dsimp only at e ⊢
  cases em:exs aq aj F1 b J s with
  |none=>rw[em] at e;cases e
  |some q=>
   rw[em] at e;rw[Ab aj b J s q em];obtain⟨q,s'⟩:=q;cases q with
   |er c fs J'=>
    dsimp only at e ⊢;by_cases z:aq c d=true
    ·rw[if_pos z] at e ⊢;cases Um:exs aq false F1 hh (J'.set i (some (.d (.exc c fs)))) s' with
     |none=>rw[Um] at e;cases e
     |some q2=>rw[Um] at e;rw[Ab false hh _ s' q2 Um];exact e
    ·rw[if_neg z] at e;cases e
   |_=>exact e
 |aj,.dput d k v,J=>by unfold ex;exact Le.ofM (Le.bd (cG (h aj) v J) λ_=>Le.bd Le.refl λ_=>Le.bd (cG (h aj) d J) λ_=>Le.bd (cG (h aj) k J) λ_=>Le.refl) λ_=>Le.refl
 |aj,.no,J=>Le.refl
theorem Ab:∀(aj:Bool) (st:cB) (J:Vs),Le (exs aq aj F1 st J) (exs aq aj F2 st J)
 |aj,.nil,J=>Le.refl
 |aj,.cons a r,J=>by unfold exs;exact Le.bO (znk aj a J) λJ'=>Ab aj r J'
end
end
noncomputable def o_(aq:Nat->Nat->Bool)(T:Nat->Option Df)(f0:Nat)(O:List Xv->Option D):Nat->Bool->Fn
 |0,_,_,_=>M.no
 |k+1,aj,f,xs=>if f=f0 then λs=>match s,aj,O xs with
   |[],true,some d=>some (.ok (.d d),[])
   |_,_,_=>none
  else match T f with
  |none=>M.no
  |some d=>if xs.length=d.eU then λs=>match exs aq aj (λc=>o_ aq T f0 O k c) d.body (xs.map some++List.replicate (d.many-d.eU) none) s with
    |some (.nx _,s')=>some (.ok (.d .non),s')
    |some (.rt v,s')=>some (.ok v,s')
    |some (.er c fs _,s')=>some (.er c fs,s')
    |_=>none
   else M.no
theorem zer{aq:Nat->Nat->Bool}{T:Nat->Option Df}{f0 m:Nat}{O:List Xv->Option D}(hO:∀k xs d,O xs=some d->W (call aq T (k+m) true f0 xs) [] λv _=>v=.d d):∀(k:Nat) (aj:Bool) (f:Nat),RF (o_ aq T f0 O k aj f) (call aq T (k+m) aj f)
 |0,_,_=>λxs s r s1 e=>by cases e
 |k+1,aj,f=>λxs s r s1 e=>by
  unfold o_ at e;by_cases z:f=f0
  ·rw[if_pos z] at e;subst z;split at e
   ·rename_i d hd;cases e;obtain⟨v,s2,ev,rfl⟩:=hO (k+1) xs d hd;exact .inr ⟨rfl,d,s2,rfl,ev⟩
   ·cases e
  ·rw[if_neg z] at e
   left
   rw[show k+1+m=(k+m)+1 by lia];unfold call;cases eT:T f with
   |none=>rw[eT] at e;cases e
   |some d=>
    rw[eT] at e;dsimp only at e ⊢;by_cases hl:xs.length=d.eU
    ·rw[if_pos hl] at e ⊢;cases em:exs aq aj (λc=>o_ aq T f0 O k c) d.body (xs.map some++List.replicate (d.many-d.eU) none) s with
     |none=>rw[em] at e;cases e
     |some q=>
      rw[em] at e;rw[Ab (λc f=>zer hO k c f) aj d.body _ s q em];exact e
    ·rw[if_neg hl] at e;cases e
end Mi
namespace Mi
open PySem PySem.Spec PyProof.Rows L2 PySem.W
section
variable {X:Cx}{cA:Cl}{o e f:Expr}{apos cpos:Pos}{td ty tx:TE}
noncomputable def Uo(K:W.Frag)(cA:Cl)(td ty tx:TE):TE:=λZ H Q=>td Z H λx H1=>∃a U kvs xs,x=.ref a/\H1 a=some (sS a xs)/\iR K cA U H1 kvs xs/\ty Z H1 λy H2=>tx Z H2 λz H3=>∃U kvs xs k,H3 a=some (sS a xs)/\iR K cA U H3 kvs xs/\Rep K cA U H3 (iJ k) y /\
 (∀d v,bL k kvs=some d->Rep K cA U H3 d v->Q v H3)/\(bL k kvs=none->Q z H3)
theorem zln(hu:X.A.units+5<cLine)(ho:PE X o td)(he:PE X e ty)(hf:PE X f tx)(m:M2 X o "get" apos e f cpos):PE X (.Call (.Attribute o "get" apos) [e,f] [] cpos) (Uo X.K cA td ty tx):=by
 intro ao s Z H Q I h;refine wpAny_Call_method m.base m.few m.line PySem.F.plainAttrs_dict PySem.F.slot_dict_get PySem.F.type_dict_get (aQ (ho ao s Z H _ I h) λu s1 ⟨x,H1,I1,rx,a,U,kvs,xs,ex,ea,rr,q1⟩=>?_);subst ex;obtain rfl:u=Value.ref a:=rx;obtain⟨_,_,dd⟩:=FJ I1 ea rr;refine⟨dd.typeIs,λb q=>?_,?_⟩
 ·cases q;obtain⟨ob,_,_,h1,h2,_⟩:=dd;exact⟨ob,h1,h2.2.1⟩
 rw[m.trees];refine O5 rfl (Calls.evalArgs_plain (La (aQ (he ao s1 Z H1 _ I1 q1) λiv s2 hx=>eE hx λy H2 I2 ry q2=>
  La (aQ (hf ao s2 Z H2 _ I2 q2) λfv s3 ⟨z,H3,I3,rz,U3,aae,xs3,k,ea3,rr3,rk,qs,qn⟩=>Calls.spliced_nil ?_))))
 obtain⟨b,rfl⟩:=J1 (d:=.non) rk;obtain rfl:iv=Value.ref b:=ry;obtain⟨z1,z2,dd3⟩:=FJ I3 ea3 rr3;refine call_meetsIn PySem.F.slot_dict_get dd3.typeIs PySem.F.entry_dict_get (PySem.F.args_dict_get_3 _ _ _) (meetsH_dict_get_default (gG X.prog X.w) a b z1 fv) ⟨(show X.A.units+1+4<cLine by lia),k,xs3,qp I3 rk rfl,dd3,?_⟩;rcases rr3.at (k:=k) with ⟨z0,hp⟩|⟨d',p,v,z0,hp,rv,rd⟩
 ·rw[hp];exact⟨z,H3,I3.tok _,rz,qn z0⟩
 ·rw[hp];exact⟨v,H3,I3.tok _,rv,qs d' v z0 rd⟩
end
section
variable {X:Cx}{cA:Cl}{aq:Nat->Nat->Bool}{aj:Bool}{F:Fn}{EX:XS}{a b f:Expr}{apos pos:Pos}{i j:Nat}{d0:D}
theorem zif(x:Xv)(s:S):cC x s=none\/∃nk,cC x s=some (.ok nk,s):=by
 unfold cC
 split
 ·split
  ·exact .inr ⟨_,rfl⟩
  ·exact .inl rfl
 ·exact .inl rfl
theorem ziu(x:Xv):key x=M.no\/∃kx,key x=M.ret kx:=by
 cases x with
 |l _=>exact .inl rfl
 |d v=>
  show M.opt (kOf v)=M.no\/∃kx,M.opt (kOf v)=M.ret kx;cases kOf v with
  |none=>exact .inl rfl
  |some kx=>exact .inr ⟨kx,rfl⟩
theorem zkE{J:Vs}:ev aq aj F (.ite (.sE true (.v j) (.v i)) (.jE (.v i) (.v j)) (.c d0)) J=M.bd (ev aq aj F (.v i) J) λx=>M.bd (cC x) λ_=>M.bd (ev aq aj F (.v j) J) λy=>M.bd (ev aq aj F (.c d0) J) λz=>M.bd (key y) λkx=>M.bd (cC x) λnk=>M.ret ((bL kx nk.2).elim z .d):=by
 funext s
 show M.bd (M.bd (M.opt (J[j]?.join)) λx=>M.bd (M.opt (J[i]?.join)) λy=>M.bd (key x) λkx=>M.bd (cC y) λnk=>M.ret (Xv.d (.bl ((bL kx nk.2).isSome==true)))) (λx=>M.bd (bool x) λk=>if k=true then M.bd (M.opt (J[i]?.join)) λy=>M.bd (M.opt (J[j]?.join)) λx=>M.bd (key x) λkx=>M.bd (cC y) λnk=>M.opt ((bL kx nk.2).map Xv.d) else M.ret (Xv.d d0)) s=M.bd (M.opt (J[i]?.join)) (λx=>M.bd (cC x) λ_=>M.bd (M.opt (J[j]?.join)) λy=>M.bd (M.ret (Xv.d d0)) λz=>M.bd (key y) λkx=>M.bd (cC x) λnk=>M.ret ((bL kx nk.2).elim z Xv.d)) s;cases J[i]?.join with
 |none=>cases J[j]?.join<;>rfl
 |some x=>
  cases J[j]?.join with
  |none=>
   rcases zif x s with e|⟨nk,e⟩<;>simp only[M.bd,M.opt,M.ret,M.no,e]
  |some y=>
   rcases zif x s with e|⟨nk,e⟩
   ·rcases ziu y with e2|⟨kx,e2⟩<;>simp only[M.bd,M.opt,M.ret,M.no,e,e2]
   ·rcases ziu y with e2|⟨kx,e2⟩
    ·simp only[M.bd,M.opt,M.ret,M.no,e,e2]
    ·cases g:bL kx nk.2 with
     |none=>simp[M.bd,M.opt,M.ret,M.no,e,e2,g,bool]
     |some d=>simp[M.bd,M.opt,M.ret,M.no,e,e2,g,bool]
theorem znm{k:Nat}(hr:bx k X.A)(ha:JE X cA aq aj F EX a (.v i))(hb:JE X cA aq aj F EX b (.v j))(hf:JE X cA aq aj F EX f (.c d0))(cP:attributeBase a "get" X.env (eval a X.env)=eval a X.env:=by rfl)(cQ:(apos.endLine==pos.line)=true:=by rfl)(hs:aC b=true:=by rfl)(ux:aC f=true:=by rfl) :
  JE X cA aq aj F EX (.Call (.Attribute a "get" apos) [b,f] [] pos) (.ite (.sE true (.v j) (.v i)) (.jE (.v i) (.v j)) (.c d0)):=by
 have h2:[f].all aC=true:=by rw[yR,ux];rfl
 refine⟨PE.weak (zln (cA:=cA) (by have:=hr.un;lia) ha.o hb.o hf.o ⟨cP,nj hs h2 rfl,cQ,?_⟩) λZ H Q hh=>un hh λU J s hL hS h=>?_⟩
 ·rw[bf hs,bf ux];rfl
 ·rw[zkE] at h;refine aX hL hS h λx H1 U1 d1 s1 x1 hL1 aG r1 h1=>?_;obtain⟨n,ad,kvs,xs,rfl,rfl,e1,e2,e3,rr,h2⟩:=J2 aG r1 h1;refine⟨ad,U1,kvs,xs,rfl,e3,rr,aX hL1 aG h2 λy H2 U2 d2 s2 x2 hL2 aM r2 h3=>aX hL2 aM h3 λz H3 U3 d3 s3 x3 nO fU r3 h4=>?_⟩;obtain⟨kx,rk,h5⟩:=Nt (r2.mono x3 aM.lz) h4;obtain⟨n',ad',kvs',xs',en,ea,f1,f2,f3,rr',h6⟩:=J2 fU ((r1.mono x2 aG.lz).mono x3 aM.lz) h5;cases en;cases ea;refine⟨U3,kvs',xs',kx,f3,rr',rk,λd v g rv=>?_,λg=>?_⟩
  ·dsimp only at h6;rw[g] at h6;exact h6.bC fU v (.d rv)
  ·dsimp only at h6;rw[g] at h6;exact h6.bC fU z r3
end
end Mi
namespace dZ
open PySem Mi
noncomputable def b0:cB:=(.cons (.ret (.and (.mX (.v 0) .int) (.not (.mX (.v 0) .bool)))) .nil)
noncomputable def b1:cB:=(.cons (.ret (.and (.call 0 (Ea (.v 0))) (.xK .le .le (.v 1) (.v 0) (.v 2)))) .nil)
noncomputable def b2:cB:=(.cons (.ret (.and (.mX (.v 0) .tuple) (.pr true .eq (Eb (.pr true .len (Ea (.v 0))) (.v 1))))) .nil)
noncomputable def b3:cB:=(.cons (.iff (.not (.call 2 (Eb (.v 0) (Ci 2)))) (.cons (.ret (.c (.bl false))) .nil) .nil) (.cons (.asg (.tp [1,2]) (.v 0)) (.cons (.iff (.or (.not (.call 4 (Ea (.v 1)))) (.not (.mX (.v 2) .tuple))) (.cons (.ret (.c (.bl false))) .nil) .nil) (.cons (.iff (.not (.pr true .all (Ea (.comp true (.call 6 (Eb (.v 1) (.v 0))) [0] (.seq (.v 2)) [1] 1 .no)))) (.cons (.ret (.c (.bl false))) .nil) .nil) (.cons (.ret (.pr true .all (Ea (.comp true (.pr true .lt (Eb (.v 0) (.v 1))) [0,1] (.zip (.v 2) (.sl true (.v 2) (.yes (Ci 1)) .no)) [] 2 .no)))) .nil)))))
noncomputable def b4:cB:=(.cons (.ret (.call 1 (Ec (.v 0) (Ci 1) (Ci 8)))) .nil)
noncomputable def b5:cB:=(.cons (.ret (.call 1 (Ec (.v 1) (Ci 0) (.pr true .aq (Eb (.v 0) (Ci 1)))))) .nil)
noncomputable def b6:cB:=(.cons (.iff (.not (.call 2 (Eb (.v 1) (Ci 2)))) (.cons (.ret (.c (.bl false))) .nil) .nil) (.cons (.asg (.tp [2,3]) (.v 1)) (.cons (.ret (.and (.call 5 (Eb (.v 0) (.v 2))) (.and (.call 5 (Eb (.v 0) (.v 3))) (.pr true .lt (Eb (.v 2) (.v 3)))))) .nil)))
noncomputable def b7:cB:=(.cons (.iff (.not (.call 3 (Ea (.v 0)))) (.cons .no .nil) .nil) .nil)
noncomputable def b8:cB:=(.cons (.ret (.iH true (.tup (Eb (.v 0) (.v 1))) [0] (.rg (Ci 0) (.v 0)) [1] (.rg (.pr true .add (Eb (.v 0) (Ci 1))) (.v 2)) [0] 2 .no)) .nil)
noncomputable def b9:cB:=(.cons (.asg (.nm 2) (.comp true (.ite (.pr true .eq (Eb (.v 0) (.v 2))) (.v 1) (.v 0)) [0,1] (.seq (Ei (.v 0) (Ci 1))) [1] 2 (.yes (.pr true .inn (Eb (.v 2) (.tup (Eb (.v 0) (.v 1)))))))) (.cons (.ret (.pr true .tuple (Ea (.pr true .sorted (Ea (.v 2)))))) .nil))
noncomputable def b10:cB:=(.cons (.ret (.comp true (.call 9 (Eb (.v 1) (.v 0))) [0] (.rg (Ci 0) (Ei (.v 0) (Ci 0))) [0] 1 .no)) .nil)
noncomputable def Uq:cB:=(.cons (.ret (.tup (.cons (.call 10 (Ea (.v 1))) (Ec (.pr true .Ey (Ea (.pr true .len (Ea (.v 2))))) (.v 2) (.v 3))))) .nil)
noncomputable def Ur:cB:=(.cons (.ret (Ei (Ei (.of (.v 0) 0 2) (.v 1)) (.v 2))) .nil)
noncomputable def Us:cB:=(.cons (.asg (.nm 4) (.pr false .list (Ea (.v 1)))) (.cons (.asg (.aq (.v 4) (.v 2)) (.c .non)) (.cons (.fr (.nm 5) (.seq (Ei (.of (.v 0) 0 0) (.v 2))) (.cons (.iff (.pr true .rZ (Ea (Ei (.v 4) (.v 5)))) (.cons (.asg (.aq (.v 4) (.v 5)) (.pr true .tuple (Ea (.comp true (.v 0) [0] (.seq (Ei (.v 4) (.v 5))) [0,3] 1 (.yes (.cm 0 12 (.v 1) (Eb (.v 2) (.v 0)))))))) .nil) .nil) .nil)) (.cons (.ret (.pr true .tuple (Ea (.v 4)))) .nil))))
noncomputable def Ut:cB:=(.cons (.ret (.pr true .len (Ea (.comp true (.v 0) [0] (.seq (Ei (.of (.v 0) 0 0) (.v 2))) [1] 1 (.yes (.pr true .rZ (Ea (Ei (.v 1) (.v 0))))))))) .nil)
noncomputable def Uu:cB:=(.cons (.ret (.pr true .tuple (Ea (.comp true (.ite (.pr true .gt (Eb (.cm 0 14 (.v 2) (Eb (.v 3) (.v 0))) (Ci 0))) (.v 1) (.c .non)) [0,1] (.enum (.v 1)) [0,1] 2 .no)))) .nil)
noncomputable def Uv:cB:=(.cons (.asg (.nm 2) (.lst false .nil)) (.cons (.fr (.tp [3,4]) (.enum (.v 1)) (.cons (.iff (.pr true .rZ (Ea (.v 4))) (.cons (.ex (.push (.v 2) (.tup (Ec (.pr true .len (Ea (.v 4))) (.pr true .neg (Ea (.cm 0 14 (.v 0) (Eb (.v 1) (.v 3))))) (.v 3))))) .nil) .nil) .nil)) (.cons (.ret (.ite (.BZ (.v 2)) (Ei (.pr true .su (Ea (.v 2))) (Ci 2)) (.c .non))) .nil)))
noncomputable def Uw:cB:=(.cons (.ret (.pr true .all (Ea (.comp true (.or (.pr true .xH (Ea (.v 0))) (.pr true .eq (Eb (.v 0) (.of (.v 1) 0 1)))) [0] (.seq (.v 1)) [0] 1 .no)))) .nil)
noncomputable def Ux:cB:=(.cons (.asg (.tp [2,3]) (.v 1)) (.cons (.asg (.nm 4) (.comp true (.pr true .ge (Eb (.pr true .min2 (Eb (.v 0) (.pr true .aq (Eb (.v 1) (.v 0))))) (.v 2))) [0] (.rg (Ci 0) (.v 2)) [2,3] 1 .no)) (.cons (.ret (.mk 0 11 (Ec (.v 0) (.comp true (.comp true (Ei (.v 1) (.pr true .aq (Eb (.v 2) (.v 0)))) [0] (.rg (Ci 0) (.v 1)) [2,0] 1 .no) [0] (.rg (Ci 0) (.v 2)) [2,4] 1 .no) (.c (.bl true))))) .nil)))
noncomputable def Uy:cB:=(.cons (.iff (.not (.call 2 (Eb (.v 0) (Ci 2)))) (.cons (.ret (.c (.bl false))) .nil) .nil) (.cons (.asg (.tp [1,2]) (.v 0)) (.cons (.ret (.and (.call 1 (Ec (.v 1) (Ci 1) (Ci 24))) (.call 1 (Ec (.v 2) (Ci 1) (.v 1))))) .nil)))
noncomputable def Uz:cB:=(.cons (.iff (.not (.call 19 (Ea (.v 0)))) (.cons .no .nil) .nil) .nil)
noncomputable def b21:cB:=(.cons (.par 2 3 (.v 0) (.v 1)) (.cons (.wh (.pr true .gt (Eb (.v 3) (Ci 0))) (.cons (.par 2 3 (.v 3) (.pr true .mod (Eb (.v 2) (.v 3)))) .nil)) (.cons (.ret (.tup (Eb (.pr true .fdiv (Eb (.v 0) (.v 2))) (.pr true .fdiv (Eb (.v 1) (.v 2)))))) .nil)))
noncomputable def UG:cB:=(.cons (.ex (.call 7 (Ea (.v 0)))) (.cons (.ex (.call 20 (Ea (.v 1)))) (.cons (.asg (.nm 2) (.call 18 (Eb (.v 0) (.v 1)))) (.cons (.ret (.call 23 (Eb (.v 2) (.comp true (.of (.v 1) 0 1) [0] (.rg (Ci 0) (Ei (.v 0) (Ci 0))) [2] 1 .no)))) .nil))))
noncomputable def UJ:cB:=(.cons (.asg (.nm 2) (.pr true .tuple (Ea (.v 1)))) (.cons (.asg (.nm 3) .oH) (.cons (.iff (.not (.call 25 (Ec (.v 0) (.v 3) (.v 2)))) (.cons (.ret (.c .non)) .nil) .nil) (.cons (.asg (.nm 4) (.lst false .nil)) (.cons (.fr (.nm 5) (.rg (Ci 0) (.pr true .len (Ea (.v 1)))) (.cons (.asg (.nm 6) (.call 24 (.cons (.v 0) (Ec (.v 3) (.v 2) (.v 5))))) (.cons (.asg (.nm 2) (.cm 0 13 (.v 0) (Ec (.v 2) (.v 5) (.v 6)))) (.cons (.ex (.push (.v 4) (.v 6))) .nil)))) (.cons (.ret (.pr true .tuple (Ea (.v 4)))) .nil))))))
noncomputable def Oe:cB:=(.cons (.fr (.nm 4) (.seq (Ei (.v 2) (.v 3))) (.cons (.iff (.call 25 (Ec (.v 0) (.v 1) (.cm 0 13 (.v 0) (Ec (.v 2) (.v 3) (.v 4))))) (.cons (.ret (.v 4)) .nil) .nil) .nil)) (.cons (.ret (.c .non)) .nil))
noncomputable def UL:cB:=(.cons (.iff (.pr true .inn (Eb (.tup .nil) (.v 2))) (.cons (.ret (.c (.bl false))) .nil) .nil) (.cons (.asg (.nm 3) (.cm 0 15 (.v 0) (Ea (.v 2)))) (.cons (.iff (.sE false (.v 3) (.v 1)) (.cons (.dput (.v 1) (.v 3) (.call 26 (Ec (.v 0) (.v 1) (.v 3)))) .nil) .nil) (.cons (.ret (.jE (.v 1) (.v 3))) .nil))))
noncomputable def KH:cB:=(.cons (.asg (.nm 3) (.cm 0 16 (.v 0) (Ea (.v 2)))) (.cons (.iff (.pr true .xH (Ea (.v 3))) (.cons (.ret (.c (.bl true))) .nil) .nil) (.cons (.iff (.and (.of (.v 0) 0 3) (.cm 0 17 (.v 0) (Ea (.v 2)))) (.cons (.ret (.call 25 (Ec (.v 0) (.v 1) (.cm 0 13 (.v 0) (Ec (.v 2) (.v 3) (Ci 0)))))) .nil) .nil) (.cons (.ret (.pr true .rZ (Ea (.call 24 (.cons (.v 0) (Ec (.v 1) (.v 2) (.v 3))))))) .nil))))
noncomputable def b27:cB:=(.cons (.asg (.nm 1) (.pr true .min2 (Eb (.v 0) (Ci 24)))) (.cons (.asg (.nm 2) (.iH true (.tup (Eb (.v 0) (.v 1))) [0] (.rg (Ci 1) (.pr true .add (Eb (.v 1) (Ci 1)))) [1] (.rg (Ci 1) (.pr true .add (Eb (.v 0) (Ci 1)))) [] 2 (.yes (.call 30 (Eb (.v 0) (.v 1)))))) (.cons (.ret (.oJ true (.v 2) (.pr true .fdiv (Eb (.pr true .mul (Eb (Ei (.v 0) (Ci 0)) (Ci 27720))) (Ei (.v 0) (Ci 1)))))) .nil)))
noncomputable def UW:cB:=(.cons (.ret (.pr true .rZ (Ea (.call 22 (Eb (.v 0) (.v 1)))))) .nil)
noncomputable def b29:cB:=(.cons (.ex (.call 7 (Ea (.v 0)))) (.cons (.asg (.nm 1) (.call 27 (Ea (Ei (.v 0) (Ci 0))))) (.cons (.asg (.nm 2) (Ci 0)) (.cons (.wh (.not (.call 28 (Eb (.v 0) (Ei (.v 1) (.v 2))))) (.cons (.aug 2 (Ci 1)) .nil)) (.cons (.ret (Ei (.v 1) (.v 2))) .nil)))))
noncomputable def b30:cB:=(.cons (.ret (.and (.pr true .eq (Eb (.call 21 (Eb (.v 0) (.v 1))) (.tup (Eb (.v 0) (.v 1))))) (.or (.pr true .eq (Eb (.v 0) (Ci 1))) (.pr true .ge (Eb (.v 0) (.pr true .mul (Eb (Ci 2) (.v 1)))))))) .nil)
noncomputable def b31:cB:=(.cons (.asg (.nm 1) .oH) (.cons (.fr (.nm 2) (.seq (.call 32 (Ea (.v 0)))) (.cons (.asg (.nm 3) (.call 29 (Ea (.v 2)))) (.cons (.dput (.v 1) (.v 3) (.pr true .add (Eb (.ite (.sE true (.v 3) (.v 1)) (.jE (.v 1) (.v 3)) (Ci 0)) (Ci 1)))) .nil))) (.cons (.ret (.comp false (.tup (Eb (.v 0) (.jE (.v 1) (.v 0)))) [0] (.seq (.call 27 (Ea (.v 0)))) [1] 1 (.yes (.sE true (.v 0) (.v 1))))) .nil)))
noncomputable def b32:cB:=(.cons (.asg (.nm 1) (.ite (.call 4 (Ea (.v 0))) (.lst true (Ea (.tup .nil))) (.lst true .nil))) (.cons (.fr (.nm 2) (.seq (.call 8 (Ea (.v 0)))) (.cons (.asg (.nm 1) (.pr true .add (Eb (.v 1) (.comp true (.pr true .add (Eb (.v 0) (.tup (Ea (.v 1))))) [0] (.seq (.v 1)) [2] 1 .no)))) .nil)) (.cons (.ret (.comp true (.tup (Eb (.v 1) (.v 0))) [0] (.seq (.v 1)) [0] 1 .no)) .nil)))
noncomputable def U6:cB:=(.cons (.iff (.pr true .lt (Eb (.v 1) (.pr true .len (Ea (.v 0))))) (.cons (.ret (Ei (.v 0) (.v 1))) .nil) .nil) (.cons (.ret (Ci 0)) .nil))
noncomputable def U7:cB:=(.cons (.asg (.nm 1) (.pr true .max2 (Eb (.v 0) (.pr true .aq (Eb (Ci 0) (.v 0)))))) (.cons (.ret (.lst false (Eb (.v 1) (.pr true .xJ (Ea (.pr true .ge (Eb (.v 1) (.pr true .pow (Eb (Ci 10) (Ci 18)))))))))) .nil))
noncomputable def U8:cB:=(.cons (.iff (.pr true .eq (Eb (Ei (.v 0) (Ci 1)) (Ci 1))) (.cons (.asg (.tp [2,3]) (.pr true .divmod (Eb (Ei (.v 0) (Ci 0)) (.v 1)))) (.cons (.asg (.aq (.v 0) (Ci 0)) (.v 2)) (.cons (.ret (.v 3)) .nil))) .nil) (.cons (.asg (.nm 4) (.pr true .mod (Eb (.pr true .mul (Eb (.pr true .add (Eb (.pr true .mod (Eb (Ei (.v 0) (Ci 0)) (Ci 2147483647))) (Ci 40503))) (Ci 69621))) (Ci 2147483629)))) (.cons (.asg (.nm 4) (.pr true .mod (Eb (.pr true .add (Eb (.pr true .mul (Eb (.v 4) (.v 4))) (Ci 7817))) (Ci 2147483587)))) (.cons (.asg (.aq (.v 0) (Ci 0)) (.pr true .mod (Eb (.pr true .add (Eb (.pr true .mul (Eb (.v 4) (Ci 48271))) (Ci 11))) (Ci 2147483629)))) (.cons (.ret (.pr true .mod (Eb (.pr true .fdiv (Eb (Ei (.v 0) (Ci 0)) (Ci 32))) (.v 1)))) .nil)))))
noncomputable def b36:cB:=(.cons (.ret (.and (.mX (.v 0) .int) (.not (.mX (.v 0) .bool)))) .nil)
noncomputable def b37:cB:=(.cons (.asg (.nm 3) (.pr true .abs (Ea (.pr true .aq (Eb (.v 1) (.v 2)))))) (.cons (.ret (.pr true .min2 (Eb (.v 3) (.pr true .aq (Eb (.v 0) (.v 3)))))) .nil))
noncomputable def b38:cB:=(.cons (.iff (.and (.pr true .ne (Eb (Ei (.v 0) (Ci 1)) (.tup .nil))) (.pr true .lt (Eb (Ei (.v 1) (Ci 0)) (.pr true .mul (Eb (Ci 2) (Ei (.v 1) (Ci 1))))))) (.cons (.ret (.c .non)) .nil) .nil) (.cons (.asg (.nm 2) (.lst true .nil)) (.cons (.fr (.tp [3,4]) (.seq (Ei (.v 0) (Ci 1))) (.cons (.asg (.nm 5) (.comp true (.v 0) [0] (.rg (Ci 0) (Ei (.v 0) (Ci 0))) [3,0,4] 1 (.yes (.and (.pr true .inn (Eb (.tup (Eb (.v 1) (.v 0))) (Ei (.v 2) (Ci 1)))) (.pr true .inn (Eb (.tup (Eb (.v 3) (.v 0))) (Ei (.v 2) (Ci 1)))))))) (.cons (.asg (.nm 2) (.pr true .add (Eb (.v 2) (.v 5)))) .nil))) (.cons (.iff (.and (.pr true .ne (Eb (.v 2) (.lst true .nil))) (.pr true .lt (Eb (Ei (.v 1) (Ci 0)) (.pr true .mul (Eb (Ci 3) (Ei (.v 1) (Ci 1))))))) (.cons (.ret (.c .non)) .nil) .nil) (.cons (.asg (.nm 6) (.comp true (.v 0) [0] (.rg (Ci 0) (Ei (.v 0) (Ci 0))) [0] 1 (.yes (.pr true .eq (Eb (.comp true (.v 0) [0] (.seq (Ei (.v 1) (Ci 1))) [0] 1 (.yes (.pr true .inn (Eb (.v 1) (.v 0))))) (.lst true .nil)))))) (.cons (.asg (.nm 7) (.lst false (Ea (Ci 0)))) (.cons (.wh (.pr true .eq (Eb (Ei (.v 7) (Ci 0)) (Ci 0))) (.cons (.iff (.or (.pr true .eq (Eb (Ei (.v 7) (.pr true .neg (Ea (Ci 1)))) (Ei (.v 1) (Ci 0)))) (.and (.pr true .gt (Eb (Ei (.v 7) (.pr true .neg (Ea (Ci 1)))) (Ci 0))) (.pr true .inn (Eb (.pr true .aq (Eb (.pr true .len (Ea (.v 7))) (Ci 1))) (.v 6))))) (.cons (.ex (.pop (.v 7))) (.cons (.iff (.pr true .eq (Eb (.v 7) (.lst true .nil))) (.cons (.ret (.c .non)) .nil) .nil) (.cons (.asg (.aq (.v 7) (.pr true .neg (Ea (Ci 1)))) (.pr true .add (Eb (Ei (.v 7) (.pr true .neg (Ea (Ci 1)))) (Ci 1)))) .nil))) (.cons (.asg (.nm 8) (.comp true (.v 0) [0] (.seq (Ei (.v 0) (Ci 1))) [7] 1 (.yes (.pr true .eq (Eb (Ei (.v 0) (Ci 1)) (.pr true .aq (Eb (.pr true .len (Ea (.v 1))) (Ci 1)))))))) (.cons (.asg (.nm 9) (.comp true (.v 0) [0] (.seq (.v 8)) [1,7] 1 (.yes (.pr true .lt (Eb (.call 37 (Ec (Ei (.v 1) (Ci 0)) (Ei (.v 2) (Ei (.v 0) (Ci 0))) (Ei (.v 2) (.pr true .neg (Ea (Ci 1)))))) (Ei (.v 1) (Ci 1))))))) (.cons (.iff (.pr true .ne (Eb (.v 9) (.lst true .nil))) (.cons (.asg (.aq (.v 7) (.pr true .neg (Ea (Ci 1)))) (.pr true .add (Eb (Ei (.v 7) (.pr true .neg (Ea (Ci 1)))) (Ci 1)))) .nil) (.cons (.iff (.pr true .eq (Eb (.pr true .len (Ea (.v 7))) (Ei (.v 0) (Ci 0)))) (.cons (.ret (.pr true .tuple (Ea (.v 7)))) .nil) (.cons (.ex (.push (.v 7) (Ci 0))) .nil)) .nil)) .nil)))) .nil)) (.cons (.ret (.c .non)) .nil))))))))
noncomputable def b39:cB:=(.cons (.asg (.nm 1) (.lst false (Ea (.tup (Eb (Ci 60) (.tup (Eb (Ci 1) (Ci 1)))))))) (.cons (.fr (.nm 2) (.rg (Ci 1) (.pr true .add (Eb (.pr true .fdiv (Eb (.v 0) (Ci 2))) (Ci 1)))) (.cons (.fr (.nm 3) (.rg (.pr true .mul (Eb (Ci 2) (.v 2))) (.pr true .add (Eb (.v 0) (Ci 1)))) (.cons (.iff (.pr true .eq (Eb (.comp true (.v 0) [0] (.seq (.tup (Ec (Ci 2) (Ci 3) (Ci 5)))) [3,2] 1 (.yes (.and (.pr true .eq (Eb (.pr true .mod (Eb (.v 1) (.v 0))) (Ci 0))) (.pr true .eq (Eb (.pr true .mod (Eb (.v 2) (.v 0))) (Ci 0)))))) (.lst true .nil))) (.cons (.ex (.push (.v 1) (.tup (Eb (.pr true .fdiv (Eb (.pr true .mul (Eb (Ci 60) (.v 3))) (.v 2))) (.tup (Eb (.v 3) (.v 2))))))) .nil) .nil) .nil)) .nil)) (.cons (.ret (.comp true (.v 1) [0,1] (.seq (.pr true .sorted (Ea (.v 1)))) [] 2 .no)) .nil)))
noncomputable def b40:cB:=(.cons (.iff (.pr true .eq (Eb (Ei (.v 0) (Ci 1)) (.tup .nil))) (.cons (.ret (.tup (Eb (Ci 1) (Ci 1)))) .nil) .nil) (.cons (.fr (.nm 1) (.seq (.sl true (.call 39 (Ea (Ei (.v 0) (Ci 0)))) (.yes (Ci 1)) .no)) (.cons (.iff (.pr true .rZ (Ea (.call 38 (Eb (.v 0) (.v 1))))) (.cons (.ret (.v 1)) .nil) .nil) .nil)) (.cons (.ret (.c .non)) .nil)))
noncomputable def b41:cB:=(.cons (.asg (.nm 1) (.lst true (Ea (.tup .nil)))) (.cons (.fr (.nm 2) (.rg (Ci 0) (.v 0)) (.cons (.fr (.nm 3) (.rg (.pr true .add (Eb (.v 2) (Ci 1))) (.v 0)) (.cons (.asg (.nm 1) (.pr true .add (Eb (.v 1) (.comp true (.pr true .add (Eb (.v 0) (.tup (Ea (.tup (Eb (.v 1) (.v 2))))))) [0] (.seq (.v 1)) [2,3] 1 .no)))) .nil)) .nil)) (.cons (.ret (.comp true (.tup (Eb (.v 1) (.v 0))) [0] (.seq (.v 1)) [0] 1 .no)) .nil)))
noncomputable def b42:cB:=(.cons (.asg (.nm 1) (.comp true (.call 40 (Ea (.v 0))) [0] (.seq (.call 41 (Ea (.v 0)))) [] 1 .no)) (.cons (.asg (.nm 2) (.comp true (.tup (Eb (.v 0) (.meth true .count .list (.v 1) (Ea (.v 0))))) [0] (.seq (.call 39 (Ea (.v 0)))) [1] 1 (.yes (.pr true .inn (Eb (.v 0) (.v 1)))))) (.cons (.fr (.nm 3) (.rg (Ci 0) (Ci 2)) (.cons (.asg (.nm 4) (.call 31 (Ea (.v 0)))) (.cons (.iff (.or (.not (.mX (.v 4) .list)) (.pr true .ne (Eb (.v 4) (.v 2)))) (.cons (.ret (.c (.bl false))) .nil) .nil) (.cons (.iff (.not (.pr true .all (Ea (.comp true (.and (.mX (.v 0) .tuple) (.call 36 (Ea (Ei (.v 0) (Ci 1))))) [0] (.seq (.v 4)) [] 1 .no)))) (.cons (.ret (.c (.bl false))) .nil) .nil) (.cons (.ex (.push (.v 4) (.c .non))) .nil))))) (.cons (.ret (.c (.bl true))) .nil))))
noncomputable def U9:cB:=(.cons (.iff (.or (.not (.call 42 (Ea (Ci 1)))) (.not (.call 42 (Ea (Ci 2))))) (.cons (.ret (.c (.bl false))) .nil) .nil) (.cons (.fr (.nm 1) (.seq (.pr true .add (Eb (.lst true (Ea (.call 33 (Eb (.v 0) (Ci 0))))) (.sl true (.v 0) (.yes (Ci 1)) (.yes (Ci 2)))))) (.cons (.asg (.nm 2) (.call 34 (Ea (.v 1)))) (.cons (.iff (.or (.not (.call 42 (Ea (Ci 3)))) (.and (.pr true .eq (Eb (.call 35 (Eb (.v 2) (Ci 4))) (Ci 0))) (.not (.call 42 (Ea (Ci 4)))))) (.cons (.ret (.c (.bl false))) .nil) .nil) .nil))) (.cons (.ret (.c (.bl true))) .nil)))
noncomputable def T(n:Nat):Option Df:=([⟨1,1,b0⟩,⟨3,3,b1⟩,⟨2,2,b2⟩,⟨3,1,b3⟩,⟨1,1,b4⟩,⟨2,2,b5⟩,⟨4,2,b6⟩,⟨1,1,b7⟩,⟨1,1,b8⟩,⟨3,2,b9⟩,⟨1,1,b10⟩,⟨4,4,Uq⟩,⟨3,3,Ur⟩,⟨6,4,Us⟩,⟨3,3,Ut⟩,⟨2,2,Uu⟩,⟨5,2,Uv⟩,⟨2,2,Uw⟩,⟨5,2,Ux⟩,⟨3,1,Uy⟩,⟨1,1,Uz⟩,⟨4,2,b21⟩,⟨3,2,UG⟩,⟨7,2,UJ⟩,⟨5,4,Oe⟩,⟨4,3,UL⟩,⟨4,3,KH⟩,⟨3,1,b27⟩,⟨2,2,UW⟩,⟨3,1,b29⟩,⟨2,2,b30⟩,⟨4,1,b31⟩,⟨3,1,b32⟩,⟨2,2,U6⟩,⟨2,1,U7⟩,⟨5,2,U8⟩,⟨1,1,b36⟩,⟨4,3,b37⟩,⟨10,2,b38⟩,⟨4,1,b39⟩,⟨2,1,b40⟩,⟨4,1,b41⟩,⟨5,1,b42⟩,⟨3,1,U9⟩]:List Df)[n]?
theorem T_0:T 0=some ⟨1,1,b0⟩:=rfl
theorem T_1:T 1=some ⟨3,3,b1⟩:=rfl
theorem T_2:T 2=some ⟨2,2,b2⟩:=rfl
theorem T_3:T 3=some ⟨3,1,b3⟩:=rfl
theorem T_4:T 4=some ⟨1,1,b4⟩:=rfl
theorem T_5:T 5=some ⟨2,2,b5⟩:=rfl
theorem T_6:T 6=some ⟨4,2,b6⟩:=rfl
theorem T_7:T 7=some ⟨1,1,b7⟩:=rfl
theorem T_8:T 8=some ⟨1,1,b8⟩:=rfl
theorem T_9:T 9=some ⟨3,2,b9⟩:=rfl
theorem zoa:T 10=some ⟨1,1,b10⟩:=rfl
theorem zn3:T 11=some ⟨4,4,Uq⟩:=rfl
theorem zn4:T 12=some ⟨3,3,Ur⟩:=rfl
theorem znX:T 13=some ⟨6,4,Us⟩:=rfl
theorem zn7:T 14=some ⟨3,3,Ut⟩:=rfl
theorem znY:T 15=some ⟨2,2,Uu⟩:=rfl
theorem zn5:T 16=some ⟨5,2,Uv⟩:=rfl
theorem zog:T 17=some ⟨2,2,Uw⟩:=rfl
theorem zoe:T 18=some ⟨5,2,Ux⟩:=rfl
theorem znT:T 19=some ⟨3,1,Uy⟩:=rfl
theorem znZ:T 20=some ⟨1,1,Uz⟩:=rfl
theorem zot:T 21=some ⟨4,2,b21⟩:=rfl
theorem znW:T 22=some ⟨3,2,UG⟩:=rfl
theorem znQ:T 23=some ⟨7,2,UJ⟩:=rfl
theorem U_:T 24=some ⟨5,4,Oe⟩:=rfl
theorem znR:T 25=some ⟨4,3,UL⟩:=rfl
theorem Og:T 26=some ⟨4,3,KH⟩:=rfl
theorem zok:T 27=some ⟨3,1,b27⟩:=rfl
theorem zof:T 28=some ⟨2,2,UW⟩:=rfl
theorem zoq:T 29=some ⟨3,1,b29⟩:=rfl
theorem zox:T 30=some ⟨2,2,b30⟩:=rfl
theorem zoo:T 31=some ⟨4,1,b31⟩:=rfl
theorem zor:T 32=some ⟨3,1,b32⟩:=rfl
theorem zod:T 33=some ⟨2,2,U6⟩:=rfl
theorem znU:T 34=some ⟨2,1,U7⟩:=rfl
theorem zn9:T 35=some ⟨5,2,U8⟩:=rfl
theorem zom:T 36=some ⟨1,1,b36⟩:=rfl
theorem zoi:T 37=some ⟨4,3,b37⟩:=rfl
theorem zon:T 38=some ⟨10,2,b38⟩:=rfl
theorem zov:T 39=some ⟨4,1,b39⟩:=rfl
theorem zol:T 40=some ⟨2,1,b40⟩:=rfl
theorem zow:T 41=some ⟨4,1,b41⟩:=rfl
theorem zos:T 42=some ⟨5,1,b42⟩:=rfl
theorem znS:T 43=some ⟨3,1,U9⟩:=rfl
noncomputable def aq:Nat->Nat->Bool:=λc e=>(let n:=λc=>if c<0 then c else 0;n e==0||n c==n e)
end dZ
namespace dZ
open PySem PySem.Spec PyProof.Rows L2 Mi
abbrev LK(i:Nat)(x:Str)(k:NameKind):Prop:=(au (top i)).names.lookup x=some k
noncomputable abbrev gI:NameKind:=.globalImplicit
abbrev N3:List Str:=["thing","many","ties"]
abbrev N8:List Str:=["many"]
abbrev N9:List Str:=["web","place","ends"]
abbrev N10:List Str:=["web"]
abbrev N13:List Str:=["self","free","place","spot","left","end"]
abbrev N14:List Str:=["self","free","place"]
abbrev N15:List Str:=["self","free"]
abbrev N17:List Str:=["self","free"]
abbrev Va:List Str:=["web","ring","k","d","wide"]
abbrev N22:List Str:=["web","ring","board"]
abbrev N27:List Str:=["most","limit","rings"]
abbrev N31:List Str:=["many","counts","web","ring"]
abbrev Vb:List Str:=["many","rows","pair"]
abbrev KJ:List Str:=["_law_web","_law_ring","_law_threes","_law_one","_law_other","_law_both_near","_law_loose","_law_row","_law_ties","_law_near"]
abbrev Vc:List Str:=["_law_most","_law_found","_law_d","_law_k"]
abbrev Vd:List Str:=["_law_many","_law_ties","_law_one","_law_other"]
abbrev Oh:List Str:=["_law_many","_law_rings","_law_due","_law_turn","_law_found"]
noncomputable def cl(K:W.Frag):Cl:=⟨iU (lk.L K),λ_=>[],λ_=>dX K "Board",λ_=>["ends","spots","apart","alike"]⟩
structure Top(K:W.Frag)(mg:Str->Option Value):Prop where
 d0:D3 K mg "is_whole" (top 5) ["thing"]
 d1:D3 K mg "is_within" (top 6) ["thing","least","most"]
 d2:D3 K mg "is_row" (top 7) ["thing","many"]
 d3:D3 K mg "is_web" (top 10) ["thing"]
 d4:D3 K mg "is_many" (top 11) ["thing"]
 d5:D3 K mg "is_place" (top 12) ["many","thing"]
 d6:D3 K mg "is_tie" (top 13) ["many","thing"]
 d7:D3 K mg "check_web" (top 14) ["thing"]
 d8:D3 K mg "all_pairs" (top 15) ["many"]
 d9:D3 K mg "tied_to" (top 16) ["web","place"]
 Ve:D3 K mg "all_ends" (top 17) ["web"]
 Vf:D3 K mg "ring_board" (top 20) ["web","ring"]
 Vg:D3 K mg "is_ring" (top 23) ["thing"]
 Vh:D3 K mg "check_ring" (top 24) ["thing"]
 Vi:D3 K mg "lowest_terms" (top 25) ["top","bottom"]
 Vj:D3 K mg "first_hues" (top 27) ["web","ring"]
 Vk:D3 K mg "first_among" (top 28) ["board","choices"]
 Oi:D3 K mg "first_spot" (top 29) ["board","answers","free","place"]
 KN:D3 K mg "can_settle" (top 30) ["board","answers","free"]
 Vl:D3 K mg "search" (top 31) ["board","answers","free"]
 Oj:D3 K mg "plain_rings" (top 34) ["most"]
 Vm:D3 K mg "has_room" (top 35) ["web","ring"]
 Vn:D3 K mg "shortest" (top 36) ["web"]
 Vo:D3 K mg "is_plain" (top 37) ["k","d"]
 Vp:D3 K mg "by_shortest" (top 39) ["many"]
 Vq:D3 K mg "webs_with" (top 40) ["many"]
 Vr:D3 K mg "_law_cell" (top 42) ["_law_script","_law_k"]
 Vt:D3 K mg "_law_pen" (top 43) ["_law_cell_here"]
 Vu:D3 K mg "_law_draw" (top 44) ["_law_pen_here","_law_many"]
 Vv:D3 K mg "_law_whole" (top 45) ["_law_thing"]
 Vw:D3 K mg "_law_apart" (top 46) ["_law_k","_law_one","_law_other"]
 Vx:D3 K mg "_law_first" (top 47) ["_law_web","_law_ring"]
 Ol:D3 K mg "_law_plain" (top 48) ["_law_most"]
 Vy:D3 K mg "_law_shortest" (top 49) ["_law_web"]
 Vz:D3 K mg "_law_all_webs" (top 50) ["_law_many"]
 Gb:D3 K mg "_law_right" (top 51) ["_law_many"]
 Om:D3 K mg "law" (top 52) ["_law_script"]
 gR:∃t,mg "MOST_PLACES"=some (.int 8 t)
 eZ:∃t,mg "MOST_SPOTS"=some (.int 24 t)
 kY:∃t,mg "SO_OFTEN"=some (.int 27720 t)
 z14:mg "abs"=none
 z6:mg "all"=none
 z2:mg "bool"=none
 z13:mg "divmod"=none
 VB:mg "enumerate"=none
 z1:mg "int"=none
 z0:mg "isinstance"=none
 z4:mg "len"=none
 z9:mg "list"=none
 z12:mg "max"=none
 KQ:mg "min"=none
 z7:mg "range"=none
 z8:mg "sorted"=none
 z3:mg "tuple"=none
 z5:mg "zip"=none
 ow:Ow K (cl K) 0
 mq:Mk K ((cl K).b 0) (iw K ((cl K).b 0) "__init__")
 mc:mg "Board"=some (.ref ((cl K).b 0))
 VD:Mt K ((cl K).b 0) "__init__" "Board.__init__" Ef ["self","web","apart","alike"] (iw K ((cl K).b 0) "__init__") (jL K ((cl K).b 0) "__init__" Ef)
 VF:Mt K ((cl K).b 0) "far_apart" "Board.far_apart" GX ["self","spot","other"] (iw K ((cl K).b 0) "far_apart") (jL K ((cl K).b 0) "far_apart" GX)
 KR:Mt K ((cl K).b 0) "settled" "Board.settled" Eh ["self","free","place","spot"] (iw K ((cl K).b 0) "settled") (jL K ((cl K).b 0) "settled" Eh)
 Oo:Mt K ((cl K).b 0) "ties_left" "Board.ties_left" Ej ["self","free","place"] (iw K ((cl K).b 0) "ties_left") (jL K ((cl K).b 0) "ties_left" Ej)
 VG:Mt K ((cl K).b 0) "bound" "Board.bound" Ek ["self","free"] (iw K ((cl K).b 0) "bound") (jL K ((cl K).b 0) "bound" Ek)
 VH:Mt K ((cl K).b 0) "narrowest" "Board.narrowest" GZ ["self","free"] (iw K ((cl K).b 0) "narrowest") (jL K ((cl K).b 0) "narrowest" GZ)
 VJ:Mt K ((cl K).b 0) "all_free" "Board.all_free" El ["self","free"] (iw K ((cl K).b 0) "all_free") (jL K ((cl K).b 0) "all_free" El)
 lam:Dl K mg (fdOf K "plain_rings" (top 34))
theorem zlG{K:W.Frag}{h:Heap}{mg:Str->Option Value}(Sb:rD fs ms xs lk bd K)(LH:kW K h)(X:K.In h)(G:h.Ns mainGlobals mg):Top K mg where
 d0:=nu Sb.i X G 0
 d1:=Nv Sb.i X G 1
 d2:=sX Sb.i X G 2
 d3:=nu Sb.i X G 3
 d4:=nu Sb.i X G 4
 d5:=sX Sb.i X G 5
 d6:=sX Sb.i X G 6
 d7:=nu Sb.i X G 7
 d8:=nu Sb.i X G 8
 d9:=sX Sb.i X G 9
 Ve:=nu Sb.i X G 10
 Vf:=sX Sb.i X G 11
 Vg:=nu Sb.i X G 12
 Vh:=nu Sb.i X G 13
 Vi:=sX Sb.i X G 14
 Vj:=sX Sb.i X G 15
 Vk:=sX Sb.i X G 16
 Oi:=zou Sb.i X G 17
 KN:=Nv Sb.i X G 18
 Vl:=Nv Sb.i X G 19
 Oj:=nu Sb.i X G 20
 Vm:=sX Sb.i X G 21
 Vn:=nu Sb.i X G 22
 Vo:=sX Sb.i X G 23
 Vp:=nu Sb.i X G 24
 Vq:=nu Sb.i X G 25
 Vr:=sX Sb.i X G 26
 Vt:=nu Sb.i X G 27
 Vu:=sX Sb.i X G 28
 Vv:=nu Sb.i X G 29
 Vw:=Nv Sb.i X G 30
 Vx:=sX Sb.i X G 31
 Ol:=nu Sb.i X G 32
 Vy:=nu Sb.i X G 33
 Vz:=nu Sb.i X G 34
 Gb:=nu Sb.i X G 35
 Om:=nu Sb.i X G 36
 gR:=S_ (Sb.i.gd.it ("MOST_PLACES",8) (mG 0)) X G
 eZ:=S_ (Sb.i.gd.it ("MOST_SPOTS",24) (mG 1)) X G
 kY:=S_ (Sb.i.gd.it ("SO_OFTEN",27720) (mG 2)) X G
 z14:=qy (Sb.i.gd.no "abs" (mG 0)) X G
 z6:=qy (Sb.i.gd.no "all" (mG 1)) X G
 z2:=qy (Sb.i.gd.no "bool" (mG 2)) X G
 z13:=qy (Sb.i.gd.no "divmod" (mG 3)) X G
 VB:=qy (Sb.i.gd.no "enumerate" (mG 4)) X G
 z1:=qy (Sb.i.gd.no "int" (mG 5)) X G
 z0:=qy (Sb.i.gd.no "isinstance" (mG 6)) X G
 z4:=qy (Sb.i.gd.no "len" (mG 7)) X G
 z9:=qy (Sb.i.gd.no "list" (mG 8)) X G
 z12:=qy (Sb.i.gd.no "max" (mG 9)) X G
 KQ:=qy (Sb.i.gd.no "min" (mG 10)) X G
 z7:=qy (Sb.i.gd.no "range" (mG 11)) X G
 z8:=qy (Sb.i.gd.no "sorted" (mG 12)) X G
 z3:=qy (Sb.i.gd.no "tuple" (mG 13)) X G
 z5:=qy (Sb.i.gd.no "zip" (mG 14)) X G
 ow:=zmY Sb.b rfl rfl Dc
 mq:=znz Sb.b (Sb.m ("__init__","Board.__init__",Ef) (mG 0)).2
 mc:=znO Sb.b X G
 VD:=zoc (Sb.m ("__init__","Board.__init__",Ef) (mG 0))
 VF:=znP (Sb.m ("far_apart","Board.far_apart",GX) (mG 1))
 KR:=zoc (Sb.m ("settled","Board.settled",Eh) (mG 2))
 Oo:=znP (Sb.m ("ties_left","Board.ties_left",Ej) (mG 3))
 VG:=Ua (Sb.m ("bound","Board.bound",Ek) (mG 4))
 VH:=Ua (Sb.m ("narrowest","Board.narrowest",GZ) (mG 5))
 VJ:=Ua (Sb.m ("all_free","Board.all_free",El) (mG 6))
 lam:=LH.lk X G (top 34)
abbrev FO(P:Program)(w:World)(K:W.Frag)(mg:Str->Option Value)(base:Heap)(k:Nat)(c:Bool)(x:Str)(i:Nat)(ps:List Str)(n:Nat):Prop:=cF P w K mg base (fu P w) c k (fV K x) (fdOf K x (top i)) ps (lG K (cl K) (call aq T k c n))
abbrev FM(P:Program)(w:World)(K:W.Frag)(mg:Str->Option Value)(base:Heap)(k:Nat)(m:Str)(st:Stmt)(ps:List Str)(sp:Sp):Prop:=cF P w K mg base (fu P w) true k (iw K ((cl K).b 0) m) (jL K ((cl K).b 0) m st) ps sp
structure Fs(P:Program)(w:World)(K:W.Frag)(mg:Str->Option Value)(base:Heap)(k:Nat):Prop where
 t0:FO P w K mg base k true "is_whole" 5 ["thing"] 0
 t1:FO P w K mg base k true "is_within" 6 ["thing","least","most"] 1
 t2:FO P w K mg base k true "is_row" 7 ["thing","many"] 2
 t3:FO P w K mg base k true "is_web" 10 ["thing"] 3
 t4:FO P w K mg base k true "is_many" 11 ["thing"] 4
 t5:FO P w K mg base k true "is_place" 12 ["many","thing"] 5
 t6:FO P w K mg base k true "is_tie" 13 ["many","thing"] 6
 t7:FO P w K mg base k true "check_web" 14 ["thing"] 7
 t8:FO P w K mg base k true "all_pairs" 15 ["many"] 8
 t9:FO P w K mg base k true "tied_to" 16 ["web","place"] 9
 t10:FO P w K mg base k true "all_ends" 17 ["web"] 10
 t11:FM P w K mg base k "__init__" Ef ["self","web","apart","alike"] (NP K (cl K) 0 (call aq T k true 11))
 t12:FM P w K mg base k "far_apart" GX ["self","spot","other"] (lG K (cl K) (call aq T k true 12))
 Oq:FM P w K mg base k "settled" Eh ["self","free","place","spot"] (lG K (cl K) (call aq T k true 13))
 VL:FM P w K mg base k "ties_left" Ej ["self","free","place"] (lG K (cl K) (call aq T k true 14))
 t15:FM P w K mg base k "bound" Ek ["self","free"] (lG K (cl K) (call aq T k true 15))
 t16:FM P w K mg base k "narrowest" GZ ["self","free"] (lG K (cl K) (call aq T k true 16))
 t17:FM P w K mg base k "all_free" El ["self","free"] (lG K (cl K) (call aq T k true 17))
 t18:FO P w K mg base k true "ring_board" 20 ["web","ring"] 18
 t19:FO P w K mg base k true "is_ring" 23 ["thing"] 19
 t20:FO P w K mg base k true "check_ring" 24 ["thing"] 20
 t21:FO P w K mg base k true "lowest_terms" 25 ["top","bottom"] 21
 t22:FO P w K mg base k true "first_hues" 27 ["web","ring"] 22
 t23:FO P w K mg base k true "first_among" 28 ["board","choices"] 23
 VN:FO P w K mg base k true "first_spot" 29 ["board","answers","free","place"] 24
 Ot:FO P w K mg base k true "can_settle" 30 ["board","answers","free"] 25
 t26:FO P w K mg base k true "search" 31 ["board","answers","free"] 26
 VP:FO P w K mg base k true "plain_rings" 34 ["most"] 27
 t28:FO P w K mg base k true "has_room" 35 ["web","ring"] 28
 t29:FO P w K mg base k true "shortest" 36 ["web"] 29
 t30:FO P w K mg base k true "is_plain" 37 ["k","d"] 30
 t31:FO P w K mg base k true "by_shortest" 39 ["many"] 31
 t32:FO P w K mg base k true "webs_with" 40 ["many"] 32
 t33:FO P w K mg base k true "_law_cell" 42 ["_law_script","_law_k"] 33
 t34:FO P w K mg base k true "_law_pen" 43 ["_law_cell_here"] 34
 t35:FO P w K mg base k true "_law_draw" 44 ["_law_pen_here","_law_many"] 35
 t36:FO P w K mg base k true "_law_whole" 45 ["_law_thing"] 36
 t37:FO P w K mg base k true "_law_apart" 46 ["_law_k","_law_one","_law_other"] 37
 t38:FO P w K mg base k true "_law_first" 47 ["_law_web","_law_ring"] 38
 VR:FO P w K mg base k true "_law_plain" 48 ["_law_most"] 39
 t40:FO P w K mg base k true "_law_shortest" 49 ["_law_web"] 40
 t41:FO P w K mg base k true "_law_all_webs" 50 ["_law_many"] 41
 KY:FO P w K mg base k true "_law_right" 51 ["_law_many"] 42
 t43:FO P w K mg base k true "law" 52 ["_law_script"] 43
section
variable {P:Program}{w:World}{K:W.Frag}{mg:Str->Option Value}{base:Heap}{k:Nat}
theorem zjZ(Tp:Top K mg)(Fk:Fs P w K mg base k):Fs P w K mg base (k+1) where
 t0:=fJ Tp.d0 ["thing"] T_0 λ_ _ _ _ _ _ hr=>(aH (cg (xY (zV rfl Tp.z0 gk (gv 0) (zU rfl Tp.z1 YQ gk dk)) (vY (YZ (zV rfl Tp.z0 gk (gv 0) (zU rfl Tp.z2 YS gk dk))))))
 aN)
 t1:=fJ Tp.d1 ["thing","least","most"] T_1 λ_ _ _ _ _ _ hr=>(aH (cg (xY (gc Fk.t0 Tp.d0 hr dG gk (aF (gv 0) aK)) (vY (zmF Y4 Y4 (gv 1) (gv 0) (gv 2)))))
 aN)
 t2:=fJ Tp.d2 ["thing","many"] T_2 λ_ _ _ _ _ _ hr=>(aH (cg (xY (zV rfl Tp.z0 gk (gv 0) (zU rfl Tp.z3 Jz gk dk)) (vY (xZ (oW hr) (yc Tp.z4 gk (aF (gv 0) aK)) (gv 1)))))
 aN)
 t3:=fJ Tp.d3 N3 T_3 λ_ _ _ _ _ _ hr=>(aH (iz (pD (lA (gc Fk.t2 Tp.d2 hr dG gk (aF (gv 0) (aF aO aK))))) (aH (cg rm)
 aN) aN)
 (aH (J0 1 2 rfl rfl nd rfl rfl jc jl rfl rfl (gv 0))
 (aH (iz (tU (JF (pD (lA (gc Fk.t4 Tp.d4 hr dG gk (aF (gv 1) aK)))) (JD (pD (lA (zV rfl Tp.z0 gk (gv 2) (zU rfl Tp.z3 Jz gk dk))))))) (aH (cg rm)
 aN) aN)
 (aH (iz (pD (lA (Nq rfl Tp.z6 gk (aF (nq (au (top 10)) N3 ["tie"] ["many"] [1] rfl rfl rfl Dc Dc (je 0) Dc (jJ (gv 2)) (λ_ _ _ _ _ _=>(jf 0 Dc rfl Dc)) (λ_ _ _ _ _ _=>oX) (λ_ _ _ _ _ _=>(gc Fk.t6 Tp.d6 hr Fx sZ (aF (bw 1) (aF (bw 0) aK))))) aK)))) (aH (cg rm)
 aN) aN)
 (aH (cg (Nq rfl Tp.z6 gk (aF (nq (au (top 10)) N3 ["tie","later"] [] [] rfl rfl rfl Dc Dc (Jx 0 1) Dc (zmT Tp.z5 gk (gv 2) (SM (gv 2) (Np aO) Y6)) (λ_ _ _ _ _ _=>(Nr 0 1 rfl Dc rfl rfl Dc Dc)) (λ_ _ _ _ _ _=>oX) (λ_ _ _ _ _ _=>(xZ (Fq hr) (bw 0) (bw 1)))) aK)))
 aN)))))
 t4:=fJ Tp.d4 ["thing"] T_4 λ_ _ _ _ _ _ hr=>(aH (cg (gc Fk.t1 Tp.d1 hr dG gk (aF (gv 0) (aF aO (aF (Ni Tp.gR gk dk) aK)))))
 aN)
 t5:=fJ Tp.d5 ["many","thing"] T_5 λ_ _ _ _ _ _ hr=>(aH (cg (gc Fk.t1 Tp.d1 hr dG gk (aF (gv 1) (aF aO (aF (dj zP (gv 0) aO) aK)))))
 aN)
 t6:=fJ Tp.d6 ["many","thing","one","other"] T_6 λ_ _ _ _ _ _ hr=>(aH (iz (pD (lA (gc Fk.t2 Tp.d2 hr dG gk (aF (gv 1) (aF aO aK))))) (aH (cg rm)
 aN) aN)
 (aH (J0 2 3 rfl rfl nd rfl rfl jl jl rfl rfl (gv 1))
 (aH (cg (xY (gc Fk.t5 Tp.d5 hr dG gk (aF (gv 0) (aF (gv 2) aK))) (xY (gc Fk.t5 Tp.d5 hr dG gk (aF (gv 0) (aF (gv 3) aK))) (vY (xZ (Fq hr) (gv 2) (gv 3))))))
 aN)))
 t7:=fJ Tp.d7 ["thing"] T_7 λ_ _ _ _ _ _ hr=>(aH (iz (pD (lA (gc Fk.t3 Tp.d3 hr dG gk (aF (gv 0) aK)))) (aH Y8
 aN) aN)
 aN)
 t8:=fJ Tp.d8 N8 T_8 λ_ _ _ _ _ _ hr=>(aH (cg (ziO (au (top 15)) N8 ["one","other"] ["many"] [0] rfl rfl rfl Dc Dc (je 0) (je 1) Dc (vh Tp.z7 gk (gv 0)) (λ_ _ _ _ _ _=>(jf 0 Dc rfl Dc)) (λ_ _ _ _ _ _=>(Ft Tp.z7 sZ (dj nQ (bw 0) aO) (bw 2))) (λ_ _ _ _ _ _=>(jf 1 Dc rfl Dc)) (λ_ _ _ _ _ _=>oX) (λ_ _ _ _ _ _=>(jt (aF (bw 0) (aF (bw 1) aK))))))
 aN)
 t9:=fJ Tp.d9 N9 T_9 λ_ _ _ _ _ _ hr=>(aH (Fy 2 (au (top 16)) N9 ["one","other"] ["place"] [1] nd rfl jl rfl rfl rfl rfl Dc Dc (Jx 0 1) Dc (jJ (cW (gv 0) aO)) (λ_ _ _ _ _ _=>(Nr 0 1 rfl Dc rfl rfl Dc Dc)) (λ_ _ _ _ _ _=>(tV (g_ (CJ hr) (bw 2) (jt (aF (bw 0) (aF (bw 1) aK)))))) (λ_ _ _ _ _ _=>(Nm (g_ (oW hr) (bw 0) (bw 2)) (bw 1) (bw 0))))
 (aH (cg (CQ Tp.z3 gk (aF (Zo Tp.z8 gk (aF (gv 2) aK)) aK)))
 aN))
 t10:=fJ Tp.Ve N10 zoa λ_ _ _ _ _ _ hr=>(aH (cg (nq (au (top 17)) N10 ["place"] ["web"] [0] rfl rfl rfl Dc Dc (je 0) Dc (vh Tp.z7 gk (cW (gv 0) aO)) (λ_ _ _ _ _ _=>(jf 0 Dc rfl Dc)) (λ_ _ _ _ _ _=>oX) (λ_ _ _ _ _ _=>(gc Fk.t9 Tp.d9 hr Fx sZ (aF (bw 1) (aF (bw 0) aK))))))
 aN)
 t11:=zjJ (N:=["self","web","apart","alike"]) Tp.VD.fn zn3 (λ_ _ _ _ _ _ hr=>(NQ (j:=0) Tp.ow (gc Fk.t10 Tp.Ve hr dG gk (aF (gv 1) aK)) (NQ (j:=0) Tp.ow (zni rfl Tp.z3 gk Tp.z7 gk (aF (yc Tp.z4 gk (aF (gv 2) aK)) aK)) (NQ (j:=0) Tp.ow (gv 2) (NQ (j:=0) Tp.ow (gv 3) zlq))))) (by show (4:Nat)<=900;decide)
 t12:=fM Tp.VF ["self","spot","other"] zn4 λ_ _ _ _ _ _ hr=>(aH (cg (cW (cW (FW Tp.ow (gv 0)) (gv 1)) (gv 2)))
 aN)
 Oq:=fM Tp.KR N13 znX λ_ _ _ _ _ _ hr=>(aH (h_ 4 nd rfl jl rfl (zlY Tp.z9 gk (aF (gv 1) aK)))
 (aH (Fz (gv 4) (gv 2) vd)
 (aH (rA oY rfl rfl (jJ (cW (FW Tp.ow (gv 0)) (gv 2))) (tW 5 nd rfl jl rfl) (aH (iz (Nk (cW (gv 4) (gv 5))) (aH (Fz (gv 4) (gv 5) (CQ Tp.z3 gk (aF (nq (au (Eh)) N13 ["other"] ["self","spot"] [0,3] rfl rfl rfl Dc Dc (je 0) Dc (jJ (cW (gv 4) (gv 5))) (λ_ _ _ _ _ _=>(jf 0 Dc rfl Dc)) (λ_ _ _ _ _ _=>(tV (lA (yx Tp.ow Tp.VF Fk.t12 hr (bw 1) (aF (bw 2) (aF (bw 0) aK)))))) (λ_ _ _ _ _ _=>(bw 0))) aK)))
 aN) aN)
 aN))
 (aH (cg (CQ Tp.z3 gk (aF (gv 4) aK)))
 aN))))
 VL:=fM Tp.Oo N14 zn7 λ_ _ _ _ _ _ hr=>(aH (cg (yc Tp.z4 gk (aF (nq (au (Ej)) N14 ["end"] ["free"] [1] rfl rfl rfl Dc Dc (je 0) Dc (jJ (cW (FW Tp.ow (gv 0)) (gv 2))) (λ_ _ _ _ _ _=>(jf 0 Dc rfl Dc)) (λ_ _ _ _ _ _=>(tV (Nk (cW (bw 1) (bw 0))))) (λ_ _ _ _ _ _=>(bw 0))) aK)))
 aN)
 t15:=fM Tp.VG N15 znY λ_ _ _ _ _ _ hr=>(aH (cg (CQ Tp.z3 gk (aF (nq (au (Ek)) N15 ["place","spots"] ["self","free"] [0,1] rfl rfl rfl Dc Dc (Jx 0 1) Dc (Zr Tp.VB gk (gv 1)) (λ_ _ _ _ _ _=>(Nr 0 1 rfl Dc rfl rfl Dc Dc)) (λ_ _ _ _ _ _=>oX) (λ_ _ _ _ _ _=>(Nm (g_ Sy (yx Tp.ow Tp.Oo Fk.VL hr (bw 2) (aF (bw 3) (aF (bw 0) aK))) aO) (bw 1) vd))) aK)))
 aN)
 t16:=fM Tp.VH ["self","free","ranks","place","spots"] zn5 λ_ _ _ _ _ _ hr=>(aH (h_ 2 nd rfl jl rfl (qx aK))
 (aH (rA oY rfl rfl (Zr Tp.VB gk (gv 1)) (Y_ 3 4 rfl rfl nd rfl rfl jl jl rfl rfl) (aH (iz (Nk (gv 4)) (aH (yd (JM (gv 2) (jt (aF (yc Tp.z4 gk (aF (gv 4) aK)) (aF (zR (yx Tp.ow Tp.Oo Fk.VL hr (gv 0) (aF (gv 1) (aF (gv 3) aK)))) (aF (gv 3) aK))))))
 aN) aN)
 aN))
 (aH (cg (Nm (znq (gv 2)) (cW (zlO hr rfl Tp.KQ gk (aF (gv 2) aK)) aO) vd))
 aN)))
 t17:=fM Tp.VJ N17 zog λ_ _ _ _ _ _ hr=>(aH (cg (Nq rfl Tp.z6 gk (aF (nq (au (El)) N17 ["spots"] ["self"] [0] rfl rfl rfl Dc Dc (je 0) Dc (jJ (gv 1)) (λ_ _ _ _ _ _=>(jf 0 Dc rfl Dc)) (λ_ _ _ _ _ _=>oX) (λ_ _ _ _ _ _=>(Y0 (znC (bw 0)) (vY (xZ (oW hr) (bw 0) (FW Tp.ow (bw 1))))))) aK)))
 aN)
 t18:=fR Tp.Vf Va zoe λ_ _ _ _ _ _ hr=>(aH (J0 2 3 rfl rfl nd rfl rfl jc jc rfl rfl (gv 1))
 (aH (h_ 4 nd rfl jc rfl (nq (au (top 20)) Va ["gap"] ["k","d"] [2,3] rfl rfl rfl Dc Dc (je 0) Dc (vh Tp.z7 gk (gv 2)) (λ_ _ _ _ _ _=>(jf 0 Dc rfl Dc)) (λ_ _ _ _ _ _=>oX) (λ_ _ _ _ _ _=>(xZ SJ (SN rfl Tp.KQ sZ (aF (bw 0) (aF (dj zP (bw 1) (bw 0)) aK))) (bw 2)))))
 (aH (cg (zoj Tp.mq Fk.t11 (Mi.bx.made hr _ _) Tp.VD.bd Tp.mc gk (aF (gv 0) (aF (nq (au (top 20)) Va ["spot"] ["k","wide"] [2,4] rfl rfl rfl Dc Dc (je 0) Dc (vh Tp.z7 gk (gv 2)) (λ_ _ _ _ _ _=>(jf 0 Dc rfl Dc)) (λ_ _ _ _ _ _=>oX) (λ_ _ _ _ _ _=>(Y7 ["spot","k","wide"] ["other"] ["wide","spot"] [2,0] rfl rfl Dc Dc (je 0) Dc (vh Tp.z7 sZ (bw 1)) (λ_ _ _ _ _ _=>(jf 0 Dc rfl Dc)) (λ_ _ _ _ _ _=>oX) (λ_ _ _ _ _ _=>(cW (bw 1) (dj zP (bw 2) (bw 0))))))) (aF rm aK)))))
 aN)))
 t19:=fJ Tp.Vg ["thing","k","d"] znT λ_ _ _ _ _ _ hr=>(aH (iz (pD (lA (gc Fk.t2 Tp.d2 hr dG gk (aF (gv 0) (aF aO aK))))) (aH (cg rm)
 aN) aN)
 (aH (J0 1 2 rfl rfl nd rfl rfl jl jl rfl rfl (gv 0))
 (aH (cg (xY (gc Fk.t1 Tp.d1 hr dG gk (aF (gv 1) (aF aO (aF (Ni Tp.eZ gk dk) aK)))) (vY (gc Fk.t1 Tp.d1 hr dG gk (aF (gv 2) (aF aO (aF (gv 1) aK)))))))
 aN)))
 t20:=fJ Tp.Vh ["thing"] znZ λ_ _ _ _ _ _ hr=>(aH (iz (pD (lA (gc Fk.t19 Tp.Vg hr dG gk (aF (gv 0) aK)))) (aH Y8
 aN) aN)
 aN)
 t21:=fJ Tp.Vi ["top","bottom","common","rest"] zot λ_ _ _ _ _ _ hr=>(aH (Y9 2 3 rfl rfl nd rfl rfl Ro jl jl (gv 0) (gv 1) rfl)
 (aH (S7 oY (g_ Sy (gv 3) aO) (aH (Y9 2 3 rfl rfl nd rfl rfl Ro jl jl (gv 3) (dj zQ (gv 2) (gv 3)) rfl)
 aN))
 (aH (cg (jt (aF (dj Fp (gv 0) (gv 2)) (aF (dj Fp (gv 1) (gv 2)) aK))))
 aN)))
 t22:=fJ Tp.Vj N22 znW λ_ _ _ _ _ _ hr=>(aH (yd (gc Fk.t7 Tp.d7 hr dG gk (aF (gv 0) aK)))
 (aH (yd (gc Fk.t20 Tp.Vh hr dG gk (aF (gv 1) aK)))
 (aH (h_ 2 nd rfl jc rfl (gc Fk.t18 Tp.Vf hr dG gk (aF (gv 0) (aF (gv 1) aK))))
 (aH (cg (gc Fk.t23 Tp.Vk hr dG gk (aF (gv 2) (aF (nq (au (top 27)) N22 ["place"] ["board"] [2] rfl rfl rfl Dc Dc (je 0) Dc (vh Tp.z7 gk (cW (gv 0) aO)) (λ_ _ _ _ _ _=>(jf 0 Dc rfl Dc)) (λ_ _ _ _ _ _=>oX) (λ_ _ _ _ _ _=>(FW Tp.ow (bw 1)))) aK))))
 aN))))
 t23:=fJ Tp.Vk ["board","choices","free","answers","row","place","spot"] znQ λ_ _ _ _ _ _ hr=>(aH (h_ 2 nd rfl jl rfl (CQ Tp.z3 gk (aF (gv 1) aK)))
 (aH (h_ 3 nd rfl jl rfl Ze)
 (aH (iz (pD (lA (gc Fk.Ot Tp.KN hr dG gk (aF (gv 0) (aF (gv 3) (aF (gv 2) aK)))))) (aH (cg vd)
 aN) aN)
 (aH (h_ 4 nd rfl jl rfl (qx aK))
 (aH (rA oY rfl rfl (vh Tp.z7 gk (yc Tp.z4 gk (aF (gv 1) aK))) (tW 5 nd rfl jl rfl) (aH (h_ 6 nd rfl jl rfl (gc Fk.VN Tp.Oi hr dG gk (aF (gv 0) (aF (gv 3) (aF (gv 2) (aF (gv 5) aK))))))
 (aH (h_ 2 nd rfl jl rfl (yx Tp.ow Tp.KR Fk.Oq hr (gv 0) (aF (gv 2) (aF (gv 5) (aF (gv 6) aK)))))
 (aH (yd (JM (gv 4) (gv 6)))
 aN))))
 (aH (cg (CQ Tp.z3 gk (aF (gv 4) aK)))
 aN))))))
 VN:=fJ Tp.Oi ["board","answers","free","place","spot"] U_ λ_ _ _ _ _ _ hr=>(aH (rA oY rfl rfl (jJ (cW (gv 2) (gv 3))) (tW 4 nd rfl jl rfl) (aH (iz (lA (gc Fk.Ot Tp.KN hr dG gk (aF (gv 0) (aF (gv 1) (aF (yx Tp.ow Tp.KR Fk.Oq hr (gv 0) (aF (gv 2) (aF (gv 3) (aF (gv 4) aK)))) aK))))) (aH (cg (gv 4))
 aN) aN)
 aN))
 (aH (cg vd)
 aN))
 Ot:=fJ Tp.KN ["board","answers","free","rest"] znR λ_ _ _ _ _ _ hr=>(aH (iz (g_ (CJ hr) (jt aK) (gv 2)) (aH (cg rm)
 aN) aN)
 (aH (h_ 3 nd rfl jl rfl (yx Tp.ow Tp.VG Fk.t15 hr (gv 0) (aF (gv 2) aK)))
 (aH (iz (zmq hr (gv 3) (gv 1)) (aH (Zf hr (gv 1) (gv 3) (gc Fk.t26 Tp.Vl hr dG gk (aF (gv 0) (aF (gv 1) (aF (gv 3) aK)))))
 aN) aN)
 (aH (cg (Zc hr (gv 1) (gv 3)))
 aN))))
 t26:=fJ Tp.Vl ["board","answers","free","place"] Og λ_ _ _ _ _ _ hr=>(aH (h_ 3 nd rfl jl rfl (yx Tp.ow Tp.VH Fk.t16 hr (gv 0) (aF (gv 2) aK)))
 (aH (iz (znI (gv 3)) (aH (cg rm)
 aN) aN)
 (aH (iz (tU (CP (lA (FW Tp.ow (gv 0))) (CK (lA (yx Tp.ow Tp.VJ Fk.t17 hr (gv 0) (aF (gv 2) aK)))))) (aH (cg (gc Fk.Ot Tp.KN hr dG gk (aF (gv 0) (aF (gv 1) (aF (yx Tp.ow Tp.KR Fk.Oq hr (gv 0) (aF (gv 2) (aF (gv 3) (aF aO aK)))) aK)))))
 aN) aN)
 (aH (cg (Y5 (gc Fk.VN Tp.Oi hr dG gk (aF (gv 0) (aF (gv 1) (aF (gv 2) (aF (gv 3) aK)))))))
 aN))))
 VP:=fJL Tp.Oj Tp.lam N27 zok λ_ _ _ _ _ _ hr hL=>(aH (h_ 1 nd rfl jl rfl (SN rfl Tp.KQ gk (aF (gv 0) (aF (Ni Tp.eZ gk dk) aK))))
 (aH (zjG 2 (au (top 34)) N27 ["k","d"] [] [] nd rfl jl rfl rfl rfl rfl Dc Dc (je 0) (je 1) Dc (Ft Tp.z7 gk aO (dj nQ (gv 1) aO)) (λ_ _ _ _ _ _=>(jf 0 Dc rfl Dc)) (λ_ _ _ _ _ _=>(Ft Tp.z7 sZ aO (dj nQ (bw 0) aO))) (λ_ _ _ _ _ _=>(jf 1 Dc rfl Dc)) (λ_ _ _ _ _ _=>(tV (lA (gc Fk.t30 Tp.Vo hr Fx sZ (aF (bw 0) (aF (bw 1) aK)))))) (λ_ _ _ _ _ _=>(jt (aF (bw 0) (aF (bw 1) aK)))))
 (aH (cg (ziM "ring" hL hr rfl Tp.z8 gk (gv 2) (λ_ _ _ _=>(dj Fp (dj xX (cW (gv 0) aO) (Ni Tp.kY gk dk)) (cW (gv 0) aO)))))
 aN)))
 t28:=fJ Tp.Vm ["web","ring"] zof λ_ _ _ _ _ _ hr=>(aH (cg (Y5 (gc Fk.t22 Tp.Vj hr dG gk (aF (gv 0) (aF (gv 1) aK)))))
 aN)
 t29:=fJ Tp.Vn ["web","rings","at"] zoq λ_ _ _ _ _ _ hr=>(aH (yd (gc Fk.t7 Tp.d7 hr dG gk (aF (gv 0) aK)))
 (aH (h_ 1 nd rfl jl rfl (gc Fk.VP Tp.Oj hr dG gk (aF (cW (gv 0) aO) aK)))
 (aH (h_ 2 nd rfl jl rfl aO)
 (aH (S7 oY (pD (lA (gc Fk.t28 Tp.Vm hr dG gk (aF (gv 0) (aF (cW (gv 1) (gv 2)) aK))))) (aH (zmW 2 nd rfl jl rfl aO)
 aN))
 (aH (cg (cW (gv 1) (gv 2)))
 aN)))))
 t30:=fJ Tp.Vo ["k","d"] zox λ_ _ _ _ _ _ hr=>(aH (cg (xY (xZ (oW hr) (gc Fk.t21 Tp.Vi hr dG gk (aF (gv 0) (aF (gv 1) aK))) (jt (aF (gv 0) (aF (gv 1) aK)))) (vY (Y0 (xZ (oW hr) (gv 0) aO) (vY (xZ SJ (gv 0) (dj xX aO (gv 1))))))))
 aN)
 t31:=fJ Tp.Vp N31 zoo λ_ _ _ _ _ _ hr=>(aH (h_ 1 nd rfl jc rfl Ze)
 (aH (rA oY rfl rfl (jJ (gc Fk.t32 Tp.Vq hr dG gk (aF (gv 0) aK))) (tW 2 nd rfl jl rfl) (aH (h_ 3 nd rfl jl rfl (gc Fk.t29 Tp.Vn hr dG gk (aF (gv 2) aK)))
 (aH (Zf hr (gv 1) (gv 3) (dj nQ (znm hr (gv 1) (gv 3) aO) aO))
 aN)))
 (aH (cg (nq (au (top 39)) N31 ["ring"] ["counts"] [1] rfl rfl rfl Dc Dc (je 0) Dc (jJ (gc Fk.VP Tp.Oj hr dG gk (aF (gv 0) aK))) (λ_ _ _ _ _ _=>(jf 0 Dc rfl Dc)) (λ_ _ _ _ _ _=>(tV (znv hr (bw 0) (bw 1)))) (λ_ _ _ _ _ _=>(jt (aF (bw 0) (aF (Zc hr (bw 1) (bw 0)) aK))))))
 aN)))
 t32:=fJ Tp.Vq Vb zor λ_ _ _ _ _ _ hr=>(aH (h_ 1 nd rfl jl rfl (Nm (lA (gc Fk.t4 Tp.d4 hr dG gk (aF (gv 0) aK))) (qx (aF (jt aK) aK)) (qx aK)))
 (aH (rA oY rfl rfl (jJ (gc Fk.t8 Tp.d8 hr dG gk (aF (gv 0) aK))) (tW 2 nd rfl jc rfl) (aH (h_ 1 nd rfl jl rfl (dj nQ (gv 1) (nq (au (top 40)) Vb ["row"] ["pair"] [2] rfl rfl rfl Dc Dc (je 0) Dc (jJ (gv 1)) (λ_ _ _ _ _ _=>(jf 0 Dc rfl Dc)) (λ_ _ _ _ _ _=>oX) (λ_ _ _ _ _ _=>(dj nQ (bw 0) (jt (aF (bw 1) aK)))))))
 aN))
 (aH (cg (nq (au (top 40)) Vb ["row"] ["many"] [0] rfl rfl rfl Dc Dc (je 0) Dc (jJ (gv 1)) (λ_ _ _ _ _ _=>(jf 0 Dc rfl Dc)) (λ_ _ _ _ _ _=>oX) (λ_ _ _ _ _ _=>(jt (aF (bw 1) (aF (bw 0) aK))))))
 aN)))
 t33:=fJ Tp.Vr ["_law_script","_law_k"] zod λ_ _ _ _ _ _ hr=>(aH (iz (g_ (Fq hr) (gv 1) (yc Tp.z4 gk (aF (gv 0) aK))) (aH (cg (cW (gv 0) (gv 1)))
 aN) aN)
 (aH (cg aO)
 aN))
 t34:=fJ Tp.Vt ["_law_cell_here","_law_left"] znU λ_ _ _ _ _ _ hr=>(aH (h_ 1 nd rfl jl rfl (zkO rfl Tp.z12 gk (aF (gv 0) (aF (dj zP aO (gv 0)) aK))))
 (aH (cg (qx (aF (gv 1) (aF (zld Tp.z1 gk (aF (xZ SJ (gv 1) (dj zmZ aO aO)) aK)) aK))))
 aN))
 t35:=fJ Tp.Vu ["_law_pen_here","_law_many","_law_left","_law_found","_law_stir"] zn9 λ_ _ _ _ _ _ hr=>(aH (iz (g_ (oW hr) (cW (gv 0) aO) aO) (aH (J0 2 3 rfl rfl nd rfl rfl jl jl rfl rfl (zhC Tp.z13 gk (aF (cW (gv 0) aO) (aF (gv 1) aK))))
 (aH (Fz (gv 0) aO (gv 2))
 (aH (cg (gv 3))
 aN))) aN)
 (aH (h_ 4 nd rfl jl rfl (dj zQ (dj xX (dj nQ (dj zQ (cW (gv 0) aO) aO) aO) aO) aO))
 (aH (h_ 4 nd rfl jl rfl (dj zQ (dj nQ (dj xX (gv 4) (gv 4)) aO) aO))
 (aH (Fz (gv 0) aO (dj zQ (dj nQ (dj xX (gv 4) aO) aO) aO))
 (aH (cg (dj zQ (dj Fp (cW (gv 0) aO) aO) (gv 1)))
 aN)))))
 t36:=fJ Tp.Vv ["_law_thing"] zom λ_ _ _ _ _ _ hr=>(aH (cg (xY (zV rfl Tp.z0 gk (gv 0) (zU rfl Tp.z1 YQ gk dk)) (vY (YZ (zV rfl Tp.z0 gk (gv 0) (zU rfl Tp.z2 YS gk dk))))))
 aN)
 t37:=fJ Tp.Vw ["_law_k","_law_one","_law_other","_law_there"] zoi λ_ _ _ _ _ _ hr=>(aH (h_ 3 nd rfl jl rfl (zm3 Tp.z14 gk (aF (dj zP (gv 1) (gv 2)) aK)))
 (aH (cg (SN rfl Tp.KQ gk (aF (gv 3) (aF (dj zP (gv 0) (gv 3)) aK))))
 aN))
 t38:=fJ Tp.Vx KJ zon λ_ _ _ _ _ _ hr=>(aH (iz (tU (CP (g_ (Nj hr) (cW (gv 0) aO) (jt aK)) (CK (g_ (Fq hr) (cW (gv 1) aO) (dj xX aO (cW (gv 1) aO)))))) (aH (cg vd)
 aN) aN)
 (aH (h_ 2 nd rfl jl rfl (qx aK))
 (aH (rA oY rfl rfl (jJ (cW (gv 0) aO)) (Y_ 3 4 rfl rfl nd rfl rfl jc jc rfl rfl) (aH (Fy 5 (au (top 47)) KJ ["_law_place"] ["_law_one","_law_web","_law_other"] [3,0,4] nd rfl jl rfl rfl rfl rfl Dc Dc (je 0) Dc (vh Tp.z7 gk (cW (gv 0) aO)) (λ_ _ _ _ _ _=>(jf 0 Dc rfl Dc)) (λ_ _ _ _ _ _=>(tV (tU (CP (g_ (CJ hr) (jt (aF (bw 1) (aF (bw 0) aK))) (cW (bw 2) aO)) (CK (g_ (CJ hr) (jt (aF (bw 3) (aF (bw 0) aK))) (cW (bw 2) aO))))))) (λ_ _ _ _ _ _=>(bw 0)))
 (aH (h_ 2 nd rfl jl rfl (dj nQ (gv 2) (gv 5)))
 aN)))
 (aH (iz (tU (CP (g_ (Nj hr) (gv 2) (qx aK)) (CK (g_ (Fq hr) (cW (gv 1) aO) (dj xX aO (cW (gv 1) aO)))))) (aH (cg vd)
 aN) aN)
 (aH (Fy 6 (au (top 47)) KJ ["_law_place"] ["_law_web"] [0] nd rfl jl rfl rfl rfl rfl Dc Dc (je 0) Dc (vh Tp.z7 gk (cW (gv 0) aO)) (λ_ _ _ _ _ _=>(jf 0 Dc rfl Dc)) (λ_ _ _ _ _ _=>(tV (g_ (oW hr) (Y7 ["_law_place","_law_web"] ["_law_tie"] ["_law_place"] [0] rfl rfl Dc Dc (je 0) Dc (jJ (cW (bw 1) aO)) (λ_ _ _ _ _ _=>(jf 0 Dc rfl Dc)) (λ_ _ _ _ _ _=>(tV (g_ (CJ hr) (bw 1) (bw 0)))) (λ_ _ _ _ _ _=>(bw 0))) (qx aK)))) (λ_ _ _ _ _ _=>(bw 0)))
 (aH (h_ 7 nd rfl jc rfl (qx (aF aO aK)))
 (aH (S7 oY (g_ (oW hr) (cW (gv 7) aO) aO) (aH (iz (tU (JF (g_ (oW hr) (cW (gv 7) (zR aO)) (cW (gv 1) aO)) (JD (tU (CP (g_ Sy (cW (gv 7) (zR aO)) aO) (CK (g_ (CJ hr) (dj zP (yc Tp.z4 gk (aF (gv 7) aK)) aO) (gv 6)))))))) (aH (yd (znu (gv 7)))
 (aH (iz (g_ (oW hr) (gv 7) (qx aK)) (aH (cg vd)
 aN) aN)
 (aH (Fz (gv 7) (zR aO) (dj nQ (cW (gv 7) (zR aO)) aO))
 aN))) (aH (Fy 8 (au (top 47)) KJ ["_law_tie"] ["_law_row"] [7] nd rfl jl rfl rfl rfl rfl Dc Dc (je 0) Dc (jJ (cW (gv 0) aO)) (λ_ _ _ _ _ _=>(jf 0 Dc rfl Dc)) (λ_ _ _ _ _ _=>(tV (g_ (oW hr) (cW (bw 0) aO) (dj zP (yc Tp.z4 sZ (aF (bw 1) aK)) aO)))) (λ_ _ _ _ _ _=>(bw 0)))
 (aH (Fy 9 (au (top 47)) KJ ["_law_tie"] ["_law_ring","_law_row"] [1,7] nd rfl jl rfl rfl rfl rfl Dc Dc (je 0) Dc (jJ (gv 8)) (λ_ _ _ _ _ _=>(jf 0 Dc rfl Dc)) (λ_ _ _ _ _ _=>(tV (g_ (Fq hr) (gc Fk.t37 Tp.Vw hr Fx sZ (aF (cW (bw 1) aO) (aF (cW (bw 2) (cW (bw 0) aO)) (aF (cW (bw 2) (zR aO)) aK)))) (cW (bw 1) aO)))) (λ_ _ _ _ _ _=>(bw 0)))
 (aH (iz (g_ (Nj hr) (gv 9) (qx aK)) (aH (Fz (gv 7) (zR aO) (dj nQ (cW (gv 7) (zR aO)) aO))
 aN) (aH (iz (g_ (oW hr) (yc Tp.z4 gk (aF (gv 7) aK)) (cW (gv 0) aO)) (aH (cg (CQ Tp.z3 gk (aF (gv 7) aK)))
 aN) (aH (yd (JM (gv 7) aO))
 aN))
 aN))
 aN))))
 aN))
 (aH (cg vd)
 aN))))))))
 VR:=fJ Tp.Ol Vc zov λ_ _ _ _ _ _ hr=>(aH (h_ 1 nd rfl jl rfl (qx (aF (jt (aF aO (aF (jt (aF aO (aF aO aK))) aK))) aK)))
 (aH (rA oY rfl rfl (Ft Tp.z7 gk aO (dj nQ (dj Fp (gv 0) aO) aO)) (tW 2 nd rfl jc rfl) (aH (rA oY rfl rfl (Ft Tp.z7 gk (dj xX aO (gv 2)) (dj nQ (gv 0) aO)) (tW 3 nd rfl jc rfl) (aH (iz (g_ (oW hr) (nq (au (top 48)) Vc ["_law_part"] ["_law_k","_law_d"] [3,2] rfl rfl rfl Dc Dc (je 0) Dc (jJ (jt (aF aO (aF aO (aF aO aK))))) (λ_ _ _ _ _ _=>(jf 0 Dc rfl Dc)) (λ_ _ _ _ _ _=>(tV (tU (CP (g_ (oW hr) (dj zQ (bw 1) (bw 0)) aO) (CK (g_ (oW hr) (dj zQ (bw 2) (bw 0)) aO)))))) (λ_ _ _ _ _ _=>(bw 0))) (qx aK)) (aH (yd (JM (gv 1) (jt (aF (dj Fp (dj xX aO (gv 3)) (gv 2)) (aF (jt (aF (gv 3) (aF (gv 2) aK))) aK)))))
 aN) aN)
 aN))
 aN))
 (aH (cg (nq (au (top 48)) Vc ["_law_length","_law_ring"] [] [] rfl rfl rfl Dc Dc (Jx 0 1) Dc (jJ (Zo Tp.z8 gk (aF (gv 1) aK))) (λ_ _ _ _ _ _=>(Nr 0 1 rfl Dc rfl rfl Dc Dc)) (λ_ _ _ _ _ _=>oX) (λ_ _ _ _ _ _=>(bw 1))))
 aN)))
 t40:=fJ Tp.Vy ["_law_web","_law_ring"] zol λ_ _ _ _ _ _ hr=>(aH (iz (g_ (oW hr) (cW (gv 0) aO) (jt aK)) (aH (cg (jt (aF aO (aF aO aK))))
 aN) aN)
 (aH (rA oY rfl rfl (jJ (SM (gc Fk.VR Tp.Ol hr dG gk (aF (cW (gv 0) aO) aK)) (Np aO) Y6)) (tW 1 nd rfl jl rfl) (aH (iz (Nk (gc Fk.t38 Tp.Vx hr dG gk (aF (gv 0) (aF (gv 1) aK)))) (aH (cg (gv 1))
 aN) aN)
 aN))
 (aH (cg vd)
 aN)))
 t41:=fJ Tp.Vz Vd zow λ_ _ _ _ _ _ hr=>(aH (h_ 1 nd rfl jl rfl (qx (aF (jt aK) aK)))
 (aH (rA oY rfl rfl (vh Tp.z7 gk (gv 0)) (tW 2 nd rfl jc rfl) (aH (rA oY rfl rfl (Ft Tp.z7 gk (dj nQ (gv 2) aO) (gv 0)) (tW 3 nd rfl jc rfl) (aH (h_ 1 nd rfl jl rfl (dj nQ (gv 1) (nq (au (top 50)) Vd ["_law_row"] ["_law_one","_law_other"] [2,3] rfl rfl rfl Dc Dc (je 0) Dc (jJ (gv 1)) (λ_ _ _ _ _ _=>(jf 0 Dc rfl Dc)) (λ_ _ _ _ _ _=>oX) (λ_ _ _ _ _ _=>(dj nQ (bw 0) (jt (aF (jt (aF (bw 1) (aF (bw 2) aK))) aK)))))))
 aN))
 aN))
 (aH (cg (nq (au (top 50)) Vd ["_law_row"] ["_law_many"] [0] rfl rfl rfl Dc Dc (je 0) Dc (jJ (gv 1)) (λ_ _ _ _ _ _=>(jf 0 Dc rfl Dc)) (λ_ _ _ _ _ _=>oX) (λ_ _ _ _ _ _=>(jt (aF (bw 1) (aF (bw 0) aK))))))
 aN)))
 KY:=fJ Tp.Gb Oh zos λ_ _ _ _ _ _ hr=>(aH (h_ 1 nd rfl jc rfl (nq (au (top 51)) Oh ["_law_web"] [] [] rfl rfl rfl Dc Dc (je 0) Dc (jJ (gc Fk.t41 Tp.Vz hr dG gk (aF (gv 0) aK))) (λ_ _ _ _ _ _=>(jf 0 Dc rfl Dc)) (λ_ _ _ _ _ _=>oX) (λ_ _ _ _ _ _=>(gc Fk.t40 Tp.Vy hr Fx sZ (aF (bw 0) aK)))))
 (aH (Fy 2 (au (top 51)) Oh ["_law_ring"] ["_law_rings"] [1] nd rfl jl rfl rfl rfl rfl Dc Dc (je 0) Dc (jJ (gc Fk.VR Tp.Ol hr dG gk (aF (gv 0) aK))) (λ_ _ _ _ _ _=>(jf 0 Dc rfl Dc)) (λ_ _ _ _ _ _=>(tV (g_ (CJ hr) (bw 0) (bw 1)))) (λ_ _ _ _ _ _=>(jt (aF (bw 0) (aF (zjX hr (bw 1) (aF (bw 0) aK)) aK)))))
 (aH (rA oY rfl rfl (vh Tp.z7 gk aO) (tW 3 nd rfl jl rfl) (aH (h_ 4 nd rfl jl rfl (gc Fk.t31 Tp.Vp hr dG gk (aF (gv 0) aK)))
 (aH (iz (tU (JF (pD (lA (zV rfl Tp.z0 gk (gv 4) (zU rfl Tp.z9 YT gk dk)))) (JD (g_ (Nj hr) (gv 4) (gv 2))))) (aH (cg rm)
 aN) aN)
 (aH (iz (pD (lA (Nq rfl Tp.z6 gk (aF (nq (au (top 51)) Oh ["_law_one"] [] [] rfl rfl rfl Dc Dc (je 0) Dc (jJ (gv 4)) (λ_ _ _ _ _ _=>(jf 0 Dc rfl Dc)) (λ_ _ _ _ _ _=>oX) (λ_ _ _ _ _ _=>(xY (zV rfl Tp.z0 sZ (bw 0) (zU rfl Tp.z3 Jz sZ dk)) (vY (gc Fk.t36 Tp.Vv hr Fx sZ (aF (cW (bw 0) aO) aK)))))) aK)))) (aH (cg rm)
 aN) aN)
 (aH (yd (JM (gv 4) vd))
 aN)))))
 (aH (cg rm)
 aN))))
 t43:=fJ Tp.Om ["_law_script","_law_cell_here","_law_pen_here"] znS λ_ _ _ _ _ _ hr=>(aH (iz (tU (JF (pD (lA (gc Fk.KY Tp.Gb hr dG gk (aF aO aK)))) (JD (pD (lA (gc Fk.KY Tp.Gb hr dG gk (aF aO aK))))))) (aH (cg rm)
 aN) aN)
 (aH (rA oY rfl rfl (jJ (dj nQ (qx (aF (gc Fk.t33 Tp.Vr hr dG gk (aF (gv 0) (aF aO aK))) aK)) (SM (gv 0) (Np aO) (Np aO)))) (tW 1 nd rfl jl rfl) (aH (h_ 2 nd rfl jl rfl (gc Fk.t34 Tp.Vt hr dG gk (aF (gv 1) aK)))
 (aH (iz (tU (JF (pD (lA (gc Fk.KY Tp.Gb hr dG gk (aF aO aK)))) (JD (tU (CP (g_ (oW hr) (gc Fk.t35 Tp.Vu hr dG gk (aF (gv 2) (aF aO aK))) aO) (CK (pD (lA (gc Fk.KY Tp.Gb hr dG gk (aF aO aK)))))))))) (aH (cg rm)
 aN) aN)
 aN)))
 (aH (cg rm)
 aN)))
theorem zik(Tp:Top K mg):∀k,Fs P w K mg base k
 |0=>⟨dW,dW,dW,dW,dW,dW,dW,dW,dW,dW,dW,zhh,dW,dW,dW,dW,dW,dW,dW,dW,dW,dW,dW,dW,dW,dW,dW,dW,dW,dW,dW,dW,dW,dW,dW,dW,dW,dW,dW,dW,dW,dW,dW,dW⟩
 |k+1=>zjZ Tp (zik Tp k)
end
theorem all_mk{l:PySem.W.OpenLaw}{w:World}{K:W.Frag}{h:Heap}{mg:Str->Option Value}{fa:Addr}(hm:∀ns:List Int,ns.length<=63->∃s',call aq T 60 true 43 [.d (.fl (ns.map D.int))] []=some (.ok (.d (.bl true)),s'))
  (S:rD fs ms xs lk bd K) (LH:kW K h) (X:K.In h) (G:h.Ns mainGlobals mg) (Dk:mg "law"=some (.ref fa)) :
  ∃fd:FuncData,(∀(s:Shared) (u:Value),BindsTo s fd ⟨[u],[]⟩ [("_law_script",u)])/\∀base:Heap,K.In base->base.Ns mainGlobals mg->cF l.prog w K mg base (fu l.prog w) true 60 fa fd ["_law_script"] (u5 K):=by
 have Tp:Top K mg:=zlG S LH X G;have e:=Dk.symm.trans Tp.Om.m;cases e;exact⟨_,CV Tp.Om.f (λ_ _ _ _ _ _ _=>rfl),λbase _ _=>(zik Tp 60).t43.imp (ziT hm)⟩
end dZ
namespace dZ
open PySem Mi
theorem zhy{k:Nat}{n i:Int}{ps:List (Int×Int)}(h:Web n ps):W (call aq T (k+1) true 9 [.d (jg n ps),.d (.int i)]) [] λv s=>v=.d (.tup ((bM i ps).map .int)):=by
 refine W.call T_9 rfl ?_;unfold b9 jg;have hl:(ps.map lB).length<=100:=by rw[fW];have:=h.len;have:=h.h8;lia
 have hs:(100:Nat)<=sizeLine:=by decide
 refine Y ?_;refine v9 (l:=ps) (f:=lB) (λp=>(endOf i p).map .int) (by rw[fW] at hl;lia) ?_ (λp hp=>?_) ?_
 ·refine Y ?_;exact⟨rfl,rfl⟩
 ·obtain⟨a,b⟩:=p;refine Y ?_;refine⟨rfl,λhb=>?_,λhb=>?_⟩
  ·refine Y ?_;refine W.ite (λh1=>?_) (λh1=>?_)
   ·refine Y ?_;refine⟨rfl,_,rfl,?_⟩;have h1:a=i:=by simpa using h1
    simp[endOf,h1]
   ·refine Y ?_;refine⟨rfl,_,rfl,?_⟩;simp[nR] at h1 hb;rcases hb with hb|hb
    ·exact absurd hb h1
    ·simp[endOf,h1,hb]
  ·simp[nR] at hb;simp[endOf,hb]
 ·have he:ps.filterMap (λp=>(endOf i p).map D.int)=(bM i ps).map D.int:=by unfold bM;rw[List.map_filterMap]
  rw[he];refine Y ?_;refine Tn (zfU (zhN ?_ (Z0 h i))) ?_
  ·have:=OJ (endOf i) ps;have:=h.len;have:=h.h8;unfold bM
   lia
  exact Y trivial
section
variable {al:Bool}{n k:Nat}{es:Nat->List Int}{A:Int->Int->Bool}{F:Fr}{p:Nat}{x y:Int}
theorem znp{k':Nat}(hx:0<=x/\x<k)(hy:0<=y/\y<k):W (call aq T (k'+1) true 12 [.d (jy al n k es A),.d (.int x),.d (.int y)]) [] λv s=>v=.d (.bl (A x y)):=by
 refine W.call zn4 rfl ?_;unfold Ur jy;refine Y ?_;refine mC (yu hx.1 (znJ hx.1 hx.2)) ?_;refine Y ?_;refine mC (yu hy.1 (Ui hy.1 hy.2)) ?_;exact Y trivial
theorem KZ{k':Nat}(B:Bo n k es A)(v:Fv n k F)(hp:p<n)(hx:0<=x/\x<k):W (call aq T (k'+2) true 13 [.d (jy al n k es A),.d (jx F),.d (.int p),.d (.int x)]) [] λv s=>v=.d (jx (settle es A F p x)):=by
 refine W.call znX rfl ?_;unfold Us jx;have yF:(100:Nat)<=sizeLine:=by decide
 have hn:=B.hn;have hv:=v.len;have ebo:jy al n k es A=.ob 0 [.fl (Dq n es),.tup ((dY k).map .int),.fl (wj k A),.bl al]:=rfl;refine Y ?_;refine KaU rfl ?_;refine Y ?_;refine⟨_,ziG gV (by rw[fW];lia),?_⟩;refine Y ?_;refine mC (yu gV (zly gV)) ?_;refine Y ?_;refine Ny (λi J s=>s=[.lst ((((es p).take i).foldl (gC (A x)) (F.set p none)).map bJ)]/\∃a5:Option Xv,J=[some (.d (jy al n k es A)),some (.d (.tup (F.map bJ))),some (.d (.int p)),some (.d (.int x)),some (.l 0),a5]) ⟨?_,_,rfl⟩ (λi z J s e hI=>?_) (λJ s hI=>?_)
 ·show [SO.lst ((F.map bJ).set p .non)]=_;rw[List.take_zero,List.foldl_nil,List.map_set];rfl
 ·obtain⟨rfl,a5,rfl⟩:=hI;rw[jP] at e;cases ei:(es p)[i]? with
  |none=>
   rw[rJ,ei] at e;cases e
  |some q=>
   rw[rJ,ei] at e;cases e;have hq:=B.mem p hp q (gJ ei);have ht:(es p).take (i+1)=(es p).take i++[q]:=by rw[List.take_succ,ei];rfl
   rw[ht,List.foldl_append,List.foldl_cons,List.foldl_nil];have hG:(((es p).take i).foldl (gC (A x)) (F.set p none)).length=n:=by rw[Uc,pI,hv]
   have lo:∀L,(((es p).take i).foldl (gC (A x)) (F.set p none))[q.toNat]?=some (some L)->(∀y∈L,0<=y/\y<k)/\L.length<=24:=λL hL=>by
    rw[Ud q.toNat (λe he=>(B.mem p hp e (List.mem_of_mem_take he)).1) (by rw[pI];lia),qH gV] at hL;have hz:∀L',F[q.toNat]?=some (some L')->(∀y∈L',0<=y/\y<k)/\L'.length<=24:=λL' h=>⟨v.lo _ L' h,v.ll _ L' h⟩;split at hL
    ·obtain⟨c,e1,e2⟩:=kZ.mp hL;cases c with
     |none=>cases e2
     |some L'=>
      cases e2;exact⟨λy hy=>(hz L' e1).1 y (mF.mp hy).1,jQ (List.length_filter_le _ _) (hz L' e1).2⟩
    ·exact hz L hL
   generalize ((es p).take i).foldl (gC (A x)) (F.set p none)=G at hG lo ⊢;obtain⟨c,ec⟩ : ∃c,G[q.toNat]?=some c:=⟨_,fj gV⟩;refine Y ?_;refine mC (yu hq.1 (Kz ec)) ?_;refine Y ?_;cases c with
   |none=>
    refine Y ?_;exact⟨_,rfl,by rw[zhj ec],_,rfl⟩
   |some L=>
    obtain⟨l1,l2⟩:=lo L ec;refine Y ?_;refine v9 (l:=L) (f:=D.int) (λy=>if A x y=true then some (.int y) else none) gV ?_ (λy hy=>?_) ?_
    ·refine Y ?_;refine mC (yu hq.1 (Kz ec)) ?_;show W (src (.d (.tup (L.map .int)))) _ _;refine Y ?_;exact⟨rfl,rfl⟩
    ·refine Y ?_;refine W.cm rfl rfl (W.c0 (znp hx (l1 y hy)) ?_);refine Y ?_;refine⟨rfl,λhb=>?_,λhb=>?_⟩
     ·refine Y ?_;exact⟨rfl,_,rfl,by rw[if_pos hb]⟩
     ·rw[if_neg (by rw[hb];decide)]
    ·rw[zdl (α:=Unit)];refine Y ?_;refine⟨_,ziG hq.1 (by rw[fW];lia),?_⟩;refine Y ?_;refine⟨_,rfl,?_,_,rfl⟩;rw[zj6,ec];rfl
 ·obtain⟨rfl,a5,rfl⟩:=hI;rw[fW,rJ,Gv];refine Y ?_;rfl
theorem ziD{k':Nat}(B:Bo n k es A)(v:Fv n k F)(hp:p<n):W (call aq T (k'+1) true 14 [.d (jy al n k es A),.d (jx F),.d (.int p)]) [] λv s=>v=.d (.int (dO es F p)):=by
 refine W.call zn7 rfl ?_;unfold Ut jx jy;have yF:(100:Nat)<=sizeLine:=by decide
 have hn:=B.hn;have hv:=v.len;have hl:=B.len p hp;refine Y ?_;refine v9 (l:=es p) (f:=D.int) (λe=>if ((λe:Int=>(F[e.toNat]?.join).isSome) e)=true then some (.int e) else none) gV ?_ (λe he=>?_) ?_
 ·refine Y ?_;refine mC (yu gV (zly gV)) ?_;rw[rJ];refine Y ?_;exact⟨rfl,rfl⟩
 ·have hq:=B.mem p hp e he;obtain⟨c,ec⟩ : ∃c,F[e.toNat]?=some c:=⟨_,fj gV⟩;refine Y ?_;refine mC (yu hq.1 (Kz ec)) ?_;refine Y ?_;have hc:(F[e.toNat]?.join).isSome=c.isSome:=by rw[ec];rfl
  have hd:(!(bJ c).uM)=c.isSome:=by cases c<;>rfl
  rw[hd];refine⟨rfl,λhb=>?_,λhb=>?_⟩
  ·refine Y ?_;exact⟨rfl,_,rfl,if_pos (hc.trans hb)⟩
  ·exact if_neg (λz=>by rw[hc.symm.trans z] at hb;cases hb)
 ·rw[zdl (α:=Unit)];refine Y ?_;show Xv.d (.int (((((es p).filter _).map D.int).length:Nat):Int))=_;rw[fW];rfl
theorem zj0{k':Nat}(B:Bo n k es A)(v:Fv n k F):W (call aq T (k'+2) true 15 [.d (jy al n k es A),.d (jx F)]) [] λv s=>v=.d (jx (bnd es F)):=by
 refine W.call znY rfl ?_;unfold Uu;have yF:(100:Nat)<=sizeLine:=by decide
 have hn:=B.hn;have hv:=v.len;refine Y ?_;refine v9 (l:=F.zipIdx 0) (f:=λq=>.tup [.int q.2,bJ q.1]) (λq=>some (bJ (if 0<dO es F q.2 then q.1 else none))) (by rw[List.length_zipIdx];lia) ?_ (λq hq=>?_) ?_
 ·refine ZP ?_;refine Y ?_;refine KaJ ?_;rw[zbA];exact⟨rfl,rfl⟩
 ·obtain⟨c,i⟩:=q;have hi:i<n:=by
   have:=List.mem_zipIdx hq
   lia
  refine Y ?_;refine⟨rfl,λ_=>?_,λhb=>by cases hb⟩;refine Y ?_;refine W.cm rfl rfl (W.c0 (ziD B v hi) ?_);refine Y ?_;refine W.ite (λh1=>?_) (λh1=>?_)
  ·refine Y ?_;have h1:0<dO es F i:=by simpa using h1
   exact⟨rfl,_,rfl,by rw[if_pos h1]⟩
  ·refine Y ?_;have h1:¬0<dO es F i:=by simpa using h1
   exact⟨rfl,_,rfl,by rw[if_neg h1];rfl⟩
 ·rw[Dg];refine Y ?_;show Xv.d (.tup _)=_;unfold jx bnd;rw[List.mapIdx_eq_zipIdx_map,GC];rfl
end
section
variable {al:Bool}{n k:Nat}{es:Nat->List Int}{A:Int->Int->Bool}{F:Fr}{p:Nat}{x y:Int}
theorem V0{k':Nat}(B:Bo n k es A)(v:Fv n k F):W (call aq T (k'+2) true 16 [.d (jy al n k es A),.d (jx F)]) [] λv s=>(v=.d .non/\∀(i:Nat) L,F[i]?≠some (some L))\/∃(p:Nat) (L:List Int),v=.d (.int p)/\F[p]?=some (some L):=by
 refine W.call zn5 rfl ?_;unfold Uv;have yF:(100:Nat)<=sizeLine:=by decide
 have hn:=B.hn;have hv:=v.len;refine Y ?_;refine KaJ ?_;refine Ny (λi J s=>∃(rs:List (List Int)) (a3 a4:Option Xv),s=[.lst (rs.map λr=>D.tup (r.map .int))]/\J=[some (.d (jy al n k es A)),some (.d (jx F)),some (.l 0),a3,a4]/\rs.length<=i/\(∀r∈rs,∃(a b:Int) (p:Nat) (L:List Int),r=[a,b,(p:Int)]/\F[p]?=some (some L))/\(rs=[]->∀j,j<i->∀L,F[j]?≠some (some L))) ⟨[],_,_,rfl,rfl,cj _,by simp,λ_ j hj=>absurd hj gV⟩ (λi z J s e hI=>?_) (λJ s hI=>?_)
 ·obtain⟨rs,a3,a4,rfl,rfl,hl,h1,h2⟩:=hI;rw[ZW,jP] at e;cases ei:F[i]? with
  |none=>rw[ei] at e;cases e
  |some c=>
   rw[ei] at e;cases e;have hi:i<n:=by have:=(fX.mp ei).1;lia
   cases c with
   |none=>
    refine Y ?_;refine⟨_,rfl,rs,_,_,rfl,rfl,by lia,h1,λer j hj L=>?_⟩;by_cases z:j=i
    ·rw[z,ei];exact λq=>by cases q
    ·exact h2 er j gV L
   |some L=>
    refine Y ?_;refine W.cm rfl rfl (W.c0 (ziD (p:=0+i) B v gV) ?_);refine Y ?_;refine⟨by rw[fW];lia,?_⟩;refine Y ?_;refine⟨_,rfl,rs++[[(((L.map D.int).length:Nat):Int),-(dO es F (0+i):Int),((0+i:Nat):Int)]],_,_,?_,rfl,by simp;lia,λr hr=>?_,λer=>by simp at er⟩
    ·rw[DP];rfl
    ·rcases nG.mp hr with hr|hr
     ·exact h1 r hr
     ·rw[rH.mp hr];exact⟨_,_,i,L,by rw[Nat.zero_add],ei⟩
 ·obtain⟨rs,a3,a4,rfl,rfl,hl,h1,h2⟩:=hI;rw[ZX,fW] at h2;refine Y ?_;refine W.BZ ?_;refine Y ?_;refine⟨_,rfl,?_⟩;by_cases er:rs=[]
  ·subst er;refine Y ?_;refine .inl ⟨rfl,λi L e=>?_⟩;exact h2 rfl i (fX.mp e).1 L e
  ·have et:(!(rs.map λr=>D.tup (r.map .int)).isEmpty)=true:=by
    cases rs with
    |nil=>exact absurd rfl er
    |cons=>rfl
   rw[et];obtain⟨r,hr,em⟩:=zlA er;refine Y ?_;refine mC em ?_;obtain⟨a,b,p,L,rfl,ep⟩:=h1 r hr;refine Y ?_;exact .inr ⟨p,L,rfl,ep⟩
noncomputable def Gd(k:Nat):Option (List Int)->Bool
 |none=>true
 |some L=>decide (L=dY k)
theorem zdN{k':Nat}(B:Bo n k es A)(v:Fv n k F):W (call aq T (k'+1) true 17 [.d (jy al n k es A),.d (jx F)]) [] λv s=>v=.d (.bl (F.all (Gd k))):=by
 refine W.call zog rfl ?_;unfold Uw;have yF:(100:Nat)<=sizeLine:=by decide
 have hn:=B.hn;have hv:=v.len;refine Y ?_;refine v9 (l:=F) (f:=bJ) (λc=>some (.bl (Gd k c))) gV ?_ (λc hc=>?_) ?_
 ·refine Y ?_;show W (src (.d (.tup (F.map bJ)))) _ _;refine Y ?_;exact⟨rfl,rfl⟩
 ·cases c with
  |none=>
   refine Y ?_;refine⟨rfl,λ_=>?_,λhb=>by cases hb⟩;refine Y ?_;exact⟨rfl,_,rfl,rfl⟩
  |some L=>
   refine Y ?_;refine⟨rfl,λ_=>?_,λhb=>by cases hb⟩;refine Y ?_;refine mC (zmM (f:=id)) ?_;exact⟨rfl,_,rfl,rfl⟩
 ·rw[Dg];refine Y ?_;refine mC zlb ?_;rfl
end
section
variable {n k d:Int}{ps:List (Int×Int)}
theorem zgS{k':Nat}(h:Web n ps):W (call aq T (k'+2) true 10 [.d (jg n ps)]) [] λv s=>v=.d (.fl (Dq n.toNat λi=>bM i ps)):=by
 refine W.call zoa rfl ?_;unfold b10;have yF:(100:Nat)<=sizeLine:=by decide
 have h1:=h.h1;have h8:=h.h8;refine Y ?_;refine v9 (l:=List.range (n-0).toNat) (f:=λ(j:Nat)=>.int (0+j)) (λ(i:Nat)=>some (.tup ((bM i ps).map .int))) (by rw[vJ];lia) ?_ (λj hj=>?_) ?_
 ·unfold jg;refine Y ?_;refine⟨by rw[tX gV gV,tX gV gV];rfl,?_⟩;exact⟨rfl,rfl⟩
 ·refine Y ?_;refine⟨rfl,λ_=>?_,λhb=>by cases hb⟩;refine Y ?_;refine W.c0 (zhy h) ?_;exact⟨rfl,_,rfl,by rw[show (0:Int)+j=j by lia]⟩
 ·rw[show (List.range (n-0).toNat).filterMap (λ(i:Nat)=>some (D.tup ((bM i ps).map .int)))=Dq n.toNat λi=>bM i ps by rw[Dg,show n-0=n by lia];rfl];exact Y trivial
theorem zkn{k':Nat}{al:Bool}{A:Int->Int->Bool}(h:Web n ps){m:Nat}(hm:m<=24):W (call aq T (k'+3) true 11 [.d .any,.d (jg n ps),.d (.fl (wj m A)),.d (.bl al)]) [] λv s=>v=.d (.tup [.fl (Dq n.toNat λi=>bM i ps),.tup ((dY m).map .int),.fl (wj m A),.bl al]):=by
 refine W.call zn3 rfl ?_;unfold Uq;refine Y ?_;refine W.c0 (zgS h) ?_;have em:(wj m A).length=m:=by unfold wj;simp
 refine ZD (ZM (ds:=[.int ((wj m A).length:Nat)]) rfl (mC (d:=.tup ((dY m).map .int)) (by rw[em];exact zne gV) ?_));exact Y trivial
theorem zjF{k':Nat}(h:Web n ps)(hd:1<=d)(Gf:d<=k)(hk:k<=24):W (call aq T (k'+4) true 18 [.d (jg n ps),.d (kJ k d)]) [] λv s=>v=.d (boD n.toNat k.toNat (λi=>bM i ps) (cX k d)):=by
 refine W.call zoe rfl ?_;unfold Ux kJ;have yF:(100:Nat)<=sizeLine:=by decide
 have e0:(k-0).toNat=k.toNat:=by lia
 refine Y ?_;refine v9 (l:=List.range (k-0).toNat) (f:=λ(j:Nat)=>.int (0+j)) (λ(j:Nat)=>some (.bl ((λj:Int=>decide (d<=j/\d<=k-j)) j))) (by rw[vJ];lia) ?_ (λj hj=>?_) ?_
 ·refine Y ?_;refine⟨by rw[tX gV gV,tX gV gV];rfl,?_⟩;exact⟨rfl,rfl⟩
 ·refine Y ?_;refine⟨rfl,λ_=>?_,λhb=>by cases hb⟩;refine Y ?_;refine⟨rfl,_,rfl,?_⟩
  congr 2
  rw[wz]
  split<;>lia
 ·rw[Dg,e0];refine Y ?_;refine W.mk (vs:=[.d (jg n ps),.d (.fl (wj k.toNat (cX k d))),.d (.bl true)]) ?_ rfl (zkn h gV);refine Y ?_;refine v9 (l:=List.range (k-0).toNat) (f:=λ(j:Nat)=>.int (0+j)) (λ(a:Nat)=>some (.fl ((List.range k.toNat).map λ(b:Nat)=>.bl (cX k d a b)))) (by rw[vJ];lia) ?_ (λa ha=>?_) ?_
  ·refine Y ?_;refine⟨by rw[tX gV gV,tX gV gV];rfl,?_⟩;exact⟨rfl,rfl⟩
  ·have ha:=Am.mp ha;refine Y ?_;refine⟨rfl,λ_=>?_,λhb=>by cases hb⟩;refine Y ?_;refine v9 (l:=List.range (k-0).toNat) (f:=λ(j:Nat)=>.int (0+j)) (λ(b:Nat)=>some (.bl (cX k d a b))) (by rw[vJ];lia) ?_ (λb hb=>?_) ?_
   ·refine Y ?_;refine⟨by rw[tX gV gV,tX gV gV];rfl,?_⟩;exact⟨rfl,rfl⟩
   ·have hb:=Am.mp hb;refine Y ?_;refine⟨rfl,λ_=>?_,λhb=>by cases hb⟩;refine Y ?_;by_cases c:(0:Int)<=(0+a:Int)-(0+b)
    ·refine mC (yu c (Ui (f:=λj=>decide (d<=j/\d<=k-j)) c gV)) ?_;refine⟨rfl,_,rfl,?_⟩;unfold cX
     congr 2
     rw[wz,FQ hd]
     lia
    ·refine mC (znx (x:=.bl (decide (d<=a-b+k/\d<=k-(a-b+k)))) gV (by rw[fW,vJ];lia) ?_) ?_
     ·rw[fW,vJ];refine(Ui (f:=λj=>decide (d<=j/\d<=k-j)) gV gV).trans ?_
      congr 3
      simp
      lia
     ·refine⟨rfl,_,rfl,?_⟩;unfold cX
      congr 2
      rw[wz,FQ hd]
      lia
   ·rw[Dg,e0];refine Y ?_;exact⟨rfl,_,rfl,rfl⟩
  ·rw[Dg,e0];refine Y ?_;exact⟨rfl,rfl⟩
end
theorem zjR{k:Nat}{i:Int}:W (call aq T (k+1) true 0 [.d (.int i)]) [] λv s=>v=.d (.bl true):=W.eq (a:=.d (.bl true)) (s':=[]) rfl rfl
theorem V1{k:Nat}{a b:D}:W (call aq T (k+1) true 2 [.d (.tup [a,b]),.d (.int 2)]) [] λv s=>v=.d (.bl true):=W.eq (a:=.d (.bl true)) (s':=[]) rfl rfl
theorem iK{k:Nat}{i a b:Int}:W (call aq T (k+2) true 1 [.d (.int i),.d (.int a),.d (.int b)]) [] λv s=>v=.d (.bl (decide (a<=i/\i<=b))):=by
 refine W.call T_1 rfl ?_;unfold b1;refine Y ?_;refine W.c0 zjR ?_;refine Y ?_;refine W.ite (λh1=>?_) (λh1=>?_)
 ·refine Y ?_;have:=lC h1;simp[this]
 ·refine Y ?_;simp at h1;have:¬(a<=i/\i<=b):=by lia
  simp[this]
theorem zkJ{k:Nat}{i:Int}(h1:1<=i)(h2:i<=8):W (call aq T (k+3) true 4 [.d (.int i)]) [] λv s=>v=.d (.bl true):=by
 refine W.call T_4 rfl ?_;unfold b4;refine Y ?_;exact vo rfl (iK.imp λv s e=>⟨_,e,by rw[nH (And.intro h1 h2)]⟩)
theorem zfI{k:Nat}{n i:Int}:W (call aq T (k+3) true 5 [.d (.int n),.d (.int i)]) [] λv s=>v=.d (.bl (decide (0<=i/\i<n))):=by
 refine W.call T_5 rfl ?_;unfold b5;refine Y ?_;exact vo rfl (iK.imp λv s e=>⟨_,e,by rw[wz.mpr (show 0<=i/\i<=n-1↔0<=i/\i<n by lia)]⟩)
theorem zng{k:Nat}{n:Int}{p:Int×Int}(h:0<=p.1/\p.1<p.2/\p.2<n):W (call aq T (k+4) true 6 [.d (.int n),.d (lB p)]) [] λv s=>v=.d (.bl true):=by
 obtain⟨a,b⟩:=p;obtain⟨h1,h2,h3⟩:=h;unfold lB;dsimp only at h1 h2 h3 ⊢;refine W.call T_6 rfl ?_;unfold b6;refine Y ?_;refine W.c0 V1 ?_;refine Y ?_;refine W.c0 zfI ?_;rw[nH (show 0<=a/\a<n by lia)];refine Y ?_;refine W.c0 zfI ?_;rw[nH (show 0<=b/\b<n by lia)];refine Y ?_;rw[nH h2]
theorem ziS{k:Nat}{n:Int}{ps:List (Int×Int)}(h:Web n ps):W (call aq T (k+5) true 3 [.d (jg n ps)]) [] λv s=>v=.d (.bl true):=by
 refine W.call T_3 rfl ?_;unfold b3 jg;have hl:(ps.map lB).length<=100:=by rw[fW];have:=h.len;have:=h.h8;lia
 have hs:(100:Nat)<=sizeLine:=by decide
 refine Y ?_;refine W.c0 V1 ?_;refine Y ?_;refine W.c0 (zkJ h.h1 h.h8) ?_;refine Y ?_;refine ZQ (c:=ps.map lB) (λ_=>.bl true) gV ?_ (λx hx=>?_) ?_
 ·refine Y ?_;exact⟨rfl,rfl⟩
 ·obtain⟨p,hp,rfl⟩:=qI.mp hx;refine Y ?_;exact vo rfl ((zng (h.tie p hp)).imp λv s e=>⟨_,e,rfl,rfl⟩)
 ·refine Y ?_;refine mC (ZS ?_) ?_
  ·intro x hx;obtain⟨_,_,e⟩:=qI.mp hx;exact e.symm
  refine Y ?_;refine ZQ (c:=List.zipWith (λ(p q:D)=>D.tup [p,q]) (ps.map lB) ((ps.map lB).drop 1)) (λ_=>.bl true) (by rw[List.length_zipWith];lia) ?_ (λx hx=>?_) ?_
  ·refine Y ?_;rw[TJ];exact⟨rfl,rfl⟩
  ·obtain⟨p,q,rfl,hpq⟩:=ZV h.inc x hx;refine Y ?_;rw[zm2 hpq];exact⟨rfl,rfl⟩
  ·refine Y ?_;refine mC (ZS ?_) ?_
   ·intro x hx;obtain⟨_,_,e⟩:=qI.mp hx;exact e.symm
   rfl
theorem zhv{k:Nat}{n:Int}{ps:List (Int×Int)}(h:Web n ps):W (call aq T (k+6) true 7 [.d (jg n ps)]) [] λv s=>∃d,v=.d d:=by
 refine W.call T_7 rfl ?_;unfold b7;refine Y ?_;refine W.c0 (ziS h) ?_;refine Y ?_;exact⟨_,rfl⟩
theorem zg5{k':Nat}{k d:Int}(hd:1<=d)(Gf:d<=k)(hk:k<=24):W (call aq T (k'+3) true 19 [.d (kJ k d)]) [] λv s=>v=.d (.bl true):=by
 refine W.call znT rfl ?_;unfold Uy kJ;refine Y ?_;refine W.c0 V1 ?_;refine Y ?_;refine W.c0 iK ?_;rw[nH (show 1<=k/\k<=24 by lia)];refine Y ?_;refine W.c0 iK ?_;rw[nH (show 1<=d/\d<=k by lia)]
theorem zfY{k':Nat}{k d:Int}(hd:1<=d)(Gf:d<=k)(hk:k<=24):W (call aq T (k'+4) true 20 [.d (kJ k d)]) [] λv s=>∃d,v=.d d:=by
 refine W.call znZ rfl ?_;unfold Uz;refine Y ?_;refine W.c0 (zg5 hd Gf hk) ?_;refine Y ?_;exact⟨_,rfl⟩
section
variable {al:Bool}{n k:Nat}{es:Nat->List Int}{A:Int->Int->Bool}
def Told(al:Bool)(n k:Nat)(es:Nat->List Int)(A:Int->Int->Bool)(f l m c:Nat):Prop:=∀F kvs,Fv n k F->unset F<=m->lJ es A kvs->kvs.length+c<sizeLine->
 W (call aq T l true f [.d (jy al n k es A),.l 0,.d (jx F)]) [.dct kvs] λv s=>∃b kvs',v=.d (.bl b)/\(b=true↔Sat es A F)/\s=[.dct kvs']/\lJ es A kvs'/\kvs'.length<=kvs.length+c
theorem V2{l m c:Nat}(B:Bo n k es A)(H:Told al n k es A 25 (l+2) m c){F:Fr}{p:Nat}{L:List Int}{kvs:iQ}(v:Fv n k F)(hu:unset F<=m+1)(hL:F[p]?=some (some L))(ha:lJ es A kvs)(hl:kvs.length+k*c<sizeLine) :
  W (call aq T (l+3) true 24 [.d (jy al n k es A),.l 0,.d (jx F),.d (.int p)]) [.dct kvs] λv s=>∃kvs',s=[.dct kvs']/\lJ es A kvs'/\kvs'.length<=kvs.length+k*c /\
   ((v=.d .non/\∀x∈L,¬Sat es A (settle es A F p x))\/∃x∈L,v=.d (.int x)/\Sat es A (settle es A F p x)/\∀y∈L,y<x->¬Sat es A (settle es A F p y)):=by
 refine W.call U_ rfl ?_;unfold Oe;have yF:(100:Nat)<=sizeLine:=by decide
 have hp:=rE v.len hL;have hLk:L.length<=k:=zir (v.so p L hL) (v.lo p L hL);refine Y ?_;refine mC (zlC gV (Kz hL)) ?_;show W (src (.d (.tup (L.map .int)))) _ _;refine Y ?_;refine Ka6 (λi J s=>∃(kvs':iQ) (a4:Option Xv),s=[.dct kvs']/\J=[some (.d (jy al n k es A)),some (.l 0),some (.d (jx F)),some (.d (.int p)),a4]/\lJ es A kvs'/\kvs'.length<=kvs.length+i*c/\∀j y,j<i->L[j]?=some y->¬Sat es A (settle es A F p y)) ⟨kvs,_,rfl,rfl,ha,by lia,λj _ hj=>absurd hj gV⟩ (λi z J s e hI=>?_) (λJ s hI=>?_)
 ·obtain⟨kvs',a4,rfl,rfl,h1,h2,h3⟩:=hI;rw[jP] at e;cases ei:L[i]? with
  |none=>rw[ei] at e;cases e
  |some x=>
   rw[ei] at e;cases e;have hi:i<L.length:=(fX.mp ei).1;have hx:=gJ ei;have hc:(i+1)*c<=k*c:=K_ _ gV;have nJ:(i+1)*c=i*c+c:=Nat.succ_mul ..;refine Y ?_;refine W.cm rfl rfl (W.c0 (KZ B v hp (v.lo p L hL x hx)) ?_);refine Y ?_;have hu2:=Ky (es:=es) (A:=A) (x:=x) hL;refine yt (s:=[]) rfl ((H _ kvs' (Kw B v hp) gV h1 gV).imp λv1 s1=>?_);rintro⟨b,dF,rfl,hb,rfl,g1,g2⟩;refine⟨_,_,rfl,rfl,?_⟩;refine Y ?_;cases b with
   |true=>
    refine Y ?_;refine .inr ⟨_,rfl,?_⟩;refine⟨dF,rfl,g1,by lia,.inr ⟨x,hx,rfl,hb.mp rfl,λy hy cJ=>?_⟩⟩;obtain⟨j,hj,ej⟩:=yN hy;refine h3 j y ?_ (by rw[fj hj,ej]);obtain⟨_,ex⟩:=fX.mp ei;exact Nat.lt_of_not_le λq=>by
     rcases Nat.lt_or_eq_of_le q with q|q
     ·have:=List.pairwise_iff_getElem.mp (v.so p L hL) i j hi hj q
      lia
     ·subst q;lia
   |false=>
    refine Y ?_;refine .inl ⟨_,rfl,dF,_,rfl,rfl,g1,by lia,λj y hj ej=>?_⟩;by_cases q:j=i
    ·subst q;rw[ei] at ej;cases ej;exact λz=>by cases hb.mpr z
    ·exact h3 j y gV ej
 ·obtain⟨kvs',a4,rfl,rfl,h1,h2,h3⟩:=hI;rw[fW] at h2 h3;have hc:L.length*c<=k*c:=K_ _ hLk;refine Y ?_;refine⟨kvs',rfl,h1,by lia,.inl ⟨rfl,λx hx=>?_⟩⟩;obtain⟨j,hj,ej⟩:=yN hx;exact h3 j x hj (by rw[fj hj,ej])
theorem zhq{l:Nat}(B:Bo n k es A):Told al n k es A 26 (l+3) 0 0:=by
 intro F kvs v hu ha hl;refine W.call Og rfl ?_;unfold KH;refine Y ?_;refine W.cm rfl rfl (vo rfl ((V0 B v).imp λx s=>?_));rintro(⟨rfl,hz⟩|⟨p,L,rfl,hL⟩)
 ·refine⟨_,rfl,?_⟩;refine Y ?_;exact⟨true,kvs,rfl,⟨λ_=>Ue hz,λ_=>rfl⟩,rfl,ha,by lia⟩
 ·exact absurd hL (zfg gV p L)
theorem zhO{l m c:Nat}(B:Bo n k es A)(nF:1<=k)(dM:al=true->∀t a b:Int,0<=a->a<k->0<=b->b<k->A ((a+t)%k) ((b+t)%k)=A a b)(H:∀j,Told al n k es A 25 (l+2+j) m c):Told al n k es A 26 (l+4) (m+1) (k*c):=by
 intro F kvs v hu ha hl;refine W.call Og rfl ?_;unfold KH;have hkc:1*c<=k*c:=K_ _ nF;refine Y ?_;refine W.cm rfl rfl (vo rfl ((V0 B v).imp λx s=>?_));rintro(⟨rfl,hz⟩|⟨p,L,rfl,hL⟩)
 ·refine⟨_,rfl,?_⟩;refine Y ?_;exact⟨true,kvs,rfl,⟨λ_=>Ue hz,λ_=>rfl⟩,rfl,ha,by lia⟩
 ·refine⟨_,rfl,?_⟩;have hp:=rE v.len hL;cases al with
  |false=>
   refine Y ?_;refine yt (s:=[]) rfl ((V2 B (H 0) v hu hL ha gV).imp λv1 s1=>?_);rintro⟨dF,rfl,g1,g2,h⟩;rcases h with ⟨rfl,pW⟩|⟨x,hx,rfl,hs,_⟩
   ·refine⟨_,_,rfl,rfl,?_⟩;refine Y ?_;refine⟨false,dF,rfl,⟨λz=>(by cases z),λz=>?_⟩,rfl,g1,g2⟩;obtain⟨x,hx,q⟩:=(Ga B v hp hL).mp z;exact absurd q (pW x hx)
   ·refine⟨_,_,rfl,rfl,?_⟩;refine Y ?_;exact⟨true,dF,rfl,⟨λ_=>(Ga B v hp hL).mpr ⟨x,hx,hs⟩,λ_=>rfl⟩,rfl,g1,g2⟩
  |true=>
  have dM:=dM rfl;refine Y ?_;refine W.cm rfl rfl (W.c0 (zdN B v) ?_);refine Y ?_;cases eb:F.all (Gd k) with
  |true=>
   have all:∀(i:Nat) L,F[i]?=some (some L)->L=dY k:=λi L h=>lC (gY.mp eb _ (gJ h));refine Y ?_;refine W.cm rfl rfl (W.c0 (KZ B v hp ⟨by lia,by lia⟩) ?_);refine Y ?_;have hu2:=Ky (es:=es) (A:=A) (x:=0) hL;refine yt (s:=[]) rfl ((H 1 _ kvs (Kw B v hp) gV ha gV).imp λv1 s1=>?_);rintro⟨b,dF,rfl,hb,rfl,g1,g2⟩;refine⟨_,_,rfl,rfl,?_⟩;refine Y ?_;exact⟨b,dF,rfl,hb.trans (Ug B v hp nF dM all (all p L hL▸hL)).symm,rfl,g1,by lia⟩
  |false=>
   refine Y ?_;refine yt (s:=[]) rfl ((V2 B (H 0) v hu hL ha gV).imp λv1 s1=>?_);rintro⟨dF,rfl,g1,g2,h⟩;rcases h with ⟨rfl,pW⟩|⟨x,hx,rfl,hs,_⟩
   ·refine⟨_,_,rfl,rfl,?_⟩;refine Y ?_;refine⟨false,dF,rfl,⟨λz=>(by cases z),λz=>?_⟩,rfl,g1,g2⟩;obtain⟨x,hx,q⟩:=(Ga B v hp hL).mp z;exact absurd q (pW x hx)
   ·refine⟨_,_,rfl,rfl,?_⟩;refine Y ?_;exact⟨true,dF,rfl,⟨λ_=>(Ga B v hp hL).mpr ⟨x,hx,hs⟩,λ_=>rfl⟩,rfl,g1,g2⟩
theorem zg1{l m c:Nat}(B:Bo n k es A)(nF:1<=k)(dM:∀t a b:Int,0<=a->a<k->0<=b->b<k->A ((a+t)%k) ((b+t)%k)=A a b)(H:Told true n k es A 25 (l+3) m c){F:Fr}{kvs:iQ}(v:Fv n k F)(hu:unset F<=m+1)(eb:F.all (Gd k)=true)(ha:lJ es A kvs)(hl:kvs.length+c<sizeLine) :
  W (call aq T (l+4) true 26 [.d (jy true n k es A),.l 0,.d (jx F)]) [.dct kvs] λv s=>∃b kvs',v=.d (.bl b)/\(b=true↔Sat es A F)/\s=[.dct kvs']/\lJ es A kvs'/\kvs'.length<=kvs.length+c:=by
 refine W.call Og rfl ?_;unfold KH;refine Y ?_;refine W.cm rfl rfl (vo rfl ((V0 B v).imp λx s=>?_));rintro(⟨rfl,hz⟩|⟨p,L,rfl,hL⟩)
 ·refine⟨_,rfl,?_⟩;refine Y ?_;exact⟨true,kvs,rfl,⟨λ_=>Ue hz,λ_=>rfl⟩,rfl,ha,by lia⟩
 ·refine⟨_,rfl,?_⟩;have hp:=rE v.len hL;refine Y ?_;refine W.cm rfl rfl (W.c0 (zdN B v) ?_);refine Y ?_;have all:∀(i:Nat) L,F[i]?=some (some L)->L=dY k:=λi L h=>lC (gY.mp eb _ (gJ h));rw[eb];refine Y ?_;refine W.cm rfl rfl (W.c0 (KZ B v hp ⟨by lia,by lia⟩) ?_);refine Y ?_;have hu2:=Ky (es:=es) (A:=A) (x:=0) hL;refine yt (s:=[]) rfl ((H _ kvs (Kw B v hp) gV ha gV).imp λv1 s1=>?_);rintro⟨b,dF,rfl,hb,rfl,g1,g2⟩;refine⟨_,_,rfl,rfl,?_⟩;refine Y ?_;exact⟨b,dF,rfl,hb.trans (Ug B v hp nF dM all (all p L hL▸hL)).symm,rfl,g1,by lia⟩
theorem zl3{l c:Nat}(B:Bo n k es A){F:Fr}{kvs:iQ}(v:Fv n k F)(ha:lJ es A kvs)(hl:kvs.length+(1+c)<sizeLine)(H:W (call aq T (l+3) true 26 [.d (jy al n k es A),.l 0,.d (jx (bnd es F))]) [.dct kvs] λv s=>∃b kvs',v=.d (.bl b)/\(b=true↔Sat es A (bnd es F))/\s=[.dct kvs']/\lJ es A kvs'/\kvs'.length<=kvs.length+c) :
  W (call aq T (l+4) true 25 [.d (jy al n k es A),.l 0,.d (jx F)]) [.dct kvs] λv s=>∃b kvs',v=.d (.bl b)/\(b=true↔Sat es A F)/\s=[.dct kvs']/\lJ es A kvs'/\kvs'.length<=kvs.length+(1+c):=by
 refine W.call znR rfl ?_;unfold UL;refine Y ?_;refine mC (znG (f:=id)) ?_;by_cases e0:some []∈F
 ·rw[nH e0];refine Y ?_;obtain⟨i,hi,ei⟩:=yN e0;refine⟨false,kvs,rfl,⟨λz=>(by cases z),λz=>absurd z (ziN (i:=i) (by rw[fj hi,ei]))⟩,rfl,ha,by lia⟩
 ·rw[tY e0];have ne:∀(i:Nat) L,F[i]?=some (some L)->L≠[]:=λi L h q=>by subst q;exact e0 (gJ h)
  have sb:=zjO B v ne;refine Y ?_;refine W.cm rfl rfl (W.c0 (zj0 B v) ?_);refine Y ?_;refine W.sE rfl rfl (N5 _) rfl ?_;cases eg:bL ((bnd es F).map cellK) kvs with
  |some d=>
   obtain⟨b,rfl,hb⟩:=ha _ _ eg;refine Y ?_;refine W.jE rfl rfl (N5 _) rfl eg ?_;refine Y ?_;exact⟨b,kvs,rfl,hb.trans sb,rfl,ha,by lia⟩
  |none=>
   refine Y ?_;refine WS.dput rfl rfl (N5 _) ?_;refine Y ?_;refine yt (s:=[]) rfl (H.imp λv1 s1=>?_);rintro⟨b,dF,rfl,hb,rfl,g1,g2⟩;refine⟨_,_,rfl,rfl,?_⟩;refine⟨_,dF,rfl,rfl,by lia,?_⟩;refine Y ?_;refine W.jE (v:=.bl b) rfl rfl (N5 _) rfl (by rw[zez,if_pos rfl]) ?_;refine Y ?_;have:=zg2 (q:=(bnd es F).map cellK) (d:=.bl b) (kvs:=dF);exact⟨b,_,rfl,hb.trans sb,rfl,zjt g1 hb,by lia⟩
theorem zmb{l m c:Nat}(B:Bo n k es A)(H:Told al n k es A 26 (l+3) m c):Told al n k es A 25 (l+4) m (1+c):=by
 intro F kvs v hu ha hl;have hu2:=zc9 (es:=es) (F:=F);exact zl3 B v ha hl (H _ kvs (zic v) gV ha gV)
theorem Ou(B:Bo n k es A)(nF:1<=k)(dM:al=true->∀t a b:Int,0<=a->a<k->0<=b->b<k->A ((a+t)%k) ((b+t)%k)=A a b):∀m j,Told al n k es A 25 (3*m+4+j) m (cnt k m)
 |0,j=>by
  rw[show 3*0+4+j=j+4 by lia];exact zmb (c:=0) B (zhq B)
 |m+1,j=>by
  rw[show 3*(m+1)+4+j=(3*m+3+j)+4 by lia];refine zmb B ?_;rw[show 3*m+3+j+3=(3*m+2+j)+4 by lia];refine zhO B nF dM λi=>?_;rw[show 3*m+2+j+2+i=3*m+4+(j+i) by lia];exact Ou B nF dM m (j+i)
theorem zgU{m j:Nat}(B:Bo n k es A)(nF:1<=k)(dM:∀t a b:Int,0<=a->a<k->0<=b->b<k->A ((a+t)%k) ((b+t)%k)=A a b){F:Fr}{kvs:iQ}(v:Fv n k F)(hu:unset F<=m+1)(eb:F.all (Gd k)=true)(ha:lJ es A kvs)(hl:kvs.length+(1+cnt k m)<sizeLine) :
  W (call aq T (3*(m+1)+4+j) true 25 [.d (jy true n k es A),.l 0,.d (jx F)]) [.dct kvs] λv s=>∃b kvs',v=.d (.bl b)/\(b=true↔Sat es A F)/\s=[.dct kvs']/\lJ es A kvs'/\kvs'.length<=kvs.length+(1+cnt k m):=by
 rw[show 3*(m+1)+4+j=(3*m+3+j)+4 by lia];refine zl3 B v ha hl ?_;rw[show 3*m+3+j+3=(3*m+2+j)+4 by lia];have hu2:=zc9 (es:=es) (F:=F);refine zg1 B nF dM ?_ (zic v) (jQ hu2 hu) ?_ ha gV
 ·rw[show 3*m+2+j+3=3*m+4+(j+1) by lia];exact Ou B nF (λ_=>dM) m (j+1)
 ·refine gY.mpr λc hc=>?_;cases c with
  |none=>rfl
  |some L=>
   obtain⟨i,hi,ei⟩:=yN hc;have:=Dp (es:=es) (F:=F) (i:=i) (L:=L) (by rw[fj hi,ei]);exact gY.mp eb _ (gJ this.1)
theorem zl8{l m c:Nat}(B:Bo n k es A)(nF:1<=k)(dM:∀t a b:Int,0<=a->a<k->0<=b->b<k->A ((a+t)%k) ((b+t)%k)=A a b)(H:Told true n k es A 25 (l+2) m c){F:Fr}{p:Nat}{kvs:iQ}(v:Fv n k F)(hu:unset F<=m+1)(all:∀(i:Nat) L,F[i]?=some (some L)->L=dY k)(hL:F[p]?=some (some (dY k)))(tG:Sat es A F)(ha:lJ es A kvs)(hl:kvs.length+c<sizeLine) :
  W (call aq T (l+3) true 24 [.d (jy true n k es A),.l 0,.d (jx F),.d (.int p)]) [.dct kvs] λv s=>∃kvs',s=[.dct kvs']/\lJ es A kvs'/\kvs'.length<=kvs.length+c /\
   ((v=.d .non/\∀x∈dY k,¬Sat es A (settle es A F p x))\/∃x∈dY k,v=.d (.int x)/\Sat es A (settle es A F p x)/\∀y∈dY k,y<x->¬Sat es A (settle es A F p y)):=by
 refine W.call U_ rfl ?_;unfold Oe;have hp:=rE v.len hL;have h0:=(Ug B v hp nF dM all hL).mp tG;refine Y ?_;refine mC (zlC gV (Kz hL)) ?_;show W (src (.d (.tup ((dY k).map .int)))) _ _;refine Y ?_;refine Ka6 (λi J s=>i=0/\∃a4:Option Xv,s=[.dct kvs]/\J=[some (.d (jy true n k es A)),some (.l 0),some (.d (jx F)),some (.d (.int p)),a4]) ⟨rfl,_,rfl,rfl⟩ (λi z J s e hI=>?_) (λJ s hI=>?_)
 ·obtain⟨rfl,a4,rfl,rfl⟩:=hI;rw[jP] at e;have ei:(dY k)[0]?=some 0:=by unfold dY;rw[jP,Gk gV];rfl
  rw[ei] at e;cases e;have hx:(0:Int)∈dY k:=bN.mpr ⟨by lia,by lia⟩;refine Y ?_;refine W.cm rfl rfl (W.c0 (KZ B v hp ⟨by lia,by lia⟩) ?_);refine Y ?_;have hu2:=Ky (es:=es) (A:=A) (x:=0) hL;refine yt (s:=[]) rfl ((H _ kvs (Kw B v hp) gV ha gV).imp λv1 s1=>?_);rintro⟨b,dF,rfl,hb,rfl,g1,g2⟩;have eb:b=true:=hb.mpr h0;subst eb;refine⟨_,_,rfl,rfl,?_⟩;refine Y ?_;refine .inr ⟨_,rfl,?_⟩;exact⟨dF,rfl,g1,g2,.inr ⟨0,hx,rfl,h0,λy hy cJ=>absurd (bN.mp hy).1 gV⟩⟩
 ·obtain⟨hz,_⟩:=hI;rw[fW] at hz;have:(dY k).length=k:=by unfold dY;simp
  lia
end
section
variable {al:Bool}{n k:Nat}{es:Nat->List Int}{A:Int->Int->Bool}
theorem ziJ{k':Nat}(B:Bo n k es A)(nF:1<=k)(dM:al=true->∀t a b:Int,0<=a->a<k->0<=b->b<k->A ((a+t)%k) ((b+t)%k)=A a b){F0:Fr}(v0:Fv n k F0)(all:∀i,i<n->∃L,F0[i]?=some (some L)){c0 c1:Nat}(hz:c0+c1+tot k (n-1)<sizeLine)
  (Hc:W (call aq T (3*n+4+k') true 25 [.d (jy al n k es A),.l 0,.d (jx F0)]) [.dct []] λv s=>∃b kvs',v=.d (.bl b)/\(b=true↔Sat es A F0)/\s=[.dct kvs']/\lJ es A kvs'/\kvs'.length<=c0)
  (Hf:∀kvs L,F0[0]?=some (some L)->Sat es A F0->lJ es A kvs->kvs.length<=c0->W (call aq T (3*n+1+k'+3) true 24 [.d (jy al n k es A),.l 0,.d (jx F0),.d (.int (0:Nat))]) [.dct kvs] λv s=>∃kvs',s=[.dct kvs']/\lJ es A kvs'/\kvs'.length<=kvs.length+c1 /\
   ((v=.d .non/\∀x∈L,¬Sat es A (settle es A F0 0 x))\/∃x∈L,v=.d (.int x)/\Sat es A (settle es A F0 0 x)/\∀y∈L,y<x->¬Sat es A (settle es A F0 0 y))) :
  W (call aq T (3*n+5+k') true 23 [.d (jy al n k es A),.d (.fl (F0.map bJ))]) [] λv s=>(v=.d .non/\¬Sat es A F0)\/∃hs:List Int,v=.d (.tup (hs.map .int))/\hs.length=n/\qF es A F0 (λj=>at' hs j)/\∀g,qF es A F0 g->∀j,j<n->(∀t,t<j->g t=at' hs t)->at' hs j<=g j:=by
 have hn:=B.hn;have hl:=v0.len;rw[show 3*n+5+k'=(3*n+4+k')+1 by lia];refine W.call znQ rfl ?_;unfold UJ;have yF:(100:Nat)<=sizeLine:=by decide
 have Jl:unset F0<=n:=by unfold unset;rw[<-hl];exact List.countP_le_length
 refine Y ?_;refine W.oH ?_;refine Y ?_;refine yt (s:=[]) rfl (Hc.imp λv1 s1=>?_);rintro⟨b,kvs,rfl,hb,rfl,g1,g2⟩;refine⟨_,_,rfl,rfl,?_⟩;refine Y ?_;cases b with
 |false=>
  refine Y ?_;exact .inl ⟨rfl,λz=>by cases hb.mpr z⟩
 |true=>
  have tG:=hb.mp rfl;refine Y ?_;have K1:((F0.map bJ).length:Int)=n:=by rw[fW,hl]
  refine⟨by rw[K1,tX gV gV,tX gV gV];rfl,?_⟩;rw[K1];refine Ny (c:=(List.range ((n:Int)-0).toNat).map λ(j:Nat)=>.int (0+j)) (λi J s=>∃(kvs':iQ) (Fi:Fr) (hs:List Int) (a5 a6:Option Xv),s=[.dct kvs',.lst (hs.map .int)]/\J=[some (.d (jy al n k es A)),some (.d (.fl (F0.map bJ))),some (.d (jx Fi)),some (.l 0),some (.l 1),a5,a6]/\lJ es A kvs'/\(i=0->Fi=F0/\kvs'.length<=c0)/\(1<=i->kvs'.length+tot k (n-i)<=c0+c1+tot k (n-1))/\hs.length=i/\Fv n k Fi/\unset Fi<=n-i/\(∀j,i<=j->j<n->∃L,Fi[j]?=some (some L))/\Sat es A Fi /\
   (∀g,qF es A Fi g->qF es A F0 λj=>if j<i then at' hs j else g j)/\(∀g,qF es A F0 g->(∀t,t<i->g t=at' hs t)->qF es A Fi g)/\(∀g,qF es A F0 g->∀j,j<i->(∀t,t<j->g t=at' hs t)->at' hs j<=g j)) ?_ (λi z J s e hI=>?_) (λJ s hI=>?_)
  ·exact⟨kvs,F0,[],_,_,rfl,rfl,g1,λ_=>⟨rfl,g2⟩,λz=>absurd z gV,rfl,v0,by lia,λj _ hj=>all j hj,tG,λg s=>by simpa using s,λg s _=>s,λg _ j hj=>absurd hj gV⟩
  ·obtain⟨kvs',Fi,hs,a5,a6,rfl,rfl,i1,i0,i2,i3,i4,i5,i6,i7,i8,i9,Ov⟩:=hI;rw[jP] at e;cases ei:(List.range ((n:Int)-0).toNat)[i]? with
   |none=>rw[ei] at e;cases e
   |some j=>
    rw[ei] at e;cases e;obtain⟨hil,ej⟩:=fX.mp ei;rw[List.getElem_range] at ej;rw[vJ] at hil;subst ej;obtain⟨L,hL⟩:=i6 i (cj _) gV;have ez:((0:Int)+(i:Nat))=(i:Int):=by lia
    dsimp only;rw[ez];have hp:=rE i4.len hL;obtain⟨m,hm⟩ : ∃m,n-i=m+1:=⟨n-i-1,by lia⟩;rw[hm] at i2 i5;have et:tot k (m+1)=k*cnt k m+tot k m:=rfl;refine Y ?_;have lv:3*n+4+k'=(3*n+1+k')+3:=by lia
    refine Kaq (s:=[]) rfl ?_;rw[lv];have H:Told al n k es A 25 (3*n+1+k'+2) m (cnt k m):=by
     rw[show 3*n+1+k'+2=3*m+4+(3*n-3*m+k'-1) by lia];exact Ou B nF dM m _
    obtain⟨c2,nJ,hW⟩ : ∃c2,(kvs'.length+c2+tot k m<=c0+c1+tot k (n-1))/\W (call aq T (3*n+1+k'+3) true 24 [.d (jy al n k es A),.l 0,.d (jx Fi),.d (.int i)]) [.dct kvs'] λv s=>∃dF,s=[.dct dF]/\lJ es A dF/\dF.length<=kvs'.length+c2 /\
      ((v=.d .non/\∀x∈L,¬Sat es A (settle es A Fi i x))\/∃x∈L,v=.d (.int x)/\Sat es A (settle es A Fi i x)/\∀y∈L,y<x->¬Sat es A (settle es A Fi i y)):=by
     by_cases c:i=0
     ·subst c;obtain⟨rfl,q⟩:=i0 rfl;have em:n-1=m:=by lia
      rw[em];exact⟨c1,by lia,Hf kvs' L hL tG i1 q⟩
     ·have i2:=i2 gV;refine⟨k*cnt k m,by lia,V2 B H i4 i5 hL i1 gV⟩
    clear i2;refine hW.imp λv1 s1=>?_;rintro⟨dF,rfl,q1,q2,h⟩;rcases h with ⟨rfl,pW⟩|⟨x,hx,rfl,Bg,cJ⟩
    ·obtain⟨x,hx,q⟩:=(Ga B i4 hp hL).mp i7;exact absurd q (pW x hx)
    ·refine⟨_,_,rfl,rfl,?_⟩;refine Y ?_;refine W.cm rfl rfl (W.c0 (KZ (k':=3*n+2+k') B i4 hp (i4.lo i L hL x hx)) ?_);refine Y ?_;refine⟨by rw[fW];lia,?_⟩;refine Y ?_;have ag:∀j:Nat,j<i->at' (hs++[x]) j=at' hs j:=λj hj=>z_ gV gV;have ai:at' (hs++[x]) (i:Int)=x:=by rw[<-i3];exact TV
     refine⟨_,rfl,dF,settle es A Fi i x,hs++[x],_,_,?_,rfl,q1,λz=>absurd z gV,λ_=>by rw[show n-(i+1)=m by lia];lia,by simp[i3],Kw B i4 hp,?_,λj hj hjn=>?_,Bg,λg s=>?_,λg s hg=>?_,λg s j hj hg=>?_⟩
     ·rw[DP];rfl
     ·have:=Ky (es:=es) (A:=A) (x:=x) hL
      lia
     ·obtain⟨M,hM⟩:=i6 j gV hjn;exact⟨_,Kv B i4.len hp gV hM⟩
     ·have s2:=i8 _ (zeM B i4 hp hL hx s);refine⟨λj M hM=>?_,λj e M N h1 h2 he=>?_⟩
      ·have:=s2.mem j M hM
       try dsimp only at this ⊢
       by_cases c1:j<i
       ·rw[if_pos c1] at this;rw[if_pos gV,ag j c1];exact this
       ·rw[if_neg c1] at this;by_cases c2:j=i
        ·rw[if_pos c2] at this;rw[if_pos gV,c2,ai];exact this
        ·rw[if_neg c2] at this;rw[if_neg gV];exact this
      ·have ff:∀j:Nat,(if j<i then at' hs j else if j=i then x else g j)=if j<i+1 then at' (hs++[x]) j else g j:=λj=>by
        by_cases c1:j<i
        ·rw[if_pos c1,if_pos gV,ag j c1]
        ·rw[if_neg c1];by_cases c2:j=i
         ·rw[if_pos c2,if_pos gV,c2,ai]
         ·rw[if_neg c2,if_neg gV]
       have:=s2.fit j e M N h1 h2 he
       try dsimp only at this ⊢
       rw[<-ff,<-ff];exact this
     ·have s2:=i9 g s λt ht=>by rw[hg t gV,ag t ht]
      have s3:=N7 B i4 hp hL s2;rw[hg i gV,ai] at s3;exact s3
     ·by_cases c1:j<i
      ·rw[ag j c1];exact Ov g s j c1 λt ht=>by rw[hg t ht,ag t gV]
      ·have:j=i:=by lia
       subst this;rw[ai];have s2:=i9 g s λt ht=>by rw[hg t ht,ag t ht]
       have s3:=N7 B i4 hp hL s2;exact Int.not_lt.mp λq=>cJ (g j) (s2.mem j L hL) q ⟨g,s3⟩
  ·obtain⟨kvs',Fi,hs,a5,a6,rfl,rfl,i1,i0,i2,i3,i4,i5,i6,i7,i8,i9,Ov⟩:=hI;rw[fW,vJ,show ((n:Int)-0).toNat=n by lia] at i3 i8 Ov;refine Y ?_;refine .inr ⟨hs,rfl,i3,?_,Ov⟩;obtain⟨g,sg⟩:=i7;have s2:=i8 g sg;refine⟨λj M hM=>?_,λj e M N h1 h2 he=>?_⟩
   ·have:=s2.mem j M hM;rw[if_pos (rE hl hM)] at this;exact this
   ·have:=s2.fit j e M N h1 h2 he;rw[if_pos (rE hl h1),if_pos (rE hl h2)] at this;exact this
end
section
variable {n k d:Int}{ps:List (Int×Int)}
theorem zdY{k':Nat}(h:Web n ps)(hd:1<=d)(Gf:d<=k)(hk:k<=24)(hz:1+cnt k.toNat (n.toNat-1)+cnt k.toNat (n.toNat-1)+tot k.toNat (n.toNat-1)<sizeLine):W (call aq T (k'+40) true 22 [.d (jg n ps),.d (kJ k d)]) [] λv s=>(v=.d .non/\∀hs,¬jK n k d ps hs)\/∃hs,v=.d (.tup (hs.map .int))/\jK n k d ps hs/\∀g,jK n k d ps g->Ge g hs:=by
 refine W.call znW rfl ?_;unfold UG;have yF:(100:Nat)<=sizeLine:=by decide
 have h1:=h.h1;have h8:=h.h8;refine Y ?_;refine W.c1 (zhv h) λ_=>?_;refine Y ?_;refine W.c1 (zfY hd Gf hk) λ_=>?_;refine Y ?_;refine W.c0 (zjF h hd Gf hk) ?_;refine Y ?_;refine v9 (l:=List.range (n-0).toNat) (f:=λ(j:Nat)=>.int (0+j)) (λ(_:Nat)=>some (bJ (some (dY k.toNat)))) (by rw[vJ];lia) ?_ (λj hj=>?_) ?_
 ·unfold jg;refine Y ?_;refine⟨by rw[tX gV gV,tX gV gV];rfl,?_⟩;exact⟨rfl,rfl⟩
 ·refine Y ?_;refine⟨rfl,λ_=>?_,λhb=>by cases hb⟩;refine Y ?_;exact⟨rfl,_,rfl,rfl⟩
 ·have ef:(List.range (n-0).toNat).filterMap (λ(_:Nat)=>some (bJ (some (dY k.toNat))))=(ji n k).map bJ:=by
   rw[Dg,show n-0=n by lia];unfold ji;rw[List.map_replicate];rw[List.map_const',vJ]
  rw[ef];refine Y ?_;have lv:k'+39=3*n.toNat+5+(k'+34-3*n.toNat):=by lia
  refine vo rfl ?_;show W (Mi.call aq T (k'+39) true _ _) _ _;rw[lv];have B:=zlk h hd hk;have nF:1<=k.toNat:=by lia
  have dM:∀t a b:Int,0<=a->a<(k.toNat:Nat)->0<=b->b<(k.toNat:Nat)->cX k d ((a+t)%(k.toNat:Nat)) ((b+t)%(k.toNat:Nat))=cX k d a b:=λt a b a0 ak b0 bk=>by rw[show ((k.toNat:Nat):Int)=k by lia] at *;exact N_ hd t a b a0 ak b0 bk
  obtain⟨m,hm⟩ : ∃m,n.toNat=m+1:=⟨n.toNat-1,by lia⟩;have em:n.toNat-1=m:=by lia
  have Jl:unset (ji n k)<=m+1:=by
   have:=(Ob (n:=n) hk).len;rw[<-hm,<-this];exact List.countP_le_length
  have al:∀(i:Nat) L,(ji n k)[i]?=some (some L)->L=dY k.toNat:=λi L e=>(KD e).2;have eb:(ji n k).all (Gd k.toNat)=true:=gY.mpr λc hc=>by rw[List.eq_of_mem_replicate hc];exact nH rfl
  rw[em] at hz;refine(ziJ (c0:=1+cnt k.toNat m) (c1:=cnt k.toNat m) B nF (λ_=>dM) (Ob hk) (λi hi=>⟨_,Oa hi⟩) (by rw[em];exact hz) ?_ (λkvs L hL tG ha hl=>?_)).imp λv s=>?_
  ·rw[hm];have:=zgU (m:=m) (j:=k'+34-3*(m+1)) (kvs:=[]) B nF dM (Ob hk) Jl eb (λF d e=>by cases e) (by simp;lia);rw[hm] at this;simpa using this
  ·have e:=al 0 L hL;subst e;refine zl8 B nF dM ?_ (Ob hk) Jl al hL tG ha gV;rw[show 3*n.toNat+1+(k'+34-3*n.toNat)+2=3*m+4+(k'+33-3*m) by lia];exact Ou B nF (λ_=>dM) m _
  rintro(⟨rfl,pW⟩|⟨hs,rfl,hl,V3,vV⟩)
  ·refine⟨_,rfl,?_⟩;refine Y ?_;exact .inl ⟨rfl,λhs hh=>pW ⟨_,zes h hd hh⟩⟩
  ·refine⟨_,rfl,?_⟩;refine Y ?_;refine .inr ⟨hs,rfl,zho h hl V3,λg hg j hj ha=>?_⟩;exact vV _ (zes h hd hg) j gV ha
end
section
variable {n k d:Int}{ps:List (Int×Int)}
theorem small{n k:Int}(hn:n<=8)(hk:k<=8):1+cnt k.toNat (n.toNat-1)+cnt k.toNat (n.toNat-1)+tot k.toNat (n.toNat-1)<sizeLine:=by
 have:=zeo (k:=k.toNat) (k2:=8) (m:=n.toNat-1) (m2:=7) gV gV;have:=zg7 (k:=k.toNat) (k2:=8) (m:=n.toNat-1) (m2:=7) gV gV;have e:1+cnt 8 7+cnt 8 7+tot 8 7<sizeLine:=by decide
 lia
noncomputable def jz(n k d:Int)(ps:List (Int×Int)):Bool:=!(grows k d ps [[0]] (n.toNat-1)).isEmpty
theorem V4(h:Web n ps)(hd:1<=d)(hk:1<=k):jz n k d ps=true↔∃g,jK n k d ps g:=by
 have h1:=h.h1;rw[<-zhB h hd hk];have e:=zbW h hd hk (n.toNat-1);rw[show n.toNat-1+1=n.toNat by lia] at e;rw[e];unfold jz;cases grows k d ps [[0]] (n.toNat-1) with
 |nil=>simp
 |cons a l=>simp;lia
theorem zmx{k':Nat}(h:Web n ps)(hr:1<=d/\d<=k/\k<=8):W (call aq T (k'+41) true 28 [.d (jg n ps),.d (kJ k d)]) [] λv s=>v=.d (.bl (jz n k d ps)):=by
 have h8:=h.h8;have hi:=V4 h hr.1 (show 1<=k by lia);refine W.call zof rfl ?_;unfold UW;refine Y ?_;refine vo rfl ((zdY (k':=k') h hr.1 hr.2.1 gV (small h8 hr.2.2)).imp λv s hv=>?_);rcases hv with ⟨rfl,pW⟩|⟨hs,rfl,hh,hg⟩
 ·refine⟨_,rfl,?_⟩;have:jz n k d ps=false:=by
   cases e:jz n k d ps with
   |false=>rfl
   |true=>obtain⟨g,hg⟩:=hi.mp e;exact absurd hg (pW g)
  rw[this];refine Y ?_;rfl
 ·refine⟨_,rfl,?_⟩;rw[hi.mpr ⟨hs,hh⟩];refine Y ?_;rfl
end
noncomputable def rF:List D->Option (List (Int×Int))
 |[]=>some []
 |.tup [.int a,.int b]::r=>(rF r).map ((a,b)::·)
 |_=>none
theorem zia:∀{xs:List D} {ps:List (Int×Int)},rF xs=some ps->xs=ps.map lB
 |[],ps,h=>by cases h;rfl
 |d::r,ps,h=>by
  unfold rF at h;split at h
  ·rename_i e;cases e
  ·rename_i a b r' e;cases e;obtain⟨q,e1,e2⟩:=kZ.mp h;subst e2;rw[jk,<-zia e1];rfl
  ·cases h
noncomputable def V5(p q:Int×Int):Bool:=decide (p.1<q.1)||(decide (p.1=q.1)&&decide (p.2<q.2))
noncomputable def yG:List (Int×Int)->Bool
 |[]=>true
 |p::r=>r.all (V5 p)&&yG r
theorem V6:∀{ps:List (Int×Int)},yG ps=true->ps.Pairwise lx
 |[],_=>List.Pairwise.nil
 |p::r,h=>by
  unfold yG at h;rw[eG,gY] at h;refine List.Pairwise.cons (λq hq=>?_) (V6 h.2);have:=h.1 q hq;unfold V5 at this;simp only[Ln,eG,yP] at this;unfold lx
  lia
noncomputable def yH(n:Int)(ps:List (Int×Int)):Bool:=decide (1<=n)&&decide (n<=8)&&ps.all (λp=>decide (0<=p.1)&&decide (p.1<p.2)&&decide (p.2<n))&&yG ps
theorem V7{n:Int}{ps:List (Int×Int)}(h:yH n ps=true):Web n ps:=by
 unfold yH at h;simp only[eG,gY,yP] at h;obtain⟨⟨⟨h1,h8⟩,ht⟩,hi⟩:=h;have ht':∀p∈ps,0<=p.1/\p.1<p.2/\p.2<n:=λp hp=>by have:=ht p hp;lia
 exact⟨h1,h8,ht',V6 hi,zk4 h1 h8 ht' (V6 hi)⟩
noncomputable def yI(n:Int)(p:Int×Int):Int×Int:=(n-1-p.2,n-1-p.1)
noncomputable def K3(p:Int×Int):List (Int×Int)->List (Int×Int)
 |[]=>[p]
 |q::r=>if V5 p q=true then p::q::r else q::K3 p r
noncomputable def yJ:List (Int×Int)->List (Int×Int)
 |[]=>[]
 |p::r=>K3 p (yJ r)
noncomputable def vG(a b:List (Int×Int)):Bool:=a.all (λp=>b.contains p)&&b.all λp=>a.contains p
theorem zjK{a b:List (Int×Int)}(h:vG a b=true)(p:Int×Int):p∈a↔p∈b:=by
 unfold vG at h;rw[eG,gY,gY] at h;exact⟨λz=>O8.mp (h.1 p z),λz=>O8.mp (h.2 p z)⟩
theorem ziv{h:List Int}{n j:Int}(hl:(h.length:Int)=n)(h0:0<=j)(hj:j<n):at' h.reverse j=at' h (n-1-j):=by
 unfold at';rw[mD,mD,List.getElem?_reverse gV,show h.length-1-j.toNat=(n-1-j).toNat by lia]
theorem zeU{n k d:Int}{ps qs:List (Int×Int)}{h:List Int}(w:Web n qs)(hm:∀q∈qs,∃p∈ps,q=yI n p)(hh:jK n k d ps h):jK n k d qs h.reverse:=by
 have hl:=hh.len;refine⟨by rw[List.length_reverse];exact hl,λx hx=>hh.lo x (List.mem_reverse.mp hx),λq hq=>?_⟩;obtain⟨p,hp,rfl⟩:=hm q hq;have ht:=w.tie _ hq;unfold yI at ht ⊢;dsimp only at ht ⊢;rw[ziv hl gV gV,ziv hl gV gV,zhX,show n-1-(n-1-p.2)=p.2 by lia,show n-1-(n-1-p.1)=p.1 by lia];exact hh.fit p hp
theorem zg3{n k d:Int}{ps qs:List (Int×Int)}(h:Web n ps)(h':Web n qs)(hm:∀q,q∈qs↔q∈ps.map (yI n))(hd:1<=d)(hk:1<=k):jz n k d ps=jz n k d qs:=by
 rw[Bool.eq_iff_iff,V4 h' hd hk,V4 h hd hk]
 constructor
 ·rintro⟨g,hg⟩;exact⟨_,zeU h' (λq hq=>by obtain⟨p,hp,e⟩:=qI.mp ((hm q).mp hq);exact⟨p,hp,e.symm⟩) hg⟩
 ·rintro⟨g,hg⟩;refine⟨_,zeU h (λp hp=>⟨yI n p,(hm _).mpr (qI.mpr ⟨p,hp,rfl⟩),?_⟩) hg⟩;unfold yI;obtain⟨a,b⟩:=p;dsimp only
  congr 1<;>lia
noncomputable def V8:List Xv->Option D
 |[.d (.tup [.int n,.tup ts]),.d (.tup [.int k,.int d])]=>match rF ts with
  |some ps=>if (yH n ps&&yH n (yJ (ps.map (yI n)))&&vG (yJ (ps.map (yI n))) (ps.map (yI n))&&decide (1<=d)&&decide (d<=k)&&decide (k<=8))=true then some (.bl (jz n k d (yJ (ps.map (yI n))))) else none
  |none=>none
 |_=>none
theorem zkp(k:Nat)(xs:List Xv)(d:D)(h:V8 xs=some d):W (call aq T (k+41) true 28 xs) [] λv _=>v=.d d:=by
 unfold V8 at h;split at h
 ·rename_i n ts kk dd;split at h
  ·rename_i ps e;split at h
   ·rename_i c;cases h;simp only[eG,yP] at c;obtain⟨⟨⟨⟨⟨c1,c5⟩,c6⟩,c2⟩,c3⟩,c4⟩:=c;rw[zia e,<-zg3 (V7 c1) (V7 c5) (zjK c6) c2 gV];exact zmx (V7 c1) ⟨c2,c3,c4⟩
   ·cases h
  ·cases h
 ·cases h
noncomputable def tH(f:Nat)(xs:List Xv):Option D:=match o_ aq T 28 V8 18 true f xs [] with
 |some (.ok (.d d),_)=>some d
 |_=>none
theorem Ox{f:Nat}{xs:List Xv}{d:D}(h:tH f xs=some d):W (call aq T 59 true f xs) [] λv _=>v=.d d:=by
 unfold tH at h;split at h
 ·rename_i d' s1 e;cases h;rcases zer (m:=41) zkp 18 true f xs [] _ _ e with z|⟨_,d2,s2,e2,z⟩
  ·exact⟨_,_,z,rfl⟩
  ·cases e2;exact⟨_,_,z,rfl⟩
 ·cases h
theorem r1:tH 42 [.d (.int 1)]=some (.bl true):=by kernel_rfl
theorem r2:tH 42 [.d (.int 2)]=some (.bl true):=by kernel_rfl
theorem r3:tH 42 [.d (.int 3)]=some (.bl true):=by kernel_rfl
theorem r4:tH 42 [.d (.int 4)]=some (.bl true):=by kernel_rfl
def V9(o:SO):Prop:=∃a b:Int,o=.lst [.int a,.int b]/\0<=a/\(b=0\/b=1)
theorem zlZ{k:Nat}{o:SO}{m:Int}(ho:V9 o)(hm:0<m)(hm2:m<1073741824):W (call aq T (k+1) true 35 [.l 0,.d (.int m)]) [o] λv s=>∃d o',v=.d d/\s=[o']/\(∃r:Int,d=.int r/\0<=r/\r<m)/\V9 o':=by
 obtain⟨a,b,rfl,ha,hb⟩:=ho;refine W.call zn9 rfl ?_;unfold U8;rcases hb with rfl|rfl
 ·refine Y ?_;exact⟨_,_,rfl,rfl,⟨_,rfl,Al _ gV,DG _ hm⟩,⟨_,_,rfl,Al _ Ro,.inl rfl⟩⟩
 ·refine Y ?_;exact⟨_,_,rfl,rfl,⟨_,rfl,Al _ gV,DG _ hm⟩,⟨_,_,rfl,Int.ediv_nonneg ha gV,.inr rfl⟩⟩
theorem znL{k:Nat}{n:Int}:W (call aq T (k+1) true 34 [.d (.int n)]) [] λv s=>∃i o,v=.l i/\s[i]?=some o/\V9 o:=by
 refine W.call znU rfl ?_;unfold U7;refine Y ?_;refine⟨0,_,rfl,rfl,⟨_,_,rfl,?_,?_⟩⟩
 ·split<;>lia
 ·have:∀c:Bool,(if c=true then (1:Int) else 0)=0\/(if c=true then (1:Int) else 0)=1:=by intro c;cases c<;>simp
  exact this _
theorem zkN{k:Nat}{ns:List Int}:W (call aq T (k+1) true 33 [.d (.fl (ns.map D.int)),.d (.int 0)]) [] λv _=>∃n,v=.d (.int n):=by
 refine W.call zod rfl ?_;unfold U6;cases ns with
 |nil=>
  refine Y ?_;exact⟨_,rfl⟩
 |cons n r=>
  refine Y ?_;refine WS.ite (λ_=>?_) (λ_=>?_)
  ·refine Y ?_;refine mC (Zy (i:=0) (x:=.int n) rfl) ?_;refine Y ?_;exact⟨_,rfl⟩
  ·refine Y ?_;exact⟨_,rfl⟩
theorem vH(ns:List Int)(hn:ns.length<=63):∃s',call aq T 60 true 43 [.d (.fl (ns.map D.int))] []=some (.ok (.d (.bl true)),s'):=by
 suffices h:W (call aq T 60 true 43 [.d (.fl (ns.map D.int))]) [] λv _=>v=.d (.bl true) by
  obtain⟨v,s',e,rfl⟩:=h;exact⟨s',e⟩
 have hs:(1000:Nat)<=sizeLine:=by decide
 refine W.call (k:=59) znS rfl ?_;unfold U9;refine Y ?_;refine W.c0 (Ox r1) ?_;refine Y ?_;refine W.c0 (Ox r2) ?_;refine Y ?_;refine vo rfl ((zkN (k:=58)).imp λv _=>?_);rintro⟨n0,rfl⟩;refine⟨_,rfl,?_⟩;refine Y ?_;refine Tn (zmy ?_) ?_
 ·have:=zjz (ns:=ns) (lo:=some 1) (hi:=some 2);show 1+_<=_
  lia
 refine Y ?_;refine Ny (λ_ J s=>∃(a b:Option Xv),J=[some (.d (.fl (ns.map D.int))),a,b]) ⟨_,_,rfl⟩ (λi x J s hx Dr=>?_) (λJ s Dr=>?_)
 ·obtain⟨m,rfl⟩ : ∃m,x=.int m:=by
   rcases nG.mp (gJ hx) with z|z
   ·rcases jA.mp z with rfl|z
    ·exact⟨_,rfl⟩
    ·cases z
   ·exact zi5 z
  obtain⟨a,b,rfl⟩:=Dr;refine Y ?_;refine Kan rfl ((znL (k:=58)).imp λv s1=>?_);rintro⟨j,o,rfl,hj,hp⟩;refine⟨j,o,rfl,hj,?_⟩;refine Y ?_;refine W.c0 (Ox r3) ?_;refine Y ?_;refine yt rfl ((zlZ (k:=58) hp (m:=4) gV gV).imp λv s1=>?_);rintro⟨_,o1,rfl,rfl,⟨r,rfl,hr0,hr1⟩,hp⟩;refine⟨_,_,rfl,rfl,?_⟩;refine Y ?_;refine W.ite (λc=>?_) (λc=>?_)
  ·refine Y ?_;refine W.c0 (Ox r4) ?_;refine Y ?_;exact⟨_,rfl,_,_,rfl⟩
  ·refine Y ?_;exact⟨_,rfl,_,_,rfl⟩
 ·obtain⟨a,b,rfl⟩:=Dr;exact Y trivial
end dZ
open PySem PySem.W PyProof.Rows
set_option maxRecDepth 100000 in
set_option maxHeartbeats 0 in
theorem PySem.Challenge.cw_ringhues_k70_webs_by_their_shortest_ring_holds : PySem.Challenge.rw_ringhues_k70_webs_by_their_shortest_ring.Holds := by
 refine PySem.W.holds_law dZ.ws λsaid=>?_;refine holds_open (q:=dZ.qv) (loose:=dZ.loose) (Xt:=λs=>xlAt dZ.qv [] s&&recOk [] s) (XP:=XL dZ.qv []) (Yf:=(Mi.jh dZ.fs dZ.ms dZ.xs dZ.lk dZ.bd).obs) (Ya:=(Mi.jh dZ.fs dZ.ms dZ.xs dZ.lk dZ.bd).val) (YP:=(Mi.jh dZ.fs dZ.ms dZ.xs dZ.lk dZ.bd).says) (N:=20000) dZ.left (Mi.jh dZ.fs dZ.ms dZ.xs dZ.lk dZ.bd).of (Mi.jh dZ.fs dZ.ms dZ.xs dZ.lk dZ.bd).keeps (λs e=>xl_of s (Bool.and_eq_true_iff.mp e).1) XL.keeps (by rfl) (by rfl) (by rfl) (λs e=>recFacts_of (Bool.and_eq_true_iff.mp e).2) (by rfl) (by first|assumption|decide +kernel) Dc ⟨rfl,rfl,rfl,rfl,rfl,by decide +kernel⟩ ?hw ?hc
 case hw=>w_witness2
 case hc=>exact Mi.Dn (l:=PySem.Challenge.rw_ringhues_k70_webs_by_their_shortest_ring) (x:="_law_script") (k:=60) rfl rfl ⟨by decide,by decide,rfl⟩ (λw K mg fa h S LH X G Dk=>dZ.all_mk dZ.vH S LH X G Dk)
