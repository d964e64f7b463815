import PyProof.Rows.All
import Wide.All
import KE.KIsAll
import KE.KNestM
import KE.KSortTup
import KE.KLam
import KE.KTryDeep
import KE.KDictOf
import KE.KFromBytes
import Wide.FinOn
import PySem.Challenge.RW_ringhues_k21_whole_rounds_and_all_tied
set_option compiler.extract_closed false
abbrev aB:=@PySem.wpAny_bind
abbrev cG:=@PySem.Heap.get?_push_of_some
abbrev aM:=@PySem.wpAny_pure
abbrev eU:=@List.getElem?_eq_getElem
abbrev f9:=@List.getElem?_eq_some_iff
abbrev bQ:=@PySem.Heap.lt_size
abbrev cW:=@Option.some.inj
abbrev eE:=@PySem.Heap.get?_push_size
abbrev fj:=@List.size_toArray
abbrev gU:=@List.mem_of_getElem?
abbrev cD:=@Nat.le_refl
abbrev gb:=@Nat.lt_of_lt_of_le
abbrev fu:=@Bool.and_eq_true
abbrev iG:=@List.mem_cons_of_mem
abbrev lE:=@List.getD_eq_getElem?_getD
abbrev eY:=@List.length_map
abbrev c7:=@Nat.ne_of_lt
abbrev kZ:=@Option.map_eq_some_iff
abbrev h_:=@List.length_cons
abbrev iu:=@List.all_eq_true
abbrev k_:=@List.mem_append_right
abbrev pB:=@List.getElem?_append_left
abbrev pJ:=@List.getElem?_append_right
abbrev jN:=@List.getElem?_map
abbrev jU:=@of_decide_eq_true
abbrev qD:=@List.getElem?_eq_none_iff
abbrev lQ:=@List.mem_cons_self
abbrev nU:=@Array.length_toList
abbrev iY:=@List.mem_cons
abbrev jo:=@List.map_cons
abbrev wG:=@PyProof.Rows.slot_tuple_getitem
abbrev gj:=@PySem.wpAny_mono
abbrev pC:=@List.length_append
abbrev qF:=@List.getElem?_set_ne
abbrev mQ:=@List.mem_filter
abbrev pD:=@PySem.wpAny_newObj_type
abbrev jO:=@Nat.le_trans
abbrev nJ:=@List.mem_append
abbrev wH:=@PyProof.Rows.callWith_type1
abbrev mR:=@decide_eq_true
abbrev qG:=@Nat.lt_succ_of_lt
abbrev pK:=@List.lookup_cons
abbrev rH:=@Bool.false_eq_true
abbrev rJ:=@List.mem_singleton
abbrev rK:=@Int.toNat_natCast
abbrev pL:=@List.length_set
abbrev lg:=@PySem.wpAny_field
abbrev wI:=@PySem.Heap.get?_update_other
abbrev pF:=@PySem.wpAny_holding
abbrev yR:=@PySem.wpAny_callSpecial?_slot
abbrev yS:=@Option.bind_eq_some_iff
abbrev yU:=@List.getElem?_set_self
abbrev pN:=@Nat.lt_irrefl
abbrev tM:=@decide_eq_false
abbrev rM:=@PySem.Heap.size_push
abbrev rN:=@PySem.wpAny_seqItems
abbrev vN:=@PySem.wpAny_truthy_bool
abbrev Al:=@List.getElem?_replicate
abbrev Am:=@List.getElem?_cons_succ
abbrev vO:=@List.length_range
abbrev pO:=@Nat.ne_of_gt
abbrev wJ:=@PySem.wpAny_Call_Name_kw
abbrev yV:=@PySem.Heap.get?_update_ne
abbrev yW:=@List.getElem_of_mem
abbrev Ao:=@PySem.Heap.get?_update_self
abbrev qH:=@List.mem_map
abbrev yX:=@PySem.Obj.data_mapFields
abbrev nW:=@beq_iff_eq
abbrev rO:=@Nat.le_of_lt
abbrev wK:=@PySem.wpAny_call_entry
abbrev wL:=@decide_eq_decide
abbrev yZ:=@decide_eq_true_eq
abbrev lq:=@congrArg
abbrev t_:=@PySem.wpAny_standAt
abbrev wM:=@List.append_nil
abbrev wN:=@List.nodup_cons
abbrev rP:=@Nat.zero_le
abbrev DY:=@PySem.Heap.get?_none_of_le
abbrev D_:=@beq_eq_false_iff_ne
abbrev Ed:=@List.filterMap_cons
abbrev Ef:=@PySem.mem_of_lookup
abbrev Lb:=@PySem.F.slot_tuple_iterator_next
abbrev Aq:=@Nat.lt_succ_self
abbrev Ar:=@List.length_take
abbrev Av:=@PySem.F.plain_min_loop
abbrev Gv:=@List.length_replicate
abbrev Eh:=@PySem.wpAny_setField_rec
abbrev Ej:=@Nat.lt_of_le_of_lt
abbrev Ek:=@Int.emod_lt_of_pos
abbrev uc:=@Nat.le_succ
abbrev O9:=@List.take_succ_eq_append_getElem
abbrev Gw:=@List.mem_append_left
abbrev nY:=@if_false
abbrev Gx:=@PySem.Around.under_plainId
abbrev Aw:=@PySem.wpAny_passesOwn
abbrev El:=@PySem.Heap.get?_push_ne
abbrev Ld:=@PySem.AutoSeq1.wpAny_loadPart'
abbrev Ax:=@Int.emod_nonneg
abbrev vP:=@PySem.sizeLine_eq
abbrev Gy:=@List.getElem?_range
abbrev Lf:=@Int.eq_ofNat_of_zero_le
abbrev Em:=@beq_self_eq_true
abbrev En:=@List.take_length
abbrev Ep:=@List.countP_cons
abbrev Ay:=@List.mem_range
abbrev Az:=@List.nodup_nil
abbrev Lg:=@PySem.W.cellsFrom_some
abbrev Gz:=@Bool.false_ne_true
abbrev GC:=@List.mem_filterMap
abbrev GD:=@List.zip_cons_cons
abbrev GF:=@List.pairwise_cons
abbrev Er:=@List.map_append
abbrev Et:=@List.length_nil
abbrev zc:=@PySem.codeAny_mono
abbrev Lh:=@PySem.Obj.isFreed_of_fields
abbrev Eu:=@List.forIn_cons
abbrev A_:=@PyProof.Rows.listUpdate_at
abbrev GJ:=@PySem.wpAny_pyIter_list
abbrev Ba:=@List.all_cons
abbrev Li:=@Array.toArray_toList
abbrev Lj:=@Nat.mul_le_mul_right
abbrev GK:=@PySem.Heap.size_update
abbrev zj:=@PySem.wpAny_letGo
abbrev O_:=@Option.isSome_iff_exists
abbrev Pa:=@PySem.F.args_tuple_add_2
abbrev Pb:=@PySem.wpAny_comprehension_free
abbrev Pg:=@List.length_filterMap_le
abbrev Pj:=@PySem.F.entry_tuple_add
abbrev Ew:=@PySem.wpAny_attempt
abbrev Ln:=@Array.forIn_toList
abbrev GP:=@PySem.codeAny_builtin
abbrev Pk:=@PySem.F.slot_tuple_add
abbrev Pn:=@List.range_succ_eq_map
abbrev Pq:=@List.length_pos_of_mem
abbrev zm:=@PySem.wpAny_rule
abbrev Lp:=@PySem.Calls.spliced_nil
abbrev Lq:=@List.append_assoc
abbrev Lr:=@List.reverse_cons
abbrev Ls:=@List.nodup_append
abbrev GQ:=@PySem.wpAny_setField
abbrev Pu:=@List.filterMap_append
abbrev Px:=@List.contains_iff_mem
abbrev Py:=@Int.emod_add_mul_ediv
abbrev Lw:=@Nat.le_of_not_lt
abbrev Lx:=@Option.bind_some
abbrev Ly:=@PySem.wpAny_isInstance
abbrev Pz:=@PySem.wpAny_updateSeq_pair
abbrev GR:=@PySem.wpAny_newList
abbrev GX:=@PySem.plainId_quiet
abbrev PB:=@PySem.W.plainGet_of
abbrev Ey:=@PySem.wpAny_of_eq
abbrev Lz:=@PySem.F.slot_zip_next
abbrev LC:=@Bool.or_eq_true
abbrev LQ:=@List.foldl_cons
abbrev PJ:=@PySem.W.callWith_K
abbrev GZ:=@PySem.wpAny_typeOf
abbrev G3:=@Nat.zero_add
abbrev G4:=@List.map_map
abbrev PK:=@decide_eq_true_iff
abbrev LR:=@List.forIn_nil
abbrev Ez:=@PySem.wpAny_call
abbrev EY:=@Nat.not_lt
abbrev PL:=@bne_self_eq_false
abbrev PN:=@List.getElem?_inj
abbrev PX:=@List.map_inj_left
abbrev P0:=@List.pairwise_map
abbrev P_:=@List.flatMap_cons
set_option Elab.async false
set_option linter.all false
set_option maxRecDepth 100000
set_option maxHeartbeats 4000000
namespace L2
open PySem PySem.Spec PyProof.Rows PySem.W
noncomputable def subIn(K:W.Frag)(C D:Addr):Bool:=PySem.W.ktsIn K C "BaseException"&&PySem.W.ktsIn K D "BaseException"&&match K.lookup C with
 |some ⟨_,_,.cls cd,_⟩=>cd.mro.contains (.ref D)
 |_=>false
noncomputable def G5:List Value:=[.type "ValueError",.type "Exception",.type "BaseException",.type "object"]
noncomputable def ud:List Value->Bool
 |.ref _::r=>ud r
 |l=>l==G5
noncomputable def uf(K:Frag)(C fI:Addr):Bool:=match K.lookup C with
 |some ⟨.type "type",_,.cls cd,sl⟩=>(match cd.mro,sl.toList with
  |.ref C'::bm,[_,_,_,_,some (.builtin n),_]=>C'==C&&n=="ValueError.__new__" && !cd.hasDel&&tailIn K G5 bm&&nsOkIn K cd.ns&&nsIn K cd.ns "__init__"==some (some (.ref fI))
  |_,_=>false)
 |_=>false
noncomputable def aZ(s:Stmt):Arguments:=match s with
 |.FunctionDef _ a _ _ _ _ _ _ _ _=>a
 |_=>{posonlyargs:=[],args:=[],vararg:=none,kwonlyargs:=[],kw_defaults:=[],kwarg:=none,defaults:=[]}
noncomputable def aL(s:Stmt):List Stmt:=match s with
 |.FunctionDef _ _ b _ _ _ _ _ _ _=>b
 |_=>[]
noncomputable def au(s:Stmt):Scope:=match s with
 |.FunctionDef _ _ _ _ _ _ sc _ _ _=>sc
 |_=>{kind:=.function,names:=[],isGenerator:=false,isCoroutine:=false}
end L2
namespace Mi
open PySem PySem.Spec PyProof.Rows L2 PySem.W
noncomputable def L_(n c:Nat):Nat:=if c<n then c else 0
noncomputable def G6(n c e:Nat):Bool:=L_ n e==0||L_ n c==L_ n e
noncomputable def iZ(L:List Addr)(c:Nat):Addr:=L.getD (L_ L.length c) 0
noncomputable def xcB(K:W.Frag)(C:Addr):Bool:=
 PySem.W.findIn K (.ref C) "__getattribute__"==some (some (.builtin "BaseException.__getattribute__"))&&PySem.W.findIn K (.ref C) "__getattr__"==some none&&PySem.W.findIn K (.ref C) "__class__"==some (some (.builtin "object.__class__")) &&
 PySem.W.mroIn K C (.type "BaseException")==some true&&PySem.W.mroIn K C (.type "object")==some true&&(PySem.W.clsIn K C).isSome &&
 PySem.W.specialIn K (.builtin "object.__class__") "__get__"==some (some (.builtin "getset_descriptor.__get__"))&&PySem.W.takesIn K (.builtin "object.__class__")==some true
noncomputable def zp(K:W.Frag)(L:List Addr):Bool:=(List.range L.length).all λc=>xcB K (L.getD c 0)&&PySem.W.kitOne K (.ref (L.getD c 0)) (.type "ValueError")==some true &&
 (List.range L.length).all λe=>PySem.W.kitOne K (.ref (L.getD c 0)) (.ref (L.getD e 0))==some (G6 L.length c e)
noncomputable def subB(K:W.Frag)(L:List Addr)(d:Nat):Bool:=(List.range L.length).all λc=>!(G6 L.length c d)||L2.subIn K (L.getD c 0) (iZ L d)
noncomputable def nZ(fd:FuncData):FuncData:={fd with kwdefaults:=.none,doc:=.none,pyModule:=.none,annotations:=none,code:=.none,closureTuple:=.none}
noncomputable def vQ(x:Str)(st:Stmt):FuncData:=fnOf x x (aZ st) (aL st) (au st) .none .none .none .none none .none .none
noncomputable def wO(K:Frag)(x:Str):Option (Addr×FuncData):=match nsIn K mainGlobals x with
 |some (some (.ref f))=>(match K.lookup f with
  |some ⟨_,_,.func fd,_⟩=>(match codeIn K fd.code x&&keepIn K (.ref f) with
   |true=>some (f,fd)
   |false=>none)
  |_=>none)
 |_=>none
noncomputable def eF(K:Frag)(x:Str):Addr:=match nsIn K mainGlobals x with
 |some (some (.ref C))=>C
 |_=>0
noncomputable def ug(K:Frag)(x:Str):Bool:=match nsIn K mainGlobals x with
 |some (some (.ref _))=>true
 |_=>false
noncomputable def mU(K:Frag)(p:Str×Int):Bool:=match nsIn K mainGlobals p.1 with
 |some (some (.int i _))=>decide (i=p.2)
 |_=>false
noncomputable def qI(K:Frag)(x:Str):Bool:=match nsIn K mainGlobals x with
 |some none=>true
 |_=>false
noncomputable def G7(K:Frag)(C:Addr):Bool:=excIn K C [.type "ValueError",.type "Exception",.type "BaseException",.type "object"] "ValueError.__new__"
structure Lk where
 G8:List Str
 wQ:List (Str×Int)
 Xi:List Str
 Xj:List Nat
 Xk:List Nat
noncomputable def Lk.L(l:Lk)(K:Frag):List Addr:=l.G8.map (eF K)
noncomputable def Lk.good(l:Lk)(K:Frag):Bool:=
 l.G8.all (ug K)&&(l.G8.isEmpty||zp K (l.L K))&&l.Xj.all (λk=>G7 K (iZ (l.L K) k))&&l.Xk.all (λk=>subB K (l.L K) k)&&l.wQ.all (mU K)&&l.Xi.all (qI K)
noncomputable def qJ(h:Heap):List Addr->Frag
 |[]=>[]
 |a::r=>match h.get? a with
  |some o=>(a,o)::qJ h r
  |none=>qJ h r
noncomputable def fB(s:Stmt):List Stmt:=match s with
 |.ClassDef _ _ _ b _ _ _ _ _ _ _=>b
 |_=>[]
noncomputable def Bb(q:Str)(st:Stmt):FuncData:=fnOf "__init__" q (aZ st) (aL st) (au st) .none .none .none .none none .none .none
noncomputable def G9(K:Frag)(C:Addr):Option FuncData:=match clsIn K C with
 |some cd=>(match nsIn K cd.ns "__init__" with
  |some (some (.ref f))=>(match K.lookup f with
   |some ⟨.type "function",_,.func fd,_⟩=>(match codeIn K fd.code fd.qualname&&uf K C f&&ud cd.mro&&cd.hasDict with
    |true=>some fd
    |false=>none)
   |_=>none)
  |_=>none)
 |none=>none
noncomputable def setB(K:Frag)(C:Addr)(fs:List Str):Bool:=findIn K (.ref C) "__setattr__"==some (some (.builtin "object.__setattr__"))&&fs.all (λf=>findIn K (.ref C) f==some none)
noncomputable def Ma(K:Frag)(C:Addr)(f:Str):Bool:=findIn K (.ref C) "__getattribute__"==some (some (.builtin "BaseException.__getattribute__"))&&findIn K (.ref C) "__getattr__"==some none&&mroIn K C (.type "BaseException")==some true&&findIn K (.ref C) f==some none&&hasDictIn K C
structure uh where
 c:Nat
 q:Str
 st:Stmt
 fs:List Str
noncomputable def qK(o:Obj):Bool:=match o with
 |⟨.none,none,.fields vs,sl⟩=>vs.isEmpty&&sl.isEmpty
 |_=>false
noncomputable def G_:Nat->List Obj->Frag
 |_,[]=>[]
 |i,o::r=>match o.isFreed||qK o with
  |true=>G_ (i+1) r
  |false=>(i,o)::G_ (i+1) r
noncomputable def bY(h:Heap):Frag:=qJ h [mainGlobals]++(G_ 0 h.objs.toList).reverse
noncomputable def jV(fs:List (Str×Stmt))(ms:List uh)(xs:List (Nat×Str))(l:Lk)(s:Shared):List (Option FuncData)×List (Option FuncData)×Bool:=
 (fs.map (λp=>(wO (bY s.heap) p.1).map (λq=>nZ q.2)),ms.map (λm=>(G9 (bY s.heap) (iZ (l.L (bY s.heap)) m.c)).map nZ),
  l.good (bY s.heap)&&ms.all (λm=>setB (bY s.heap) (iZ (l.L (bY s.heap)) m.c) m.fs)&&xs.all (λx=>Ma (bY s.heap) (iZ (l.L (bY s.heap)) x.1) x.2))
noncomputable def lF(fs:List (Str×Stmt))(ms:List uh)(w:World):List (Option FuncData)×List (Option FuncData)×Bool:=(fs.map (λp=>some (vQ p.1 p.2)),ms.map (λm=>some (Bb m.q m.st)),true)
noncomputable def Mf(fs:List (Str×Stmt))(s:Shared):List (Option FuncData):=fs.map (λp=>(wO (bY s.heap) p.1).map (λq=>nZ q.2))
noncomputable def Xl(ms:List uh)(xs:List (Nat×Str))(l:Lk)(s:Shared):List (Option FuncData)×Bool:=(ms.map (λm=>(G9 (bY s.heap) (iZ (l.L (bY s.heap)) m.c)).map nZ),
  l.good (bY s.heap)&&ms.all (λm=>setB (bY s.heap) (iZ (l.L (bY s.heap)) m.c) m.fs)&&xs.all (λx=>Ma (bY s.heap) (iZ (l.L (bY s.heap)) x.1) x.2))
theorem zfd{p q:Program}{loose:List Str}{Xt:Shared->Bool}{N:Nat}{fs1 rQ:List (Str×Stmt)}{ms:List uh}{xs:List (Nat×Str)}{l:Lk}
  (a:∀w,(openEnds treeTable p w N).map (λs=>openSeen q loose (importedModules p.main.body) Xt true s)=some (openGood q loose))
  (b1:∀w,(openEnds treeTable p w N).map (Mf fs1)=some (fs1.map λp=>some (vQ p.1 p.2)))
  (b2:∀w,(openEnds treeTable p w N).map (Mf rQ)=some (rQ.map λp=>some (vQ p.1 p.2)))
  (c:∀w,(openEnds treeTable p w N).map (Xl ms xs l)=some (ms.map (λm=>some (Bb m.q m.st)),true)):LeftO p q loose Xt (jV (fs1++rQ) ms xs l) (lF (fs1++rQ) ms) N:=by
 intro w;have a:=a w;have b1:=b1 w;have b2:=b2 w;have c:=c w;cases e:openEnds treeTable p w N with
 |none=>rw[e] at a;cases a
 |some s=>
  rw[e] at a b1 b2 c;have a:openSeen q loose (importedModules p.main.body) Xt true s=openGood q loose:=cW a;have b1:=cW b1;have b2:=cW b2;have c:=cW c;have c1:=lq Prod.fst c;have c2:=lq Prod.snd c;show some (_,jV (fs1++rQ) ms xs l s)=_;rw[a];have:jV (fs1++rQ) ms xs l s=lF (fs1++rQ) ms w:=by
   unfold jV lF;rw[Er,Er];have b1:List.map _ fs1=List.map _ fs1:=b1;have b2:List.map _ rQ=List.map _ rQ:=b2;rw[b1,b2];exact Prod.ext rfl (Prod.ext c1 c2)
  rw[this]
structure Bd where
 n:Str
 fs:List Str
 ms:List (Str×Str×Stmt)
noncomputable def lR(K:Frag)(C:Addr)(m:Str):Option (Addr×FuncData):=match findIn K (.ref C) m with
 |some (some (.ref f))=>(match K.lookup f with
  |some ⟨_,_,.func fd,_⟩=>(match codeIn K fd.code fd.qualname&&keepIn K (.ref f)&&isFn K (.ref f) with
   |true=>some (f,fd)
   |false=>none)
  |_=>none)
 |_=>none
noncomputable def E_(m q:Str)(st:Stmt):FuncData:=fnOf m q (aZ st) (aL st) (au st) .none .none .none .none none .none .none
noncomputable def zu(K:Frag)(b:Bd):Bool:=ug K b.n&&plainGet K (eF K b.n) Str.empty&&hasDictIn K (eF K b.n)&&plainOver K (eF K b.n)&&findIn K (.ref (eF K b.n)) "__setattr__"==some (some (.builtin "object.__setattr__"))&&makesIn K (eF K b.n)&&keepIn K (.ref (eF K b.n))&&b.fs.all (λf=>findIn K (.ref (eF K b.n)) f==some none)
noncomputable def wR(b:Bd)(s:Shared):List (Option FuncData)×Bool:=(b.ms.map λp=>(lR (bY s.heap) (eF (bY s.heap) b.n) p.1).map λq=>nZ q.2,zu (bY s.heap) b)
noncomputable def wU(b:Bd):List (Option FuncData)×Bool:=(b.ms.map λp=>some (E_ p.1 p.2.1 p.2.2),true)
theorem zj6{p q:Program}{loose:List Str}{Xt:Shared->Bool}{N:Nat}{fs:List (Str×Stmt)}{ms:List uh}{xs:List (Nat×Str)}{l:Lk}{b:Bd}(h:LeftO p q loose Xt (jV fs ms xs l) (lF fs ms) N)(e:∀w,(openEnds treeTable p w N).map (wR b)=some (wU b)) :
  LeftO p q loose Xt (λs=>(jV fs ms xs l s,wR b s)) (λw=>(lF fs ms w,wU b)) N:=by
 intro w;have h:=h w;have e:=e w;cases z:openEnds treeTable p w N with
 |none=>rw[z] at e;cases e
 |some s=>
  rw[z] at h e;have e:wR b s=wU b:=cW e;have h:=cW h;have h1:=lq Prod.fst h;have h2:=lq Prod.snd h;show some (_,_,_)=some (_,_,_);rw[e];exact lq some (Prod.ext h1 (Prod.ext h2 rfl))
noncomputable def lU(o:Obj):Option Value:=match o.data with
 |.fields vs=>(match (vs[1]? : Option Value) with
  |some (.str q _)=>(match q=="plain_rings" with
   |true=>vs[11]?
   |false=>none)
  |_=>none)
 |_=>none
noncomputable def bmB(K:Frag):Bool:=match nsIn K mainGlobals "__builtins__" with
 |some (some (.ref bm))=>(match K.lookup bm with
  |some ⟨.type "module",some d,.plain,_⟩=>d==builtinsNs&&bm != builtinsNs&&bm != mainGlobals
  |_=>false)
 |_=>false
noncomputable def Hg(h:Heap)(P:Addr):Bool:=match h.get? P with
 |some o=>qK o
 |none=>false
noncomputable def Bc(K:Frag)(h:Heap):Bool:=match wO K "plain_rings" with
 |some q=>(match q.2.code with
  |.ref c=>(match (K.lookup c).bind lU with
   |some (.ref P)=>codeHdIn K c P&&(K.lookup P).isNone&&Hg h P&&bmB K&&K.all (λr=>match lU r.2 with
    |some (.ref p)=>p==P
    |_=>true)
   |_=>false)
  |_=>false)
 |none=>false
noncomputable def n6(s:Shared):Bool:=Bc (bY s.heap) s.heap
theorem zhk{p q:Program}{loose:List Str}{Xt:Shared->Bool}{N:Nat}{α:Type}{Yf:Shared->α}{Ya:World->α}(h:LeftO p q loose Xt Yf Ya N)(e:∀w,(openEnds treeTable p w N).map n6=some true) :
  LeftO p q loose Xt (λs=>(Yf s,n6 s)) (λw=>(Ya w,true)) N:=by
 intro w;have h:=h w;have e:=e w;cases z:openEnds treeTable p w N with
 |none=>rw[z] at h;cases h
 |some s=>
  rw[z] at h e;have h:=cW h;have e:n6 s=true:=cW e;show some (_,(Yf s,n6 s))=_;have h1:openSeen q loose (importedModules p.main.body) Xt true s=openGood q loose:=lq Prod.fst h;have h2:Yf s=Ya w:=lq Prod.snd h;rw[e,h1,h2]
end Mi
namespace eZ
open PySem PySem.Spec PyProof.Rows PySem.W L2 Mi
noncomputable def top(i:Nat):Stmt:=PySem.Challenge.pw_ringhues_k21_whole_rounds_and_all_tied.main.body.getD i (.Pass ⟨0,0,0,0⟩)
noncomputable def Fb:Stmt:=(fB (top 25)).getD 0 (.Pass ⟨0,0,0,0⟩)
noncomputable def Hj:Stmt:=(fB (top 25)).getD 1 (.Pass ⟨0,0,0,0⟩)
noncomputable def Fd:Stmt:=(fB (top 25)).getD 2 (.Pass ⟨0,0,0,0⟩)
noncomputable def Fe:Stmt:=(fB (top 25)).getD 3 (.Pass ⟨0,0,0,0⟩)
noncomputable def Fg:Stmt:=(fB (top 25)).getD 4 (.Pass ⟨0,0,0,0⟩)
noncomputable def Hl:Stmt:=(fB (top 25)).getD 5 (.Pass ⟨0,0,0,0⟩)
noncomputable def Fj:Stmt:=(fB (top 25)).getD 6 (.Pass ⟨0,0,0,0⟩)
noncomputable def bd:Bd:=⟨"Board",["ends","spots","apart","alike"],[("__init__","Board.__init__",Fb),("far_apart","Board.far_apart",Hj),("settled","Board.settled",Fd),("ties_left","Board.ties_left",Fe),("bound","Board.bound",Fg),("narrowest","Board.narrowest",Hl),("all_free","Board.all_free",Fj)]⟩
noncomputable def fs1:List (Str×Stmt):=(("is_whole" : Str),top 8)::(("is_within" : Str),top 9)::(("is_row" : Str),top 10)::(("check_most" : Str),top 11)::(("is_web" : Str),top 14)::(("web_of" : Str),top 15)::(("is_many" : Str),top 16)::(("is_place" : Str),top 17)::(("is_tie" : Str),top 18)::(("tie_by" : Str),top 19)::(("check_web" : Str),top 20)::(("check_place" : Str),top 21)::(("tied_to" : Str),top 22)::(("all_ends" : Str),top 23)::(("ring_board" : Str),top 26)::(("is_ring" : Str),top 29)::(("check_ring" : Str),top 30)::(("lowest_terms" : Str),top 31)::(("first_hues" : Str),top 33)::(("first_among" : Str),top 34)::(("first_spot" : Str),top 35)::(("can_settle" : Str),top 36)::(("search" : Str),top 37)::(("plain_rings" : Str),top 40)::(("has_room" : Str),top 41)::[]
noncomputable def rQ:List (Str×Stmt):=(("shortest" : Str),top 42)::(("is_plain" : Str),top 43)::(("without" : Str),top 45)::(("untied" : Str),top 46)::(("topped" : Str),top 47)::(("put_beside" : Str),top 48)::(("with_place" : Str),top 49)::(("joined" : Str),top 50)::(("names_behind" : Str),top 51)::(("names_but" : Str),top 52)::(("renamed" : Str),top 53)::(("needed_places" : Str),top 55)::(("is_needed" : Str),top 56)::(("fewest_plain" : Str),top 58)::(("loose_ties" : Str),top 60)::(("is_tight" : Str),top 61)::(("is_loose" : Str),top 62)::(("_law_cell" : Str),top 64)::(("_law_pen" : Str),top 65)::(("_law_draw" : Str),top 66)::(("_law_shorter" : Str),top 67)::(("_law_round" : Str),top 68)::(("_law_all_tied" : Str),top 69)::(("_law_round_right" : Str),top 70)::(("_law_top_right" : Str),top 71)::(("law" : Str),top 72)::[]
noncomputable abbrev fs:List (Str×Stmt):=fs1++rQ
noncomputable def lk:Lk:=⟨[],[("MOST_PLACES",8),("MOST_SPOTS",24),("SO_OFTEN",27720)],["all","bool","divmod","enumerate","int","isinstance","len","list","max","min","range","sorted","tuple","zip"],[],[]⟩
noncomputable def ms:List uh:=[]
noncomputable def xs:List (Nat×Str):=[]
noncomputable abbrev pv:Program:=PySem.Challenge.pw_ringhues_k21_whole_rounds_and_all_tied
noncomputable def qv:Program:={pv with main:={pv.main with body:=[pv.main.body.getD 72 (.Pass ⟨0,0,0,0⟩)]}}
noncomputable def loose:List Str:=(["HueError","NoRing","NoPlace","Apart","NoWeb","TooGreat","is_whole","is_within","is_row","check_most","MOST_PLACES","is_web","web_of","is_many","is_place","is_tie","tie_by","check_web","check_place","tied_to","all_ends","Board","ring_board","MOST_SPOTS","is_ring","check_ring","lowest_terms","first_hues","first_among","first_spot","can_settle","search","SO_OFTEN","plain_rings","has_room","shortest","is_plain","without","untied","topped","put_beside","with_place","joined","names_behind","names_but","renamed","needed_places","is_needed","fewest_plain","loose_ties","is_tight","is_loose","_law_cell","_law_pen","_law_draw","_law_shorter","_law_round","_law_all_tied","_law_round_right","_law_top_right"]:List String).map Str.ofString
theorem zmd(w:World):(openEnds treeTable pv w 20000).map (λs=>openSeen qv loose (importedModules pv.main.body) (λs=>xlAt qv [] s&&recOk [] s) true s)=some (openGood qv loose):=by
 kernel_rfl
theorem zlS(w:World):(openEnds treeTable pv w 20000).map (Mf fs1)=some (fs1.map λp=>some (vQ p.1 p.2)):=by
 kernel_rfl
theorem zlo(w:World):(openEnds treeTable pv w 20000).map (Mf rQ)=some (rQ.map λp=>some (vQ p.1 p.2)):=by
 kernel_rfl
theorem zlr(w:World):(openEnds treeTable pv w 20000).map (Xl ms xs lk)=some (ms.map (λm=>some (Bb m.q m.st)),true):=by
 kernel_rfl
theorem ws:PySem.Challenge.rw_ringhues_k21_whole_rounds_and_all_tied.wellSaid=true:=by
 kernel_rfl
theorem zko(w:World):(openEnds treeTable pv w 20000).map (wR bd)=some (wU bd):=by
 kernel_rfl
theorem zlV:LeftO pv qv loose (λs=>xlAt qv [] s&&recOk [] s) (λs=>(jV fs ms xs lk s,wR bd s)) (λw=>(lF fs ms w,wU bd)) 20000:=zj6 (zfd zmd zlS zlo zlr) zko
theorem zlB(w:World):(openEnds treeTable pv w 20000).map n6=some true:=by
 kernel_rfl
theorem left:LeftO pv qv loose (λs=>xlAt qv [] s&&recOk [] s) (λs=>((jV fs ms xs lk s,wR bd s),n6 s)) (λw=>((lF fs ms w,wU bd),true)) 20000:=zhk zlV zlB
end eZ
namespace L2
open PySem PySem.Spec PyProof.Rows
theorem fH{α:Sort u}{β:Sort v}{A B C:α->β->Prop}{P:Prop}(h:∃x y,A x y/\B x y/\C x y)(k:∀x y,A x y->B x y->C x y->P):P:=by
 obtain⟨x,y,a,b,c⟩:=h;exact k x y a b c
theorem Qa{α:Sort u}{β:Sort v}{γ:Sort w}{A B:α->β->Prop}{C D:α->β->γ->Prop}{P:Prop}(h:∃x y,A x y/\B x y/\∃z,C x y z/\D x y z)(k:∀x y,A x y->B x y->∀z,C x y z->D x y z->P):P:=by
 obtain⟨x,y,a,b,z,c,d⟩:=h;exact k x y a b z c d
theorem vR{α:Sort u}{A B:α->Prop}{P:Prop}(h:∃x,A x/\B x)(k:∀x,A x->B x->P):P:=by
 obtain⟨x,a,b⟩:=h;exact k x a b
noncomputable abbrev Key:=Sum Int Str
noncomputable def zx:Key->Value->Bool
 |.inl k,v=>Value.isInt k v
 |.inr x,v=>Value.isStrOf x v
noncomputable def Qc(w:World):Key->Int
 |.inl k=>hashInt k
 |.inr x=>hashStr w x
theorem wV:∀{k:Key} {v:Value},zx k v=true->(∃i t,k=Sum.inl i/\v=Value.int i t)\/(∃x t,k=Sum.inr x/\v=Value.str x t)
 |.inl i,v,h=>by
  obtain⟨t,e⟩:=Value.isInt_shape (k:=i) (v:=v) h;exact .inl ⟨i,t,rfl,e⟩
 |.inr x,v,h=>by
  obtain⟨t,e⟩:=Value.isStrOf_shape (x:=x) (v:=v) h;exact .inr ⟨x,t,rfl,e⟩
theorem zlJ(a b:Int):decide ((Sum.inl a:Key)=Sum.inl b)=(a==b):=by
 by_cases e:a=b
 ·subst e;simp
 ·have h:¬(Sum.inl a:Key)=Sum.inl b:=λq=>e (Sum.inl.inj q);rw[tM h];exact(D_.mpr e).symm
theorem zlK(a b:Str):decide ((Sum.inr a:Key)=Sum.inr b)=decide (a=b):=by
 by_cases e:a=b
 ·subst e;simp
 ·have h:¬(Sum.inr a:Key)=Sum.inr b:=λq=>e (Sum.inr.inj q);rw[tM h,tM e]
theorem zmn(a:Int)(b:Str):decide ((Sum.inl a:Key)=Sum.inr b)=false:=tM (λq=>nomatch q)
theorem zlM(a:Str)(b:Int):decide ((Sum.inr a:Key)=Sum.inl b)=false:=tM (λq=>nomatch q)
noncomputable def mV(prog:Program)(w:World):PySem.KeyKind prog w Key where
 is:=zx
 hash:=Qc w
 inj:=λv a b ha hb=>by
  rcases wV ha with ⟨i,t,rfl,rfl⟩|⟨x,t,rfl,rfl⟩
  ·rcases wV hb with ⟨j,u,rfl,e⟩|⟨y,u,rfl,e⟩
   ·injection e with e1 _;rw[e1]
   ·exact nomatch e
  ·rcases wV hb with ⟨j,u,rfl,e⟩|⟨y,u,rfl,e⟩
   ·exact nomatch e
   ·injection e with e1 _;rw[e1]
 byValue:=λk v h=>by
  rcases wV h with ⟨i,t,rfl,rfl⟩|⟨x,t,rfl,rfl⟩<;>rfl
 pyHash:=λhv h=>by
  rcases wV hv with ⟨i,t,rfl,rfl⟩|⟨x,t,rfl,rfl⟩
  ·exact wpAny_pyHash_int h
  ·exact wpAny_pyHash_str h
 eqBool:=λhu hv h=>by
  rcases wV hu with ⟨i,t,rfl,rfl⟩|⟨x,t,rfl,rfl⟩
  ·rcases wV hv with ⟨j,u,rfl,rfl⟩|⟨y,u,rfl,rfl⟩
   ·rw[zlJ] at h;exact wpAny_eqBool_int h
   ·rw[zmn] at h;exact SeqAt.EqAt.int_str i t y u _ _ _ _ h
  ·rcases wV hv with ⟨j,u,rfl,rfl⟩|⟨y,u,rfl,rfl⟩
   ·rw[zlM] at h;exact SeqAt.EqAt.str_int x t j u _ _ _ _ h
   ·rw[zlK] at h;exact wpAny_eqBool_str h
 «strs»:=λk x t v h=>by
  rcases wV h with ⟨i,u,rfl,e⟩|⟨y,u,rfl,e⟩
  ·exact nomatch e
  ·injection e with e1 _;subst e1;cases v<;>rfl
inductive V where
 |non|bl (b:Bool)|int (i:Int)|str (x:Str)|Bf (b:Array UInt8)|flt (b:UInt64)|ref (a:Addr)|ty (n:String)
 deriving DecidableEq
noncomputable def RelV:V->Value->Prop
 |.non,u=>u=Value.none
 |.bl b,u=>u=Value.bool b
 |.int i,u=>∃t,u=Value.int i t
 |.str x,u=>∃t,u=Value.str x t
 |.Bf b,u=>∃t,u=Value.bytes b t
 |.flt b,u=>∃t,u=Value.float b t
 |.ref a,u=>u=Value.ref a
 |.ty n,u=>u=Value.type n
noncomputable abbrev Vals:List V->List Value->Prop:=Paired RelV
theorem Vals.length{xs:List V}{us:List Value}(r:Vals xs us):xs.length=us.length:=Paired.length r
theorem Vals.get:∀{xs:List V} {us:List Value} {i:Nat} {x:V},Vals xs us->xs[i]?=some x->∃u,us[i]?=some u/\RelV x u
 |_,_,_,_,.nil,e=>by simp at e
 |_,_,0,_,.cons r _,e=>by simp at e;subst e;exact⟨_,rfl,r⟩
 |_,_,i+1,x,.cons _ t,e=>by
  obtain⟨u,h1,h2⟩:=Vals.get (i:=i) (x:=x) t (by simpa using e);exact⟨u,by simpa using h1,h2⟩
theorem Vals.set{x:V}{u:Value}(r:RelV x u):∀{xs:List V} {us:List Value} (i:Nat),Vals xs us->Vals (xs.set i x) (us.set i u)
 |_,_,_,.nil=>.nil
 |_,_,0,.cons _ t=>.cons r t
 |_,_,i+1,.cons q t=>.cons q (Vals.set r i t)
theorem Vals.append{xs ys:List V}{us ws:List Value}(h:Vals xs us)(s:Vals ys ws):Vals (xs++ys) (us++ws):=by
 induction h with
 |nil=>exact s
 |cons r _ ih=>exact .cons r ih
theorem Vals.take:∀{xs:List V} {us:List Value} (n:Nat),Vals xs us->Vals (xs.take n) (us.take n)
 |_,_,0,_=>.nil
 |_,_,_+1,.nil=>.nil
 |_,_,n+1,.cons r t=>.cons r (Vals.take n t)
theorem Vals.drop:∀{xs:List V} {us:List Value} (n:Nat),Vals xs us->Vals (xs.drop n) (us.drop n)
 |_,_,0,r=>r
 |_,_,_+1,.nil=>.nil
 |_,_,n+1,.cons _ t=>Vals.drop n t
noncomputable def rT:Option V->Option Value->Prop
 |some v,some u=>RelV v u
 |none,none=>True
 |_,_=>False
noncomputable def KV{κ:Type}:List (κ×V)->List (κ×Value)->Prop:=Paired λ(p:κ×V) (q:κ×Value)=>p.1=q.1/\RelV p.2 q.2
noncomputable def kV:Key->V
 |.inl i=>.int i
 |.inr x=>.str x
inductive HO where
 |lst (xs:List V)
 |tup (xs:List V)
 |dK (kvs:List (Key×V))|dT (kvs:List (List Key×V))
 |set (S:Int->Bool) (n:Nat)
 |ins (C dx:Addr) (fs:List (Str×V))
 |own (x:Addr)
 |xd (fs:List (Str×V))
 |met (f x:Addr)
 |rng (lo hi:Int)
 |n8 (o:Obj) (u:HO)
 |lV (ps:Array Value)
 |ext (U:Heap->Prop)
noncomputable abbrev Hp:=Addr->Option HO
noncomputable def upd(H:Hp)(a:Addr)(o:HO):Hp:=λb=>if b=a then some o else H b
theorem iH{H:Hp}{a:Addr}{o:HO}:upd H a o a=some o:=by unfold upd;rw[if_pos rfl]
theorem bZ{H:Hp}{a b:Addr}{o:HO}(h:b≠a):upd H a o b=H b:=by unfold upd;rw[if_neg h]
theorem Xm{H:Hp}{a:Addr}{o u:HO}:upd (upd H a o) a u=upd H a u:=by
 funext b;unfold upd;split<;>rfl
theorem wW{H:Hp}{a b:Addr}{o:HO}(h:H a=some o)(h':H b=none):a≠b:=by
 intro e;subst e;rw[h] at h';cases h'
section
variable (P:Program)(w:World)
noncomputable def bI(H:Hp)(h:Heap)(a:Addr):HO->Prop
 |.lst xs=>xs.length<=sizeLine/\∃(its:List Value) (n:Nat),Vals xs its/\h.get? a=some {cls:=.type "list",data:=.seq its.toArray n}
 |.tup xs=>xs.length<=sizeLine/\∃its:List Value,Vals xs its/\IsTup h a its.toArray
 |.dK kvs=>kvs.length<=sizeLine/\(a==sysModules)=false/\∃vs,KV kvs vs/\h.DictOf (mV P w) a vs
 |.dT kvs=>kvs.length<=sizeLine/\(a==sysModules)=false/\∃xs:List (List Key×Addr×Value),
   Paired (λ(p:List Key×V) (q:List Key×Addr×Value)=>p.1=q.1/\H q.2.1=some (.tup (p.1.map kV))/\RelV p.2 q.2.2) kvs xs /\
   ∃o es ep,h.get? a=some o/\o.ExactDict/\o.data=.dict es ep/\es.toList=xs.map (entryOfKey (tupleKind (mV P w)))/\(xs.map (·.1)).Nodup
 |.set S n=>h.SetOf (intKind P w) a S n
 |.ins C dx fs=>H dx=some (.own a)/\fs.length<=1000/\dx≠a/\h.get? a=some (PySem.W.instObj C dx) /\
   ∃mA,h.Ns1 dx mA/\(∀f,rT (fs.lookup f) (mA f))/\PySem.Within mA (fs.map (·.1))
 |.own _=>∃o,h.get? a=some o
 |.xd fs=>∃mA,h.Ns1 a mA/\∀f,rT (fs.lookup f) (mA f)
 |.rng lo hi=>∃t u v,h.get? a=some {cls:=.type "range",data:=.fields #[.int lo t,.int hi u,.int 1 v]}
 |.n8 o u=>h.get? a=some o/\bI H h a u
 |.lV ps=>h.get? a=some {cls:=.none,data:=.fields ps}
 |.met f x=>h.get? a=some (PySem.W.methodObj (.ref f) (.ref x))
 |.ext U=>U h/\(∃o,h.get? a=some o)/\∀h1 h2:Heap,U h1->(∀o,h1.get? a=some o->h2.get? a=some o)->U h2
def iV(H:Hp)(h:Heap):Prop:=∀a o,H a=some o->bI P w H h a o
end
section
variable {P:Program}{w:World}{H H':Hp}{h h':Heap}{a:Addr}{o:HO}
theorem bI.lt(x:bI P w H h a o):a<h.objs.size:=by
 cases o with
 |lst xs=>obtain⟨_,_,_,_,e⟩:=x;exact bQ e
 |tup xs=>obtain⟨_,_,_,p⟩:=x;exact p.lt
 |dK kvs=>obtain⟨_,_,_,_,o,_,_,e,_⟩:=x;exact bQ e
 |dT kvs=>obtain⟨_,_,_,_,o,_,_,e,_⟩:=x;exact bQ e
 |set S n=>obtain⟨o,_,_,_,e,_⟩:=x;exact bQ e
 |ins C dx fs=>obtain⟨_,_,_,e,_⟩:=x;exact bQ e
 |own y=>obtain⟨_,e⟩:=x;exact bQ e
 |xd fs=>obtain⟨_,⟨_,_,_,e,_⟩,_⟩:=x;exact bQ e
 |rng lo hi=>obtain⟨_,_,_,e⟩:=x;exact bQ e
 |n8 ob u=>obtain⟨e,_⟩:=x;exact bQ e
 |lV ps=>exact bQ (show h.get? a=some _ from x)
 |met f y=>exact bQ (show h.get? a=some _ from x)
 |ext U=>obtain⟨_,⟨_,e⟩,_⟩:=x;exact bQ e
theorem Xn{α β:Type}{F G:α->β->Prop}:∀{l₁:List α} {l₂:List β},Paired F l₁ l₂->(∀a b,F a b->G a b)->Paired G l₁ l₂
 |_,_,.nil,_=>.nil
 |_,_,.cons r t,f=>.cons (f _ _ r) (Xn t f)
theorem bI.stay(x:bI P w H h a o)(k:∀b u,(b=a\/H b=some (.own a))->h.get? b=some u->h'.get? b=some u)
  (ho:∀b,H b=some (.own a)->H' b=some (.own a)) (ht:∀b xs,H b=some (.tup xs)->H' b=some (.tup xs)):bI P w H' h' a o:=by
 induction o with
 |lst xs=>obtain⟨z,its,n,r,e⟩:=x;exact⟨z,its,n,r,k _ _ (.inl rfl) e⟩
 |tup xs=>obtain⟨z,its,r,ob,e,c⟩:=x;exact⟨z,its,r,ob,k _ _ (.inl rfl) e,c⟩
 |dK kvs=>obtain⟨z,y,vs,r,ob,es,ep,e,c⟩:=x;exact⟨z,y,vs,r,ob,es,ep,k _ _ (.inl rfl) e,c⟩
 |dT kvs=>
  obtain⟨z,y,xs,r,ob,es,ep,e,c⟩:=x;exact⟨z,y,xs,Xn r λp q z=>⟨z.1,ht _ _ z.2.1,z.2.2⟩,ob,es,ep,k _ _ (.inl rfl) e,c⟩
 |set S n=>obtain⟨ob,es,ep,t,e,c⟩:=x;exact⟨ob,es,ep,t,k _ _ (.inl rfl) e,c⟩
 |ins C dx fs=>
  obtain⟨d,z,ne,e,mA,⟨od,es,ep,e2,c⟩,r⟩:=x;exact⟨ho _ d,z,ne,k _ _ (.inl rfl) e,mA,⟨od,es,ep,k _ _ (.inr d) e2,c⟩,r⟩
 |own y=>obtain⟨ob,e⟩:=x;exact⟨ob,k _ _ (.inl rfl) e⟩
 |xd fs=>obtain⟨mA,⟨od,es,ep,e,c⟩,r⟩:=x;exact⟨mA,⟨od,es,ep,k _ _ (.inl rfl) e,c⟩,r⟩
 |rng lo hi=>obtain⟨t,u,v,e⟩:=x;exact⟨t,u,v,k _ _ (.inl rfl) e⟩
 |n8 ob u ih=>obtain⟨e,q⟩:=x;exact⟨k _ _ (.inl rfl) e,ih q⟩
 |lV ps=>
  have e:h.get? a=some {cls:=.none,data:=.fields ps}:=x;show h'.get? a=some {cls:=.none,data:=.fields ps};exact k a _ (.inl rfl) e
 |met f y=>
  have e:h.get? a=some (PySem.W.methodObj (.ref f) (.ref y)):=x;show h'.get? a=some (PySem.W.methodObj (.ref f) (.ref y));exact k a _ (.inl rfl) e
 |ext U=>obtain⟨p,⟨o,e⟩,st⟩:=x;exact⟨st _ _ p λo q=>k _ _ (.inl rfl) q,⟨o,k _ _ (.inl rfl) e⟩,st⟩
theorem iV.lt(x:iV P w H h)(e:H a=some o):a<h.objs.size:=(x a o e).lt
theorem iV.fresh(x:iV P w H h)(e:h.objs.size<=a):H a=none:=by
 cases q:H a with
 |none=>rfl
 |some u=>exact absurd (gb (x.lt q) e) (pN _)
theorem iV.kept(x:iV P w H h)(k:∀b u,h.get? b=some u->h'.get? b=some u):iV P w H h':=λa o e=>
 (x a o e).stay (λb u _ q=>k b u q) (λ_ q=>q) λ_ _ q=>q
theorem iV.laid(x:iV P w H h)(k:∀b u,h.get? b=some u->h'.get? b=some u)(hp:h.objs.size<=a)(new:bI P w (upd H a o) h' a o):iV P w (upd H a o) h':=λb u e=>by
 have hn:=x.fresh hp;by_cases hb:b=a
 ·subst hb;rw[iH] at e;cases e;exact new
 ·rw[bZ hb] at e;exact(x b u e).stay (λc v _ q=>k c v q) (λc q=>by rw[bZ (wW q hn)];exact q) λc xs q=>by rw[bZ (wW q hn)];exact q
end
def Rd(H:Hp)(a:Addr)(u:HO):Prop:=H a=some u\/∃o,H a=some (.n8 o u)
theorem Rd.ok{P:Program}{w:World}{H:Hp}{h:Heap}{a:Addr}{u:HO}(r:Rd H a u)(x:iV P w H h):bI P w H h a u:=by
 rcases r with r|⟨o,r⟩
 ·exact x a u r
 ·obtain⟨_,q⟩:=x a _ r;exact q
noncomputable def Ho:Option HO->Prop
 |some (.lst _)=>True
 |some (.dK _)=>True
 |some (.dT _)=>True
 |some (.set _ _)=>True
 |some (.ins _ _ _)=>True
 |some (.ext _)=>True
 |_=>False
section
variable {P:Program}{w:World}{H:Hp}{h h':Heap}{x e:Addr}{o':HO}
theorem iV.write(ok:iV P w H h)(mu:Ho (H x))(he:e=x\/H e=some (.own x))(k:∀b u,b≠e->h.get? b=some u->h'.get? b=some u)(Fl:∃u,h'.get? e=some u)
  (new:bI P w (upd H x o') h' x o'):iV P w (upd H x o') h':=λb u q=>by
 have Hq:∀c y,H c=some (.own y)->c≠x:=λc y r z=>by subst z;rw[r] at mu;exact mu
 have Qd:∀c xs,H c=some (.tup xs)->c≠x:=λc xs r z=>by subst z;rw[r] at mu;exact mu
 by_cases hb:b=x
 ·subst hb;rw[iH] at q;cases q;exact new
 ·rw[bZ hb] at q;by_cases Bg:b=e
  ·have q':H b=some (.own x):=by
    rcases he with z|z
    ·exact absurd (Bg.trans z) hb
    ·rw[Bg];exact z
   rw[q] at q';cases q';obtain⟨v,hv⟩:=Fl;exact⟨v,by rw[Bg];exact hv⟩
  ·refine(ok b u q).stay (λc v hc r=>k c v ?_ r) (λc r=>by rw[bZ (Hq c b r)];exact r) λc xs r=>by rw[bZ (Qd c xs r)];exact r
   rcases hc with rfl|hc
   ·exact Bg
   ·rintro rfl;rcases he with z|z
    ·exact Hq c b hc z
    ·rw[hc] at z;cases z;exact hb rfl
end
noncomputable def i_:Str:="plain_rings.<locals>.<lambda>"
noncomputable def qL:Bool:=true
def GoodC(H:Hp)(c:Addr):Prop:=∃oc u vs t,H c=some (.n8 oc u)/\oc.data=.fields vs/\vs[1]?=some (.str i_ t)
inductive fU (H:Hp):List Value->Prop
 |nil:fU H []
 |cons (l m:Int) (c:Addr) (r:List Value):GoodC H c->fU H r->fU H (rawInt l::rawInt m::.ref c::r)
theorem fU.app{H:Hp}{a b:List Value}(x:fU H a)(y:fU H b):fU H (a++b):=by
 induction x with
 |nil=>exact y
 |cons l m c r g _ ih=>exact .cons l m c _ g ih
theorem fU.mono{H H':Hp}(k:∀b o u,H b=some (.n8 o u)->H' b=some (.n8 o u)){a:List Value}(x:fU H a):fU H' a:=by
 induction x with
 |nil=>exact .nil
 |cons l m c r g _ ih=>
  obtain⟨oc,u,vs,t,e,q⟩:=g;exact .cons l m c _ ⟨oc,u,vs,t,k _ _ _ e,q⟩ ih
noncomputable def jW(K:W.Frag)(c P:Addr):Bool:=match K.lookup c with
 |some o=>(match o.data with
  |.fields vs=>(match (vs[1]? : Option Value) with|some (.str q _)=>q=="plain_rings"|_=>false)&&(match (vs[11]? : Option Value) with|some (.ref p)=>p==P|_=>false)
  |_=>false)
 |none=>false
def Bh(K:W.Frag)(H:Hp):Prop:=qL=true->∀c P,jW K c P=true->∃ps,H P=some (.lV ps)/\fU H ps.toList
structure Un(fs ex:List Addr)(H H':Hp)(h h':Heap):Prop where
 keep:∀b o,h.get? b=some o->H b=none->b∉fs->b∉ex->h'.get? b=some o
 slot:∀b o,h.get? b=some o->H b=none->b∈fs->b∉ex->∃sl,h'.get? b=some {o with slots:=sl}
 free:∀b o,h.get? b=some o->H b=none->b∉ex->H' b=none
 there:∀b o,h.get? b=some o->b∉ex->∃o',h'.get? b=some o'
 tups:∀b xs,H b=some (.tup xs)->H' b=some (.tup xs)
 jd:∀b o u,H b=some (.n8 o u)->H' b=some (.n8 o u)
 jD:∀b ps,H b=some (.lV ps)->∃more,H' b=some (.lV (ps++more))/\fU H' more.toList
section
variable {fs fs' ex ex':List Addr}{H H1 H2:Hp}{h h1 h2 h':Heap}{a x e:Addr}{o:HO}
theorem Un.any(u:Un fs ex H H1 h h1){b:Addr}{ob:Obj}(q:h.get? b=some ob)(n:H b=none)(hx:b∉ex):∃sl,h1.get? b=some {ob with slots:=sl}:=by
 by_cases hb:b∈fs
 ·exact u.slot b ob q n hb hx
 ·exact⟨ob.slots,u.keep b ob q n hb hx⟩
theorem Un.kept(k:∀b u,h.get? b=some u->h'.get? b=some u):Un fs ex H H h h':=
 ⟨λb ob q _ _ _=>k b ob q,λb ob q _ _ _=>⟨ob.slots,k b ob q⟩,λ_ _ _ n _=>n,λb ob q _=>⟨ob,k b ob q⟩,λ_ _ q=>q,λ_ _ _ q=>q,λ_ ps q=>⟨#[],by rw[q];simp,.nil⟩⟩
theorem Un.refl:Un fs ex H H h h:=Un.kept λ_ _ q=>q
theorem Un.laid(k:∀b u,h.get? b=some u->h'.get? b=some u)(hp:h.objs.size<=a)(hn:H a=none):Un fs ex H (upd H a o) h h' where
 keep:=λb u q _ _ _=>k b u q
 slot:=λb u q _ _ _=>⟨u.slots,k b u q⟩
 free:=λb u q n _=>by rw[bZ (c7 (gb (bQ q) hp))];exact n
 there:=λb u q _=>⟨u,k b u q⟩
 tups:=λb xs q=>by rw[bZ (wW q hn)];exact q
 jd:=λb u xs q=>by rw[bZ (wW q hn)];exact q
 jD:=λb ps q=>⟨#[],by rw[bZ (wW q hn),q];simp,.nil⟩
theorem Un.write(mu:Ho (H x))(he:e=x\/H e=some (.own x))(k:∀b u,b≠e->h.get? b=some u->h'.get? b=some u)(Fl:∃u,h'.get? e=some u):Un fs ex H (upd H x o) h h':=by
 have hx:∀b,H b=none->b≠x:=λb n z=>by subst z;rw[n] at mu;exact mu
 have hb:∀b,H b=none->b≠e:=λb n z=>by
  subst z;rcases he with r|r
  ·exact hx b n r
  ·rw[n] at r;cases r
 have hm:∀b u,H b=some u->¬Ho (some u)->b≠x:=λb u q nm z=>by subst z;rw[q] at mu;exact nm mu
 refine⟨λb u q n _ _=>k b u (hb b n) q,λb u q n _ _=>⟨u.slots,k b u (hb b n) q⟩,λb u q n _=>by rw[bZ (hx b n)];exact n,λb u q _=>?_,
  λb xs q=>by rw[bZ (hm b _ q λz=>z)];exact q,λb u xs q=>by rw[bZ (hm b _ q λz=>z)];exact q,λb ps q=>⟨#[],by rw[bZ (hm b _ q λz=>z),q];simp,.nil⟩⟩
 by_cases Bg:b=e
 ·subst Bg;exact Fl
 ·exact⟨u,k b u Bg q⟩
end
noncomputable def Mg(h:Heap)(H:Hp):List Addr:=(List.range h.objs.size).filter λa=>(H a).isSome
noncomputable def mW(h:Heap)(H:Hp):Heap:=PySem.W.hideAll h (Mg h H)
theorem zgU(h:Heap)(H:Hp):(mW h H).objs.size=h.objs.size:=PySem.W.hideAll_size _ _
theorem zhc{h:Heap}{H:Hp}{b:Addr}{o:Obj}(e:h.get? b=some o)(n:H b=none):(mW h H).get? b=some o:=
 PySem.W.hideAll_get _ e λhm=>by
  have q:(H b).isSome=true:=(mQ.mp hm).2;rw[n] at q;simp at q
theorem zjt{h:Heap}{H:Hp}{b:Addr}{o:Obj}(e:(mW h H).get? b=some o):h.get? b=some o/\H b=none:=by
 have e':h.get? b=some o:=PySem.W.of_hideAll (Mg h H) e;refine⟨e',?_⟩;cases q:H b with
 |none=>rfl
 |some x=>
  have hm:b∈Mg h H:=mQ.mpr ⟨Ay.mpr (bQ e'),by simp[q]⟩;have z:(mW h H).get? b=none:=PySem.W.hideAll_none (Mg h H) hm;rw[z] at e;cases e
structure Mod(K:W.Frag)(mg:Str->Option Value)(base:Heap):Prop where
 wQ:K.In base
 glob:base.Ns mainGlobals mg
 blt:∃mb,base.Ns builtinsNs mb/\∀x:Str,x≠"__name__"->mb x=bootBuiltins x
 nolimit:base.NoLimit
structure Cx where
 prog:Program
 w:World
 K:W.Frag
 mg:Str->Option Value
 base:Heap
 A:Around
 N:List Str
 s₀:Shared
 H₀:Hp
 env:Env
 outer:List Env
 stack:List Env
 ex:List Addr
 fn:Str->Bool
 aj:Bool
 pn:List (Addr×Obj)
 xe:Value->Shared->Prop
noncomputable def frs(l:List Env):List Addr:=l.filterMap (·.frame)
noncomputable abbrev Cx.fs(X:Cx):List Addr:=frs X.outer
def Mh(sc:Scope)(x:Str):Prop:=sc.names.lookup x=some .local\/sc.names.lookup x=some .cell\/sc.names.lookup x=some .free
def Loc(sc:Scope)(x:Str):Prop:=sc.names.lookup x=some .local\/sc.names.lookup x=some .cell
def Look(env:Env)(h:Heap)(m:Str->Option Value)(x:Str)(u:Value):Prop:=
 (env.kindOf x=some .local/\m x=some u)\/((env.kindOf x=some .cell\/env.kindOf x=some .free)/\∃c,env.cells.lookup x=some c/\h.IsCell c (some u))
structure Cx.Ok(X:Cx):Prop where
 mod:Mod X.K X.mg X.base
 kind:X.env.scope.kind=.function
 glob:X.env.globals=mainGlobals
 blt:X.env.builtins=builtinsNs
 above:X.s₀.heap.objs.size<=X.env.locals
 inj:∀x y c,X.env.cells.lookup x=some c->X.env.cells.lookup y=some c->x=y
 has:∀x,(X.env.kindOf x=some .cell\/X.env.kindOf x=some .free)->∃c,X.env.cells.lookup x=some c
 cab:∀x c,X.fn x=true->X.env.cells.lookup x=some c->X.s₀.heap.objs.size<=c
 hd:X.aj=true->X.A.handled=none
 frames:X.A.frames=some X.stack
 stk:X.stack=X.outer\/(X.stack=X.env::X.outer/\X.env.frame=some X.env.locals)
 Xo:∀b∈X.ex,b≠X.env.locals/\∀x c,X.env.cells.lookup x=some c->c≠b
 bs:∀b o,X.base.get? b=some o->X.s₀.heap.get? b=some o/\X.H₀ b=none
 wX:X.base.objs.size<=X.s₀.heap.objs.size
 uo:∀b o,X.base.get? b=some o->b∉X.ex
 wY:∀b∈X.ex,b∉X.fs
 jE:X.s₀.heap.FunFrames X.base X.outer
 zy:(∀b∈X.fs,X.H₀ b=none)/\Bh X.K X.H₀
structure Inv(X:Cx)(ao:List (Addr×Obj))(Z:List (Option V))(H:Hp)(s:Shared):Prop where
 ok:X.Ok
 os:s.os=X.s₀.os
 bare:AllBare s.gens
 base:Un X.fs X.ex X.H₀ H X.s₀.heap s.heap
 loc:∃m,s.heap.Ns X.env.locals m/\∀(i:Nat) (x:Str) (v:V),X.N[i]?=some x->Z[i]?=some (some v)->Mh X.env.scope x->∃u,RelV v u/\Look X.env s.heap m x u
 cell:∀x c,X.env.cells.lookup x=some c->∃v,s.heap.IsCell c v
 free:H X.env.locals=none
 gq:∀x c,X.env.cells.lookup x=some c->H c=none
 pin:∀p∈X.pn++ao,s.heap.get? p.1=some p.2/\H p.1=none/\p.1≠X.env.locals/\p.1∉X.fs/\∀v,p.2.data≠.cell v
 hok:iV X.prog X.w H s.heap
 len:Z.length=X.N.length
section
variable {X:Cx}{ao:List (Addr×Obj)}{Z:List (Option V)}{H H':Hp}{s:Shared}{h':Heap}
theorem Cx.Ok.Qe(ok:X.Ok){b:Addr}{o:Obj}(e:X.base.get? b=some o):b∉X.fs:=λhb=>by
 have:=(ok.jE.mem hb).1;rw[e] at this;cases this
theorem Inv.bs(I:Inv X ao Z H s):∀b o,X.base.get? b=some o->s.heap.get? b=some o/\H b=none:=λb o e=>
 ⟨I.base.keep b o (I.ok.bs b o e).1 (I.ok.bs b o e).2 (I.ok.Qe e) (I.ok.uo b o e),I.base.free b o (I.ok.bs b o e).1 (I.ok.bs b o e).2 (I.ok.uo b o e)⟩
theorem Inv.bk(I:Inv X ao Z H s):∀b o,X.base.get? b=some o->s.heap.get? b=some o:=λb o e=>(I.bs b o e).1
theorem Inv.mod(I:Inv X ao Z H s):Mod X.K X.mg X.base:=I.ok.mod
theorem Inv.lW(I:Inv X ao Z H s):X.K.In s.heap:=I.ok.mod.wQ.keeps I.bk
theorem Inv.nolimit(I:Inv X ao Z H s):s.heap.NoLimit:=I.ok.mod.nolimit.keeps I.bk
theorem Inv.lt(I:Inv X ao Z H s):X.env.locals<s.heap.objs.size:=let ⟨_,hn,_⟩:=I.loc;hn.lt
theorem Inv.sz(I:Inv X ao Z H s):X.s₀.heap.objs.size<=s.heap.objs.size:=jO I.ok.above (rO I.lt)
theorem Inv.Bj(I:Inv X ao Z H s):Bh X.K H:=λon c P hc=>by
 obtain⟨ps,e,g⟩:=I.ok.zy.2 on c P hc;obtain⟨more,e2,g2⟩:=I.base.jD P ps e;exact⟨ps++more,e2,by rw[Array.toList_append];exact(g.mono I.base.jd).app g2⟩
theorem Inv.wZ(I:Inv X ao Z H s){a:Addr}(h:s.heap.objs.size<=a):a∉X.fs:=λhb=>by
 obtain⟨_,o,ho,_⟩:=I.ok.jE.mem hb;exact absurd (gb (bQ ho) (jO I.sz h)) (pN _)
theorem Inv.Bk(I:Inv X ao Z H s):∀x c,X.env.cells.lookup x=some c->c≠X.env.locals:=λx c e z=>by
 obtain⟨v,o,ho,hd⟩:=I.cell x c e;obtain⟨m,⟨o',es,ep,pP,Hr,_⟩,_⟩:=I.loc;rw[z,pP] at ho;cases ho;rw[Hr] at hd;cases hd
theorem Inv.jE(I:Inv X ao Z H s):s.heap.FunFrames X.base X.outer:=by
 have all:∀(l:List Env),(∀b∈frs l,b∈X.fs)->X.s₀.heap.FunFrames X.base l->s.heap.FunFrames X.base l:=by
  intro l
  induction l with
  |nil=>intro _ _;trivial
  |cons env r ih=>
   intro hs hl;obtain⟨hk,⟨L,o,hf,hn,ho,hd⟩,hr⟩:=hl;have hL:L∈X.fs:=hs L (by unfold frs;rw[Ed,hf];exact lQ);obtain⟨sl,e⟩:=I.base.slot L o ho (I.ok.zy.1 L hL) hL λz=>I.ok.wY L z hL;exact⟨hk,⟨L,_,hf,hn,e,hd⟩,ih (λb hb=>hs b (by unfold frs;rw[Ed,hf];exact iG _ hb)) hr⟩
 exact all X.outer (λ_ hb=>hb) I.ok.jE
theorem Inv.stack(I:Inv X ao Z H s):s.heap.FunFrames X.base X.stack:=by
 rcases I.ok.stk with e|⟨e,hf⟩
 ·rw[e];exact I.jE
 ·rw[e];obtain⟨m,hn,_⟩:=I.loc;refine .cons (by rw[I.ok.kind];decide) hf hn ?_ I.jE;exact DY (jO I.ok.wX I.ok.above)
theorem Inv.jX(I:Inv X ao Z H s):∀b∈frs X.stack,b∈X.env.locals::X.fs:=λb hb=>by
 rcases I.ok.stk with e|⟨e,hf⟩
 ·rw[e] at hb;exact iG _ hb
 ·rw[e] at hb;unfold frs at hb;rw[Ed,hf] at hb;exact hb
theorem Inv.mX(I:Inv X ao Z H s):∀b∈frs X.stack,H b=none:=λb hb=>by
 rcases iY.mp (I.jX b hb) with e|hb
 ·rw[e];exact I.free
 ·obtain⟨_,o,ho,_⟩:=I.ok.jE.mem hb;exact I.base.free b o ho (I.ok.zy.1 b hb) λz=>I.ok.wY b z hb
theorem Inv.step{g':Array GenState}{t':Nat}{d':Drawn}{ch:List Addr}(I:Inv X ao Z H s)
  (vU:∀b∈ch,(b∈X.ex\/X.s₀.heap.get? b=none)/\b≠X.env.locals/\(∀x c,X.env.cells.lookup x=some c->c≠b)/\∀p∈X.pn++ao,p.1≠b)
  (keep:∀b o,b≠X.env.locals->b∉X.fs->b∉ch->s.heap.get? b=some o->H b=none->h'.get? b=some o)
  (slot:∀b o,b≠X.env.locals->b∈X.fs->b∉ch->s.heap.get? b=some o->H b=none->∃sl,h'.get? b=some {o with slots:=sl}) (free:∀b o,b∉ch->s.heap.get? b=some o->H b=none->H' b=none)
  (there:∀b o,b∉ch->s.heap.get? b=some o->∃o',h'.get? b=some o')
  (tups:∀b xs,H b=some (.tup xs)->H' b=some (.tup xs)) (jd:∀b o u,H b=some (.n8 o u)->H' b=some (.n8 o u)) (jD:∀b ps,H b=some (.lV ps)->∃more,H' b=some (.lV (ps++more))/\fU H' more.toList)
  (ns:∀m,s.heap.Ns X.env.locals m->h'.Ns X.env.locals m) (hok:iV X.prog X.w H' h') (hg:AllBare g') :
  Inv X ao Z H' {s with heap:=h',gens:=g',drawn:=d',toks:=t'}:=by
 have Xp:∀b o,X.s₀.heap.get? b=some o->b≠X.env.locals:=λb o e=>c7 (gb (bQ e) I.ok.above);have Mj:∀b o,X.s₀.heap.get? b=some o->b∉X.ex->b∉ch:=λb o e hx hb=>by
  rcases(vU b hb).1 with z|z
  ·exact hx z
  ·rw[e] at z;cases z
 have cellK:∀x c,X.env.cells.lookup x=some c->∀v,s.heap.IsCell c v->h'.IsCell c v:=λx c e v hx=>vR hx λo ho hd=>by
  have Hs:c∉ch:=λz=>(vU c z).2.2.1 x c e rfl;by_cases hc:c∈X.fs
  ·obtain⟨sl,q⟩:=slot c o (I.Bk x c e) hc Hs ho (I.gq x c e);exact⟨_,q,hd⟩
  ·exact⟨o,keep c o (I.Bk x c e) hc Hs ho (I.gq x c e),hd⟩
 refine⟨I.ok,I.os,hg,⟨λb o e n hb hx=>?_,λb o e n hb hx=>?_,λb o e n hx=>?_,λb o e hx=>?_,λb xs e=>tups b xs (I.base.tups b xs e),λb o xs e=>jd b o xs (I.base.jd b o xs e),λb ps e=>?_⟩,?_,λx c e=>?_,?_,λx c e=>?_,λp hp=>?_,hok,I.len⟩
 ·exact keep b o (Xp b o e) hb (Mj b o e hx) (I.base.keep b o e n hb hx) (I.base.free b o e n hx)
 ·obtain⟨sl,e1⟩:=I.base.slot b o e n hb hx;obtain⟨sl',e2⟩:=slot b _ (Xp b o e) hb (Mj b o e hx) e1 (I.base.free b o e n hx);exact⟨sl',e2⟩
 ·obtain⟨o',e1⟩:=I.base.there b o e hx;exact free b o' (Mj b o e hx) e1 (I.base.free b o e n hx)
 ·obtain⟨o',e1⟩:=I.base.there b o e hx;exact there b o' (Mj b o e hx) e1
 ·obtain⟨m1,e1,g1⟩:=I.base.jD b ps e;obtain⟨m2,e2,g2⟩:=jD b _ e1;exact⟨m1++m2,by rw[e2,Array.append_assoc],by rw[Array.toList_append];exact(g1.mono jd).app g2⟩
 ·obtain⟨m,hn,hl⟩:=I.loc;refine⟨m,ns m hn,λi x v e1 e2 e3=>?_⟩;obtain⟨u,r,l⟩:=hl i x v e1 e2 e3;refine⟨u,r,?_⟩;rcases l with l|⟨k,c,e,z⟩
  ·exact .inl l
  ·exact .inr ⟨k,c,e,cellK x c e _ z⟩
 ·obtain⟨v,z⟩:=I.cell x c e;exact⟨v,cellK x c e v z⟩
 ·obtain⟨m,⟨o,_,_,ho,_⟩,_⟩:=I.loc;exact free _ o (λz=>(vU _ z).2.1 rfl) ho I.free
 ·obtain⟨v,o,ho,hd⟩:=I.cell x c e;exact free c o (λz=>(vU c z).2.2.1 x c e rfl) ho (I.gq x c e)
 ·obtain⟨e,n,ne,nf,d⟩:=I.pin p hp;have Hs:p.1∉ch:=λz=>(vU p.1 z).2.2.2 p hp rfl;exact⟨keep p.1 p.2 ne nf Hs e n,free p.1 p.2 Hs e n,ne,nf,d⟩
theorem Inv.un{t':Nat}(I:Inv X ao Z H s)(u:Un X.fs [] H H' s.heap h')(hok:iV X.prog X.w H' h'):Inv X ao Z H' {s with heap:=h',toks:=t'}:=by
 obtain⟨m,⟨o,es,ep,ho,r⟩,_⟩:=id I.loc;obtain⟨sl,hL⟩:=u.any ho I.free (by simp);exact I.step (g':=s.gens) (d':=s.drawn) (ch:=[]) (λ_ z=>nomatch z) (λb o _ hb _ e n=>u.keep b o e n hb (by simp)) (λb o _ hb _ e n=>u.slot b o e n hb (by simp)) (λb o _ e n=>u.free b o e n (by simp)) (λb o _ e=>u.there b o e (by simp)) u.tups u.jd u.jD (λm' hm=>by
  obtain⟨o',es',ep',pP,r'⟩:=hm;rw[ho] at pP;cases pP;exact⟨_,es',ep',hL,r'⟩) hok I.bare
theorem Inv.call{g':Array GenState}{t':Nat}{d':Drawn}{ch:List Addr}(I:Inv X ao Z H s)(u:Un (frs X.stack) ch H H' s.heap h')(hok:iV X.prog X.w H' h')(hg:AllBare g')
  (vU:∀b∈ch,(b∈X.ex\/X.s₀.heap.get? b=none)/\b≠X.env.locals/\(∀x c,X.env.cells.lookup x=some c->c≠b)/\∀p∈X.pn++ao,p.1≠b) :
  Inv X ao Z H' {s with heap:=h',gens:=g',drawn:=d',toks:=t'}:=by
 obtain⟨m,⟨o,es,ep,ho,r⟩,_⟩:=id I.loc;obtain⟨sl,hL⟩:=u.any ho I.free λz=>(vU _ z).2.1 rfl;exact I.step (ch:=ch) vU (λb o hL hb hc e n=>u.keep b o e n (λz=>(iY.mp (I.jX b z)).elim hL hb) hc) (λb o _ _ hc e n=>u.any e n hc) (λb o hc e n=>u.free b o e n hc) (λb o hc e=>u.there b o e hc) u.tups u.jd u.jD (λm' hm=>by
  obtain⟨o',es',ep',pP,r'⟩:=hm;rw[ho] at pP;cases pP;exact⟨_,es',ep',hL,r'⟩) hok hg
theorem Inv.turned{t':Nat}{it:Addr}(I:Inv X ao Z H s)(k:∀b o,b≠it->s.heap.get? b=some o->h'.get? b=some o)(hn:H it=none)(hL:it≠X.env.locals)
  (h1:it∈X.ex\/X.s₀.heap.objs.size<=it) (h2:∀x c,X.env.cells.lookup x=some c->c≠it) (h3:∀p∈X.pn++ao,p.1≠it):Inv X ao Z H {s with heap:=h',toks:=t'}:=by
 have zA:∀b u,H b=some u->b≠it:=λb u e z=>by rw[z,hn] at e;cases e
 refine I.step (g':=s.gens) (d':=s.drawn) (ch:=[it]) (λb hb=>?_) (λb o _ _ hc e _=>k b o (λz=>hc (by simp[z])) e) (λb o _ _ hc e _=>⟨o.slots,k b o (λz=>hc (by simp[z])) e⟩) (λ_ _ _ _ n=>n)
  (λb o hc e=>⟨o,k b o (λz=>hc (by simp[z])) e⟩) (λ_ _ e=>e) (λ_ _ _ e=>e) (λb ps e=>⟨#[],by rw[e];simp,.nil⟩) (λm hm=>?_) (λb u e=>?_) I.bare
 ·have e:b=it:=by simpa using hb
  subst e;exact⟨h1.imp id λz=>DY z,hL,h2,h3⟩
 ·obtain⟨o,es,ep,ho,r⟩:=hm;exact⟨o,es,ep,k _ o (Ne.symm hL) ho,r⟩
 ·refine(I.hok b u e).stay (λc v hc q=>k c v ?_ q) (λ_ q=>q) λ_ _ q=>q;rcases hc with z|z
  ·rw[z];exact zA b u e
  ·exact zA c _ z
theorem Inv.tok(I:Inv X ao Z H s)(t:Nat):Inv X ao Z H {s with toks:=t}:=I.un (h':=s.heap) (t':=t) Un.refl I.hok
theorem Inv.kept{t':Nat}(I:Inv X ao Z H s)(k:∀b u,s.heap.get? b=some u->h'.get? b=some u):Inv X ao Z H {s with heap:=h',toks:=t'}:=I.un (Un.kept k) (I.hok.kept k)
theorem Inv.laid{a:Addr}{o:HO}{t':Nat}(I:Inv X ao Z H s)(k:∀b u,s.heap.get? b=some u->h'.get? b=some u)(hp:s.heap.objs.size<=a)(new:bI X.prog X.w (upd H a o) h' a o) :
  Inv X ao Z (upd H a o) {s with heap:=h',toks:=t'}:=I.un (Un.laid k hp (I.hok.fresh hp)) (I.hok.laid k hp new)
theorem Inv.write{x e:Addr}{o:HO}{t':Nat}(I:Inv X ao Z H s)(mu:Ho (H x))(he:e=x\/H e=some (.own x))(k:∀b u,b≠e->s.heap.get? b=some u->h'.get? b=some u)(Fl:∃u,h'.get? e=some u)
  (new:bI X.prog X.w (upd H x o) h' x o):Inv X ao Z (upd H x o) {s with heap:=h',toks:=t'}:=I.un (Un.write mu he k Fl) (I.hok.write mu he k Fl new)
theorem Inv.jP{jq:List (Addr×Obj)}(I:Inv X ao Z H s)(h:∀p∈jq,s.heap.get? p.1=some p.2/\H p.1=none/\p.1≠X.env.locals/\p.1∉X.fs/\∀v,p.2.data≠.cell v):Inv X jq Z H s:=
 ⟨I.ok,I.os,I.bare,I.base,I.loc,I.cell,I.free,I.gq,λp hp=>(nJ.mp hp).elim (λz=>I.pin p (Gw _ z)) (h p),I.hok,I.len⟩
theorem Xq{N:List Str}(hN:N.Nodup){i j:Nat}{x:Str}(a:N[i]?=some x)(b:N[j]?=some x):i=j:=by
 obtain⟨h1,e1⟩:=f9.mp a;obtain⟨h2,e2⟩:=f9.mp b;exact(List.getElem_inj hN).mp (e1.trans e2.symm)
theorem Qf{M:Model}{A:Around}{E:Value->Shared->Prop}{i:Nat}{x:Str}{v:V}{u:Value}{Q:Unit->Shared->Prop}(I:Inv X ao Z H s)(hN:X.N.Nodup)(hi:X.N[i]?=some x)(hx:Loc X.env.scope x)(r:RelV v u)
  (h:∀s',Inv X ao (Z.set i (some v)) H s'->(∃a,Heap.SameBut a s.heap s'.heap/\(a=X.env.locals\/X.env.cells.lookup x=some a))->Q () s') (hf:X.fn x=true\/X.env.scope.names.lookup x=some .local:=by first|exact .inl rfl|exact .inr rfl|assumption):wpAny M A (storeName X.env x u) Q E s:=by
 obtain⟨m,hn,hl⟩:=id I.loc;have Qg:(X.env.scope.kind==.class||(X.env.scope.kind==.module&&X.env.locals != X.env.globals))=false:=by rw[I.ok.kind];rfl
 have Xr:i<Z.length:=by rw[I.len];exact(f9.mp hi).1
 have Bk:=I.Bk;have tracked:∀{a:Addr} {h':Heap},(∃o,s.heap.get? a=some o/\H a=none)->Heap.SameBut a s.heap h'->iV X.prog X.w H h':=λ{a h'} ha hs b ob e=>by
  obtain⟨_,_,qM⟩:=ha;refine(I.hok b ob e).stay (λc w' hc q=>(hs.2 c ?_).trans q) (λ_ q=>q) λ_ _ q=>q;rintro rfl;rcases hc with rfl|hc
  ·rw[qM] at e;cases e
  ·rw[qM] at hc;cases hc
 rcases hx with hk|hk
 ·refine wpAny_storeName_local hk hn (λh' Ml hs=>?_) Qg;obtain⟨oL,_,_,Bl,_⟩:=id hn;refine h _ ⟨I.ok,I.os,I.bare,⟨λb o e n hb hx=>?_,λb o e n hb hx=>?_,I.base.free,λb o e hx=>?_,I.base.tups,I.base.jd,I.base.jD⟩,⟨_,Ml,λj y v' e1 e2 e3=>?_⟩,λy c e=>?_,I.free,I.gq,λp hp=>?_,tracked ⟨oL,Bl,I.free⟩ hs,by simpa using I.len⟩ ⟨_,hs,.inl rfl⟩
  ·exact(hs.2 b (c7 (gb (bQ e) I.ok.above))).trans (I.base.keep b o e n hb hx)
  ·obtain⟨sl,e1⟩:=I.base.slot b o e n hb hx;exact⟨sl,(hs.2 b (c7 (gb (bQ e) I.ok.above))).trans e1⟩
  ·obtain⟨o',e1⟩:=I.base.there b o e hx;exact⟨o',(hs.2 b (c7 (gb (bQ e) I.ok.above))).trans e1⟩
  ·by_cases hj:j=i
   ·subst hj;rw[hi] at e1;cases e1;rw[yU Xr] at e2;cases e2;exact⟨u,r,.inl ⟨hk,by simp⟩⟩
   ·rw[qF (Ne.symm hj)] at e2;obtain⟨u',r',q⟩:=hl j y v' e1 e2 e3;refine⟨u',r',?_⟩;rcases q with ⟨k,e⟩|⟨k,c,e,z⟩
    ·refine .inl ⟨k,?_⟩;have:y≠x:=λe=>hj (Xq hN e1 (e▸hi));simp[this,e]
    ·exact .inr ⟨k,c,e,z.sameBut hs (Bk y c e)⟩
  ·obtain⟨w',z⟩:=I.cell y c e;exact⟨w',z.sameBut hs (Bk y c e)⟩
  ·obtain⟨e,n,ne,nf,d⟩:=I.pin p hp;exact⟨(hs.2 p.1 ne).trans e,n,ne,nf,d⟩
 ·have Qh:X.fn x=true:=by
   rcases hf with z|z
   ·exact z
   ·rw[z] at hk;cases hk
  obtain⟨c,hc⟩:=I.ok.has x (.inl hk);obtain⟨w',z⟩:=I.cell x c hc;refine wpAny_storeName_cell I.ok.kind hk hc z (λh' lG hs=>?_);obtain⟨oc,Ht,Qi⟩:=id z;refine h {s with heap:=h'} ⟨I.ok,I.os,I.bare,⟨λb o e n hb hx=>?_,λb o e n hb hx=>?_,I.base.free,λb o e hx=>?_,I.base.tups,I.base.jd,I.base.jD⟩,⟨m,hn.sameBut hs (Ne.symm (Bk x c hc)),λj y v' e1 e2 e3=>?_⟩,λy c' e=>?_,I.free,I.gq,λp hp=>?_,tracked ⟨oc,Ht,I.gq x c hc⟩ hs,by simpa using I.len⟩ ⟨c,hs,.inr hc⟩
  ·exact(hs.2 b (c7 (gb (bQ e) (I.ok.cab x c Qh hc)))).trans (I.base.keep b o e n hb hx)
  ·obtain⟨sl,e1⟩:=I.base.slot b o e n hb hx;exact⟨sl,(hs.2 b (c7 (gb (bQ e) (I.ok.cab x c Qh hc)))).trans e1⟩
  ·obtain⟨o',e1⟩:=I.base.there b o e hx;exact⟨o',(hs.2 b (c7 (gb (bQ e) (I.ok.cab x c Qh hc)))).trans e1⟩
  ·by_cases hj:j=i
   ·subst hj;rw[hi] at e1;cases e1;rw[yU Xr] at e2;cases e2;exact⟨u,r,.inr ⟨.inl hk,c,hc,lG⟩⟩
   ·rw[qF (Ne.symm hj)] at e2;obtain⟨u',r',q⟩:=hl j y v' e1 e2 e3;refine⟨u',r',?_⟩;rcases q with q|⟨k,c',e,z'⟩
    ·exact .inl q
    ·refine .inr ⟨k,c',e,z'.sameBut hs ?_⟩;rintro rfl;exact hj (Xq hN e1 (I.ok.inj _ _ _ e hc▸hi))
  ·by_cases Xu:c'=c
   ·subst Xu;exact⟨_,lG⟩
   ·obtain⟨w2,z2⟩:=I.cell y c' e;exact⟨w2,z2.sameBut hs Xu⟩
  ·obtain⟨e,n,ne,nf,d⟩:=I.pin p hp;refine⟨(hs.2 p.1 ?_).trans e,n,ne,nf,d⟩;intro q;rw[q,Ht] at e;have q':oc=p.2:=cW e;exact d w' (by rw[<-q'];exact Qi)
theorem Hu{M:Model}{A:Around}{E:Value->Shared->Prop}{i:Nat}{x:Str}{v:V}{u:Value}{Q:Unit->Shared->Prop}(I:Inv X ao Z H s)(hN:X.N.Nodup)(hi:X.N[i]?=some x)(hx:Loc X.env.scope x)(r:RelV v u)
  (h:∀s',Inv X ao (Z.set i (some v)) H s'->Q () s') (hf:X.fn x=true\/X.env.scope.names.lookup x=some .local:=by first|exact .inl rfl|exact .inr rfl|assumption):wpAny M A (storeName X.env x u) Q E s:=
 Qf I hN hi hx r (λs' I' _=>h s' I') hf
theorem Inv.call'{s':Shared}{ch:List Addr}(I:Inv X ao Z H s)(ho:s'.os=s.os)(u:Un (frs X.stack) ch H H' s.heap s'.heap)(hok:iV X.prog X.w H' s'.heap)(hg:AllBare s'.gens)
  (vU:∀b∈ch,(b∈X.ex\/X.s₀.heap.get? b=none)/\b≠X.env.locals/\(∀x c,X.env.cells.lookup x=some c->c≠b)/\∀p∈X.pn++ao,p.1≠b):Inv X ao Z H' s':=by
 obtain⟨h',g',d',t',o'⟩:=s';have e:o'=s.os:=ho;subst e;exact I.call (g':=g') (t':=t') (d':=d') u hok hg vU
end
noncomputable abbrev XK:=Value->Option Addr->Hp->Prop
noncomputable abbrev St:=List (Option V)
noncomputable abbrev VK:=V->Hp->Prop
noncomputable abbrev TE:=St->Hp->VK->Prop
noncomputable abbrev TT:=St->Hp->(Bool->Hp->Prop)->Prop
noncomputable abbrev TA:=St->Hp->(List V->Hp->Prop)->Prop
structure Ends where
 nx:St->Hp->Prop
 rt:VK
 bk:St->Hp->Prop:=λ_ _=>False
 ct:St->Hp->Prop:=λ_ _=>False
noncomputable abbrev TS:=Ends->St->Hp->Prop
def EP(X:Cx)(ao:List (Addr×Obj))(Z:St)(Q:VK)(u:Value)(s':Shared):Prop:=∃v H',Inv X ao Z H' s'/\RelV v u/\Q v H'
def TP(X:Cx)(ao:List (Addr×Obj))(Z:St)(Q:Bool->Hp->Prop)(b:Bool)(s':Shared):Prop:=∃H',Inv X ao Z H' s'/\Q b H'
def AP(X:Cx)(ao:List (Addr×Obj))(Z:St)(Q:List V->Hp->Prop)(us:List Value)(s':Shared):Prop:=∃vs H',Inv X ao Z H' s'/\Vals vs us/\Q vs H'
def SP(X:Cx)(ao:List (Addr×Obj))(D:Ends)(f:Flow)(s':Shared):Prop:=
 match f with
 |.next=>∃Z' H',Inv X ao Z' H' s'/\D.nx Z' H'
 |.brk=>∃Z' H',Inv X ao Z' H' s'/\D.bk Z' H'
 |.cont=>∃Z' H',Inv X ao Z' H' s'/\D.ct Z' H'
 |.ret u=>∃v Z' H',Inv X ao Z' H' s'/\RelV v u/\D.rt v H'
def PE(X:Cx)(e:Expr)(t:TE):Prop:=
 ∀(ao:List (Addr×Obj)) (s:Shared) (Z:St) (H:Hp) (Q:VK),Inv X ao Z H s->t Z H Q->wpAny (model X.prog X.w) X.A (eval e X.env) (EP X ao Z Q) X.xe s
def PT(X:Cx)(e:Expr)(t:TT):Prop:=
 ∀(ao:List (Addr×Obj)) (s:Shared) (Z:St) (H:Hp) (Q:Bool->Hp->Prop),Inv X ao Z H s->t Z H Q->wpAny (model X.prog X.w) X.A (isTrue e X.env (eval e X.env)) (TP X ao Z Q) X.xe s
def PW(X:Cx)(e:Expr)(t:TT):Prop:=
 ∀(whole:Sem Value) (ao:List (Addr×Obj)) (s:Shared) (Z:St) (H:Hp) (Q:Bool->Hp->Prop),Inv X ao Z H s->t Z H Q->wpAny (model X.prog X.w) X.A (isTrue e X.env whole) (TP X ao Z Q) X.xe s
theorem Kad{X:Cx}{e:Expr}{t:TT}(h:PW X e t):PT X e t:=h _
def PA(X:Cx)(es:List Expr)(t:TA):Prop:=
 ∀(pos:Pos) (ao:List (Addr×Obj)) (s:Shared) (Z:St) (H:Hp) (Q:List V->Hp->Prop),Inv X ao Z H s->t Z H Q->wpAny (model X.prog X.w) X.A (spliced (backTo pos (starEach es X.env))) (AP X ao Z Q) X.xe s
def PS(X:Cx)(st:Stmt)(t:TS):Prop:=
 ∀(ao:List (Addr×Obj)) (s:Shared) (Z:St) (H:Hp) (D:Ends),Inv X ao Z H s->t D Z H->wpAny (model X.prog X.w) X.A (exec st X.env) (SP X ao D) X.xe s
def pQ(X:Cx)(st:List Stmt)(t:TS):Prop:=
 ∀(ao:List (Addr×Obj)) (s:Shared) (Z:St) (H:Hp) (D:Ends),Inv X ao Z H s->t D Z H->wpAny (model X.prog X.w) X.A (execs st X.env) (SP X ao D) X.xe s
theorem aV{α:Type}{t:Sem α}{Q Q':α->Shared->Prop}{M:Model}{A:Around}{E:Value->Shared->Prop}{s:Shared}(h:wpAny M A t Q E s)(hQ:∀a s,Q a s->Q' a s):wpAny M A t Q' E s:=gj h hQ λ_ _ x=>x
section
variable {X:Cx}
noncomputable def Qj(i:Nat):TE:=λZ H Q=>∃v,Z[i]?=some (some v)/\Q v H
noncomputable def tC(v:V):TE:=λ_ H Q=>Q v H
theorem Xw{i:Nat}{x:Str}{pos:Pos}(hN:X.N[i]?=some x)(hv:Mh X.env.scope x)(hd:(x==("__debug__" : Str))=false:=by decide)(iI:(x==("__classdict__" : Str))=false:=by decide):PE X (.Name x pos) (Qj i):=by
 intro ao s Z H Q I h;obtain⟨v,e,h⟩:=h;obtain⟨m,hn,hl⟩:=I.loc;obtain⟨u,r,l⟩:=hl i x v hN e hv;have fin:EP X ao Z Q u s:=⟨v,H,I,r,h⟩;rcases l with ⟨hk,hm⟩|⟨hk,c,hc,qN⟩
 ·exact wpAny_Name (wpAny_loadName_local I.ok.kind hk hn hm fin) hd
 ·rcases hk with hk|hk
  ·exact wpAny_Name (wpAny_loadName_cell I.ok.kind hk hc qN fin) hd
  ·exact wpAny_Name (wpAny_loadName_free I.ok.kind hk hc qN fin iI) hd
theorem Xx{i j pos}:PE X (.Constant (.int i) j pos) (tC (.int i)):=λ_ _ _ H _ I h=>wpAny_Constant_int ⟨.int i,H,I.tok _,⟨_,rfl⟩,h⟩
theorem zm3{b j pos}:PE X (.Constant (.bool b) j pos) (tC (.bl b)):=λ_ _ _ H _ I h=>Constant_bool ⟨.bl b,H,I,rfl,h⟩
theorem zmr{j pos}:PE X (.Constant .none j pos) (tC .non):=λ_ _ _ H _ I h=>Constant_none ⟨.non,H,I,rfl,h⟩
def Gl(X:Cx)(x:Str):Prop:=X.env.kindOf x=some .globalImplicit
theorem Qk{E:Value->Shared->Prop}{ao:List (Addr×Obj)}{s:Shared}{Z:St}{H:Hp}{x:Str}{u:Value}{pos:Pos}{Q:Value->Shared->Prop}(I:Inv X ao Z H s)(hg:Gl X x)(hm:X.mg x=some u)(h:Q u s)
  (hd:(x==("__debug__" : Str))=false:=by decide):wpAny (model X.prog X.w) X.A (eval (.Name x pos) X.env) Q E s:=
 Calls.Name_function_global I.ok.kind hg (Calls.loadGlobal_global (by rw[I.ok.glob];exact I.mod.glob.keeps I.bk) hm h) hd
theorem tO{E:Value->Shared->Prop}{ao:List (Addr×Obj)}{s:Shared}{Z:St}{H:Hp}{x:Str}{u:Value}{pos:Pos}{Q:Value->Shared->Prop}(I:Inv X ao Z H s)(hg:Gl X x)(hm:X.mg x=none)(hv:bootBuiltins x=some u)(h:Q u s)
  (hn:x≠"__name__":=by decide) (hd:(x==("__debug__" : Str))=false:=by decide):wpAny (model X.prog X.w) X.A (eval (.Name x pos) X.env) Q E s:=by
 obtain⟨mb,h1,h2⟩:=I.mod.blt;exact Calls.Name_function_global I.ok.kind hg (Calls.loadGlobal_builtin (by rw[I.ok.glob];exact I.mod.glob.keeps I.bk) hm (by rw[I.ok.blt];exact h1.keeps I.bk) ((h2 x hn).trans hv) h) hd
theorem zja{x:Str}{v:V}{u:Value}{pos:Pos}(hg:Gl X x)(hm:X.mg x=some u)(r:RelV v u)(hd:(x==("__debug__" : Str))=false:=by decide):PE X (.Name x pos) (tC v):=
 λ_ _ _ H _ I h=>Qk I hg hm ⟨v,H,I,r,h⟩ hd
variable {a b:Expr}{ta tb:TE}{pos:Pos}
def PC(X:Cx)(op:CmpOp)(a b:Expr)(t:TE):Prop:=
 ∀(ao:List (Addr×Obj)) (s:Shared) (Z:St) (H:Hp) (Q:VK),Inv X ao Z H s->t Z H Q->
  wpAny (model X.prog X.w) X.A (eval a X.env) (λv s₁=>wpAny (model X.prog X.w) X.A (eval b X.env) (λu s₂=>wpAny (model X.prog X.w) X.A (compareOp op v u) (EP X ao Z Q) X.xe s₂) X.xe s₁) X.xe s
theorem n_(b:Expr){op:CmpOp}(h:op≠.In)(h2:op≠.NotIn):behindInMarks op b=false:=by
 have e1:(op==CmpOp.In)=false:=by cases op<;>first|rfl|exact absurd rfl h
 have e2:(op==CmpOp.NotIn)=false:=by cases op<;>first|rfl|exact absurd rfl h2
 cases b<;>simp[behindInMarks,e1,e2]
noncomputable def Ql(ta:TE):TE:=λZ H Q=>ta Z H λx H1=>Q (.bl (decide (x=.non))) H1
noncomputable def Hv(ta:TE):TE:=λZ H Q=>ta Z H λx H1=>Q (.bl (!decide (x=.non))) H1
theorem RelV.oh{x:V}{v:Value}(r:RelV x v):(v==Value.none)=decide (x=.non):=by
 cases x with
 |non=>cases r;rfl
 |bl _=>cases r;rfl
 |int _=>obtain⟨t,rfl⟩:=r;rfl
 |str _=>obtain⟨t,rfl⟩:=r;rfl
 |Bf _=>obtain⟨t,rfl⟩:=r;rfl
 |flt _=>obtain⟨t,rfl⟩:=r;rfl
 |ref _=>cases r;rfl
 |ty _=>cases r;rfl
theorem Xy{j pos'}(ha:PE X a ta):PC X .Is a (.Constant .none j pos') (Ql ta):=by
 intro ao s Z H Q I h;refine aV (ha ao s Z H _ I h) λv s1 hx=>fH hx λx H1 I1 r1 q1=>?_;exact Constant_none (is_none_gen ⟨.bl _,H1,I1,by rw[r1.oh];rfl,q1⟩)
theorem Xz{j pos'}(ha:PE X a ta):PC X .IsNot a (.Constant .none j pos') (Hv ta):=by
 intro ao s Z H Q I h;refine aV (ha ao s Z H _ I h) λv s1 hx=>fH hx λx H1 I1 r1 q1=>?_;exact Constant_none (isnot_none_gen ⟨.bl _,H1,I1,by rw[r1.oh];rfl,q1⟩)
noncomputable def tB(t:TE):TT:=λZ H Q=>t Z H λx H1=>∃c,x=.bl c/\Q c H1
theorem XD{op:CmpOp}{t:TE}(h:PC X op a b t)(h1:behindInMarks op b=false:=by first|exact n_ _ (by decide) (by decide)|rfl):PE X (.Compare a [op] [b] pos) t:=λao s Z H Q I hw=>wpAny_Compare1 (h ao s Z H Q I hw) h1
theorem Qm{op:CmpOp}{t:TE}(h:PC X op a b t)(h1:behindInMarks op b=false:=by first|exact n_ _ (by decide) (by decide)|rfl):PT X (.Compare a [op] [b] pos) (tB t):=by
 intro ao s Z H Q I hw;refine wpAny_isTrue_Compare1 (aV (h ao s Z H _ I hw) λv s1 h1=>aV h1 λu s2 h2=>aV h2 λc s3 hx=>fH hx λx H1 I1 r1 q1=>?_) h1;obtain⟨d,rfl,q⟩:=q1;cases r1;exact vN ⟨H1,I1,q⟩
theorem zlx{e:Expr}{t:TE}(h:PE X e t)(he:∀whole,isTrue e X.env whole=(do let v <-whole;standAt e.pos;holding [v] (truthy v)):=by intro _;rfl):PT X e (tB t):=by
 intro ao s Z H Q I hw;refine isTrue_plain (aV (h ao s Z H _ I hw) λv s1 hx=>fH hx λx H1 I1 r1 q1=>?_) (he _);obtain⟨d,rfl,q⟩:=q1;cases r1;exact vN ⟨H1,I1,q⟩
variable {tA Mp:TT}{rest:List Expr}
noncomputable def Qn(t u:TT):TT:=λZ H Q=>t Z H λc H1=>if c=true then u Z H1 Q else Q false H1
noncomputable def tOr(t u:TT):TT:=λZ H Q=>t Z H λc H1=>if c=true then Q true H1 else u Z H1 Q
noncomputable def Qo(t:TT):TT:=λZ H Q=>t Z H λc H1=>Q (!c) H1
theorem zi7(ha:PT X a tA):PW X (.BoolOp .And [a] pos) tA:=by
 intro wh ao s Z H Q I h;refine isTrue_and (aV (ha ao s Z H Q I h) λc s1 e=>?_);cases c with
 |true=>exact isTrue_and_nil e
 |false=>exact e
theorem zlu(ha:PT X a tA):PW X (.BoolOp .Or [a] pos) tA:=by
 intro wh ao s Z H Q I h;refine isTrue_or (aV (ha ao s Z H Q I h) λc s1 e=>?_);cases c with
 |false=>exact isTrue_or_nil e
 |true=>exact e
theorem zkN(ha:PT X a tA)(hb:PW X (.BoolOp .And (b::rest) pos) Mp):PW X (.BoolOp .And (a::b::rest) pos) (Qn tA Mp):=by
 intro wh ao s Z H Q I h;refine isTrue_and (aV (ha ao s Z H _ I h) λc s1 hx=>vR hx λH1 I1 q1=>?_);cases c with
 |true=>exact hb wh ao s1 Z H1 Q I1 q1
 |false=>exact⟨H1,I1,q1⟩
theorem zmQ(ha:PT X a tA)(hb:PW X (.BoolOp .Or (b::rest) pos) Mp):PW X (.BoolOp .Or (a::b::rest) pos) (tOr tA Mp):=by
 intro wh ao s Z H Q I h;refine isTrue_or (aV (ha ao s Z H _ I h) λc s1 hx=>vR hx λH1 I1 q1=>?_);cases c with
 |true=>exact⟨H1,I1,q1⟩
 |false=>exact hb wh ao s1 Z H1 Q I1 q1
theorem zlg(ha:PT X a tA):PT X (.UnaryOp .Not a pos) (Qo tA):=by
 intro ao s Z H Q I h;exact isTrue_not (ha ao s Z H (λc H1=>Q (!c) H1) I h)
noncomputable def Hw(ta tb:TE):TE:=λZ H Q=>ta Z H λx H1=>∃c,x=.bl c/\if c=true then tb Z H1 Q else Q (.bl false) H1
noncomputable def Qp(ta tb:TE):TE:=λZ H Q=>ta Z H λx H1=>∃c,x=.bl c/\if c=true then Q (.bl true) H1 else tb Z H1 Q
noncomputable def Hx(ta:TE):TE:=λZ H Q=>ta Z H λx H1=>∃c,x=.bl c/\Q (.bl (!c)) H1
theorem zl1{op}{t:TE}(h:PE X a t):PE X (.BoolOp op [a] pos) t:=λao s Z H Q I hw=>BoolOp_one (h ao s Z H Q I hw)
theorem zkF(ha:PE X a ta)(hb:PE X (.BoolOp .And (b::rest) pos) tb):PE X (.BoolOp .And (a::b::rest) pos) (Hw ta tb):=by
 intro ao s Z H Q I h;refine BoolOp_and (aV (ha ao s Z H _ I h) λv s1 hx=>fH hx λx H1 I1 r1 q1=>?_);obtain⟨c,rfl,q1⟩:=q1;cases r1;refine vN ?_;cases c with
 |true=>exact hb ao s1 Z H1 Q I1 q1
 |false=>exact⟨.bl false,H1,I1,rfl,q1⟩
theorem zm7(ha:PE X a ta)(hb:PE X (.BoolOp .Or (b::rest) pos) tb):PE X (.BoolOp .Or (a::b::rest) pos) (Qp ta tb):=by
 intro ao s Z H Q I h;refine BoolOp_or (aV (ha ao s Z H _ I h) λv s1 hx=>fH hx λx H1 I1 r1 q1=>?_);obtain⟨c,rfl,q1⟩:=q1;cases r1;refine vN ?_;cases c with
 |false=>exact hb ao s1 Z H1 Q I1 q1
 |true=>exact⟨.bl true,H1,I1,rfl,q1⟩
theorem zlq(ha:PE X a ta):PE X (.UnaryOp .Not a pos) (Hx ta):=by
 intro ao s Z H Q I h;refine UnaryOp_ (aV (ha ao s Z H _ I h) λv s1 hx=>fH hx λx H1 I1 r1 q1=>?_);obtain⟨c,rfl,q1⟩:=q1;cases r1;exact not_of (vN ⟨.bl (!c),H1,I1,rfl,q1⟩)
noncomputable def tIf(t:TT)(ta tb:TE):TE:=λZ H Q=>t Z H λc H1=>if c=true then ta Z H1 Q else tb Z H1 Q
theorem zhO{c:Expr}(hc:PT X c tA)(ha:PE X a ta)(hb:PE X b tb):PE X (.IfExp c a b pos) (tIf tA ta tb):=by
 intro ao s Z H Q I h;refine wpAny_IfExp (aV (hc ao s Z H _ I h) λd s1 hx=>vR hx λH1 I1 q1=>?_);cases d with
 |true=>exact ha ao s1 Z H1 Q I1 q1
 |false=>exact hb ao s1 Z H1 Q I1 q1
end
def dj(K:W.Frag)(H:Hp)(a:Addr)(xs:List V):Prop:=
 Rd H a (.lst xs) \/
  ∃(o:Obj) (its:Array Value) (n:Nat),K.lookup a=some o/\o.cls=.type "list"/\o.dict=none/\o.data=.seq its n/\its.size<=sizeLine/\Vals xs its.toList
def gw(K:W.Frag)(H:Hp)(a:Addr)(xs:List V):Prop:=
 Rd H a (.tup xs) \/
  ∃(o:Obj) (its:Array Value) (n:Nat),K.lookup a=some o/\o.cls=.type "tuple"/\o.data=.seq its n/\its.size<=sizeLine/\Vals xs its.toList
noncomputable def Qq:Value->Option V
 |.none=>some .non
 |.bool b=>some (.bl b)
 |.int i _=>some (.int i)
 |.str x _=>some (.str x)
 |.bytes b _=>some (.Bf b)
 |.float b _=>some (.flt b)
 |.ref a=>some (.ref a)
 |.type n=>some (.ty n)
 |_=>none
theorem RelV.abs{x:V}{u:Value}(r:RelV x u):Qq u=some x:=by
 cases x with
 |non=>cases r;rfl
 |bl _=>cases r;rfl
 |int _=>obtain⟨t,rfl⟩:=r;rfl
 |str _=>obtain⟨t,rfl⟩:=r;rfl
 |Bf _=>obtain⟨t,rfl⟩:=r;rfl
 |flt _=>obtain⟨t,rfl⟩:=r;rfl
 |ref _=>cases r;rfl
 |ty _=>cases r;rfl
theorem RelV.inj{x y:V}{u:Value}(r:RelV x u)(q:RelV y u):x=y:=cW (r.abs.symm.trans q.abs)
theorem Vals.inj{xs ys:List V}{us:List Value}(h:Vals xs us)(h':Vals ys us):xs=ys:=by
 induction h generalizing ys with
 |nil=>cases h';rfl
 |cons r _ ih=>
  cases h' with
  |cons r' t'=>rw[r.inj r',ih t']
section
variable {X:Cx}{ao:List (Addr×Obj)}{Z:St}{H:Hp}{s:Shared}{a:Addr}{xs ys:List V}
theorem dj.of{K:W.Frag}(h:H a=some (.lst xs)):dj K H a xs:=.inl (.inl h)
theorem Inv.list(I:Inv X ao Z H s)(h:dj X.K H a xs):∃its:List Value,Vals xs its/\PlainL s.heap a its.toArray/\xs.length<=sizeLine:=by
 rcases h with h|⟨o,its,n,hk,hc,hd,hs,hz,r⟩
 ·obtain⟨z,its,n,r,e⟩:=h.ok I.hok;exact⟨its,r,⟨_,n,e,rfl,rfl,rfl⟩,z⟩
 ·refine⟨its.toList,r,⟨o,n,I.lW a o hk,hc,hd,by simpa using hs⟩,?_⟩;have e:=r.length;simp only[nU] at e
  lia
theorem Inv.tuple(I:Inv X ao Z H s)(h:gw X.K H a xs):∃its:List Value,Vals xs its/\IsTup s.heap a its.toArray/\xs.length<=sizeLine:=by
 rcases h with h|⟨o,its,n,hk,hc,hs,hz,r⟩
 ·obtain⟨z,its,r,p⟩:=h.ok I.hok;exact⟨its,r,p,z⟩
 ·refine⟨its.toList,r,⟨o,I.lW a o hk,hc,n,by simpa using hs⟩,?_⟩;have e:=r.length;simp only[nU] at e
  lia
theorem Inv.ou(I:Inv X ao Z H s)(h:dj X.K H a xs)(h':dj X.K H a ys):xs=ys:=by
 obtain⟨its,r,⟨o,n,e,_,_,d⟩,_⟩:=I.list h;obtain⟨its',r',⟨o',n',e',_,_,d'⟩,_⟩:=I.list h';rw[e] at e';cases e';rw[d] at d';injection d' with d1 _;have:its=its':=by simpa using lq Array.toList d1
 subst this;exact r.inj r'
theorem Inv.lX(I:Inv X ao Z H s)(h:gw X.K H a xs)(h':gw X.K H a ys):xs=ys:=by
 obtain⟨its,r,⟨o,e,_,n,d⟩,_⟩:=I.tuple h;obtain⟨its',r',⟨o',e',_,n',d'⟩,_⟩:=I.tuple h';rw[e] at e';cases e';rw[d] at d';injection d' with d1 _;have:its=its':=by simpa using lq Array.toList d1
 subst this;exact r.inj r'
end
section
variable {X:Cx}{ao:List (Addr×Obj)}{Z:St}{H:Hp}{s:Shared}{E:Value->Shared->Prop}
end
section
variable {X:Cx}{st:Stmt}{rest:List Stmt}{t u:TS}{e:Expr}{te:TE}{pos:Pos}
noncomputable def Hy:TS:=λD Z H=>D.nx Z H
noncomputable def Qs(t u:TS):TS:=λD Z H=>t {D with nx:=u D} Z H
theorem XH:pQ X [] Hy:=λ_ _ Z H _ I h=>wpAny_execs_nil ⟨Z,H,I,h⟩
theorem XJ(h1:PS X st t)(h2:pQ X rest u):pQ X (st::rest) (Qs t u):=by
 intro ao s Z H D I h;refine wpAny_execs_cons (aV (h1 ao s Z H {D with nx:=u D} I h) λf s1 q=>?_);cases f with
 |next=>
  obtain⟨Z',H',I',q⟩:=q;exact h2 ao s1 Z' H' D I' q
 |ret v=>exact q
 |brk=>exact q
 |cont=>exact q
theorem Inv.quiet{ao:List (Addr×Obj)}{Z:St}{H:Hp}{s:Shared}(I:Inv X ao Z H s):interactive X.env=false:=by simp[interactive,I.ok.kind]
noncomputable def Hz(te:TE):TS:=λD Z H=>te Z H λ_ H1=>D.nx Z H1
theorem zjU(he:PE X e te)(hs:swapsWith e none pos.line X.env=pure false:=by rfl):PS X (.Expr e pos) (Hz te):=by
 intro ao s Z H D I h;exact wpAny_Expr_any (aV (he ao s Z H _ I h) λv s1 hx=>fH hx λx H1 I1 r1 q1=>⟨Z,H1,I1,q1⟩) I.quiet hs
noncomputable def Qt(te:TE):TS:=λD Z H=>te Z H D.rt
theorem zme(he:PE X e te):PS X (.Return (some e) pos) (Qt te):=by
 intro ao s Z H D I h;exact wpAny_Return_some (aV (he ao s Z H _ I h) λv s1 hx=>fH hx λx H1 I1 r1 q1=>⟨x,Z,H1,I1,r1,q1⟩)
noncomputable def Qu(c:TT)(t u:TS):TS:=λD Z H=>c Z H λb H1=>if b=true then t D Z H1 else u D Z H1
theorem znt{c:Expr}{a b:List Stmt}{tc:TT}(hc:PT X c tc)(ha:pQ X a t)(hb:pQ X b u):PS X (.If c a b pos) (Qu tc t u):=by
 intro ao s Z H D I h;refine wpAny_If (aV (hc ao s Z H _ I h) λd s1 hx=>vR hx λH1 I1 q1=>?_);cases d with
 |true=>exact ha ao s1 Z H1 D I1 q1
 |false=>exact hb ao s1 Z H1 D I1 q1
end
noncomputable abbrev TG:=V->St->Hp->(St->Hp->Prop)->Prop
noncomputable abbrev Bm:=List V->St->Hp->(St->Hp->Prop)->Prop
def PG(X:Cx)(target:Expr)(t:TG):Prop:=
 ∀(ao:List (Addr×Obj)) (s:Shared) (Z:St) (H:Hp) (v:V) (u:Value) (Q:St->Hp->Prop),Inv X ao Z H s->RelV v u->t v Z H Q->
  wpAny (model X.prog X.w) X.A (assign target X.env u) (λ_ s'=>∃Z' H',Inv X ao Z' H' s'/\Q Z' H') X.xe s
def Mq(X:Cx)(ts:List Expr)(t:Bm):Prop:=
 ∀(ao:List (Addr×Obj)) (s:Shared) (Z:St) (H:Hp) (vs:List V) (us:List Value) (Q:St->Hp->Prop),Inv X ao Z H s->Vals vs us->t vs Z H Q->
  wpAny (model X.prog X.w) X.A (assignInOrder ((assignEach ts X.env).map (·.2)) us) (λ_ s'=>∃Z' H',Inv X ao Z' H' s'/\Q Z' H') X.xe s
noncomputable abbrev Bp:=V->V->V->Hp->(Hp->Prop)->Prop
def HB(X:Cx)(t:Bp):Prop:=
 ∀(ao:List (Addr×Obj)) (s:Shared) (Z:St) (H:Hp) (o i v:V) (ov iv u:Value) (Q:Hp->Prop),Inv X ao Z H s->RelV o ov->RelV i iv->RelV v u->t o i v H Q->
  wpAny (model X.prog X.w) X.A (setItem ov iv u) (λ_ s'=>∃H',Inv X ao Z H' s'/\Q H') X.xe s
noncomputable abbrev Mr:=V->V->Hp->VK->Prop
def XM(X:Cx)(op:Operator)(t:Mr):Prop:=
 ∀(ao:List (Addr×Obj)) (s:Shared) (Z:St) (H:Hp) (x y:V) (v u:Value) (Q:VK),Inv X ao Z H s->RelV x v->RelV y u->t x y H Q->
  wpAny (model X.prog X.w) X.A (inplaceOp op v u) (EP X ao Z Q) X.xe s
section
variable {X:Cx}{pos:Pos}
noncomputable def dW(i:Nat):TG:=λv Z H Q=>Q (Z.set i (some v)) H
theorem Ms{i:Nat}{x:Str}(hN:X.N.Nodup)(hi:X.N[i]?=some x)(hx:Loc X.env.scope x)(hf:X.fn x=true\/X.env.scope.names.lookup x=some .local:=by first|exact .inl rfl|exact .inr rfl|assumption):PG X (.Name x pos) (dW i):=by
 intro ao s Z H v u Q I r h;exact wpAny_assign_Name (Hu I hN hi hx r (λs' I'=>⟨_,H,I',h⟩) hf)
noncomputable def uq:Bm:=λvs Z H Q=>vs=[]/\Q Z H
noncomputable def iJ(t:TG)(u:Bm):Bm:=λvs Z H Q=>∃v r,vs=v::r/\t v Z H λZ' H'=>u r Z' H' Q
theorem zkb:Mq X [] uq:=by
 intro ao s Z H vs us Q I r h;obtain⟨e,h⟩:=h;subst e;cases r;exact assignInOrder_nil ⟨Z,H,I,h⟩
theorem XQ{e:Expr}{es:List Expr}{t:TG}{u:Bm}(h1:PG X e t)(h2:Mq X es u)
  (hs:(assignEach (e::es) X.env).map (·.2)=assign e X.env::(assignEach es X.env).map (·.2):=by rfl):Mq X (e::es) (iJ t u):=by
 intro ao s Z H vs us Q I r h;obtain⟨v,vr,e1,h⟩:=h;subst e1;cases r with
 |cons r rr=>
  rw[hs];refine assignInOrder_cons (aV (h1 ao s Z H _ _ _ I r h) λ_ s1 ⟨Z1,H1,I1,q1⟩=>?_);exact h2 ao s1 Z1 H1 _ _ Q I1 rr q1
noncomputable def ur(K:W.Frag)(n:Nat)(t:Bm):TG:=λv Z H Q=>∃a xs,v=.ref a/\gw K H a xs/\xs.length=n/\t xs Z H Q
theorem zmf{es:List Expr}{k:Nat}{t:Bm}{n:Nat}(hc:X.aj=true)(h:Mq X es t)
  (hn:(assignEach es X.env).length=n:=by rfl) (Bq:(assignEach es X.env).findIdx? (·.1)=none:=by rfl):PG X (.Tuple es k pos) (ur X.K n t):=by
 intro ao s Z H v u Q I r hw;obtain⟨a,xs,e1,hq,hl,hw⟩:=hw;subst e1;cases r;obtain⟨its,rv,ht,hz⟩:=I.tuple hq;refine assign_Tuple_tuple (I.ok.hd hc) ht (by simp[hn,<-hl,rv.length]) Bq λh' hx=>?_;have I1:Inv X ao Z H {s with heap:=h'}:=I.kept (t':=s.toks) λb o e=>hx b o (c7 (bQ e)) e;exact h ao _ Z H xs _ Q I1 (by simpa using rv) hw
noncomputable def Qv(to ti:TE)(t:Bp):TG:=λv Z H Q=>to Z H λo H1=>ti Z H1 λi H2=>t o i v H2 λH3=>Q Z H3
theorem zkP{o i:Expr}{to ti:TE}{t:Bp}(ho:PE X o to)(hi:PE X i ti)(hs:HB X t)
  (ha:∀v,assign (.Subscript o i pos) X.env v=(do
   let ov <-holding [v] (eval o X.env)
   let iv <-holding [v,ov] (eval i X.env)
   standAt pos
   holding [v,ov,iv] (setItem ov iv v)
   release [v,ov,iv] []):=by intro _;rfl):PG X (.Subscript o i pos) (Qv to ti t):=by
 intro ao s Z H v u Q I r h;rw[ha];refine aB (pF (aV (ho ao s Z H _ I h) λov s1 hx=>fH hx λx H1 I1 r1 q1=>?_));refine aB (pF (aV (hi ao s1 Z H1 _ I1 q1) λiv s2 hx=>fH hx λy H2 I2 r2 q2=>?_));refine aB (t_ (aB (pF (aV (hs ao s2 Z H2 x y v ov iv u _ I2 r1 r2 r q2) λ_ s3 hx=>vR hx λH3 I3 q3=>?_))));exact wpAny_release ⟨Z,H3,I3,q3⟩
noncomputable def w6(te:TE)(g:TG):TS:=λD Z H=>te Z H λx H1=>g x Z H1 D.nx
theorem XR{tg e:Expr}{te:TE}{g:TG}(he:PE X e te)(hg:PG X tg g)(hs:swapsWithSole [tg] e pos.line X.env=pure false:=by rfl)(hw:swappedStores [tg] e X.env=pure none:=by rfl)
  (h1:(assignEach [tg] X.env).map (·.2)=[assign tg X.env]:=by rfl):PS X (.Assign [tg] e pos) (w6 te g):=by
 intro ao s Z H D I h;refine wpAny_Assign_stores (aV (he ao s Z H _ I h) λv s1 hx=>fH hx λx H1 I1 r1 q1=>?_) hs hw;rw[h1];exact aV (hg ao s1 Z H1 x v _ I1 r1 q1) λ_ s2 q=>q
theorem zmw{i:Nat}{x:Str}{e:Expr}{te:TE}{pos':Pos}(hN:X.N.Nodup)(hi:X.N[i]?=some x)(hx:Loc X.env.scope x)(he:PE X e te)(hs:swapsWith e (some (.Name x pos')) pos.line X.env=pure false:=by rfl)(hf:X.fn x=true\/X.env.scope.names.lookup x=some .local:=by first|exact .inl rfl|exact .inr rfl|assumption) :
  PS X (.Assign [.Name x pos'] e pos) (w6 te (dW i)):=by
 intro ao s Z H D I h;refine wpAny_Assign_Name (aV (he ao s Z H _ I h) λv s1 ⟨y,H1,I1,r1,q1⟩=>?_) hs;exact Hu I1 hN hi hx r1 (λs2 I2=>⟨_,H1,I2,q1⟩) hf
noncomputable def Qw(i j:Nat)(ta:TA):TS:=λD Z H=>ta Z H λvs H1=>∃v w,vs=[v,w]/\D.nx ((Z.set i (some v)).set j (some w)) H1
theorem zkv{i j:Nat}{x y:Str}{a b:Expr}{ta:TA}{px py pt:Pos}{kt k2 uw}(hc:X.aj=true)(hN:X.N.Nodup)(hi:X.N[i]?=some x)(hj:X.N[j]?=some y)(xq:i≠j)
  (hx:X.env.scope.names.lookup x=some .local) (hy:X.env.scope.names.lookup y=some .local) (ha:PA X [a,b] ta)
  (hw:swappedStores [.Tuple [.Name x px,.Name y py] kt pt] (.Tuple [a,b] k2 uw) X.env=pure (some [x,y]))
  (hs:swapsWithSole [.Tuple [.Name x px,.Name y py] kt pt] (.Tuple [a,b] k2 uw) pos.line X.env=pure false:=by rfl) :
  PS X (.Assign [.Tuple [.Name x px,.Name y py] kt pt] (.Tuple [a,b] k2 uw) pos) (Qw i j ta):=by
 intro ao s Z H D I h;rw[exec_Assign_arm];refine aB (t_ ?_);rw[hs];refine aB (aM ?_);rw[if_neg (by decide)];refine aB (Tuple_ (aV (ha _ ao s Z H _ I h) λus s1 ⟨vs,H1,I1,r1,q1⟩=>?_));obtain⟨v,w,e1,q1⟩:=q1;subst e1;obtain⟨u1,u2,rfl,rv,lH⟩ : ∃u1 u2,us=[u1,u2]/\RelV v u1/\RelV w u2:=by
  cases r1 with
  |cons p q=>
   cases q with
   |cons p' q'=>
    cases q';exact⟨_,_,rfl,p,p'⟩
 refine pD ?_ (by show 2<=sizeLine;decide);have I2:Inv X ao Z H1 {s1 with heap:=s1.heap.push {cls:=.type "tuple",data:=.seq [u1,u2].toArray}}:=I1.kept (t':=s1.toks) λb o e=>cG _ e;rw[hw];refine aB (aM ?_);show wpAny (model X.prog X.w) X.A (do rule "assign.swapped-stores";let items <-unpackItems (.ref s1.heap.objs.size) 2 none;assignInOrder [λv=>bindName X.env y v,λv=>bindName X.env x v] items.reverse;pure Flow.next) _ _ _;refine aB (zm (aB (unpackItems_tuple (items:=#[u1,u2]) (I.ok.hd hc) (IsTup.new s1.heap _) λh' hx'=>?_)));have I3:=I2.kept (h':=h') (t':=s1.toks) λb o e=>hx' b o (c7 (bQ e)) e;show wpAny _ _ (assignInOrder [λv=>bindName X.env y v,λv=>bindName X.env x v] [u2,u1] >>= λ_=>pure Flow.next) _ _ _;refine aB (assignInOrder_cons (wpAny_bindName (Hu I3 hN hj (.inl hy) lH (λs2 I4=>?_) (.inr hy))));refine assignInOrder_cons (wpAny_bindName (Hu I4 hN hi (.inl hx) rv (λs3 I5=>assignInOrder_nil (aM ?_)) (.inr hx)));rw[List.set_comm _ _ (Ne.symm xq)] at I5;exact⟨_,H1,I5,q1⟩
noncomputable def HD(i:Nat)(te:TE)(ti:Mr):TS:=λD Z H=>∃x,Z[i]?=some (some x)/\te Z H λy H1=>ti x y H1 λz H2=>D.nx (Z.set i (some z)) H2
theorem zlU{i:Nat}{x:Str}{e:Expr}{te:TE}{op:Operator}{ti:Mr}{pos':Pos}(hN:X.N.Nodup)(hi:X.N[i]?=some x)(hx:Loc X.env.scope x)(he:PE X e te)(ho:XM X op ti)(hf:X.fn x=true\/X.env.scope.names.lookup x=some .local:=by first|exact .inl rfl|exact .inr rfl|assumption) :
  PS X (.AugAssign (.Name x pos') op e pos) (HD i te ti):=by
 intro ao s Z H D I h;obtain⟨v,e1,h⟩:=h;obtain⟨m,hn,hl⟩:=I.loc;have vis:Mh X.env.scope x:=by rcases hx with k|k;exact .inl k;exact .inr (.inl k)
 obtain⟨u,r,l⟩:=hl i x v hi e1 vis;refine wpAny_AugAssign_Name ?_;have go:wpAny (model X.prog X.w) X.A (eval e X.env) (λw s₂=>wpAny (model X.prog X.w) X.A (inplaceOp op u w) (λr s₃=>wpAny (model X.prog X.w) X.A (storeName X.env x r) (λ_=>SP X ao D .next) X.xe s₃) X.xe s₂) X.xe s:=by
  refine aV (he ao s Z H _ I h) λw s1 ⟨y,H1,I1,r1,q1⟩=>?_;refine aV (ho ao s1 Z H1 v y u w _ I1 r r1 q1) λz s2 ⟨zv,H2,I2,r2,q2⟩=>?_;exact Hu I2 hN hi hx r2 (λs3 I3=>⟨_,H2,I3,q2⟩) hf
 rcases l with ⟨hk,hm⟩|⟨hk,c,hc,qN⟩
 ·exact wpAny_loadName_local I.ok.kind hk hn hm go
 ·rcases hk with hk|hk
  ·exact wpAny_loadName_cell I.ok.kind hk hc qN go
  ·rcases hx with k|k
   ·have:X.env.scope.names.lookup x=some .free:=hk;rw[k] at this;cases this
   ·have:X.env.scope.names.lookup x=some .free:=hk;rw[k] at this;cases this
noncomputable def X3(f:Int->Int->Int):Mr:=λx y H Q=>∃i j,x=.int i/\y=.int j/\Q (.int (f i j)) H
theorem zms:XM X .Add (X3 λi j=>i+j):=by
 intro ao s Z H x y v u Q I r1 r2 h;obtain⟨i,j,e1,e2,q⟩:=h;subst e1;subst e2;obtain⟨t,rfl⟩:=r1;obtain⟨t',rfl⟩:=r2;exact iadd_int ⟨.int _,H,I.tok _,⟨_,rfl⟩,q⟩
end
section
variable {X:Cx}{pos:Pos}
noncomputable def Br(c:TT)(tb:TS):TS:=λD Z H=>∃W:Nat->St->Hp->Prop,(∃m,W m Z H)/\∀m Z H,W m Z H->
 c Z H λb H1=>if b=true then ∃N:St->Hp->Prop,(∀Z' H',N Z' H'->∃m',m'<m/\W m' Z' H')/\tb {D with nx:=N,ct:=N,bk:=D.nx} Z H1 else D.nx Z H1
theorem zhM{c:Expr}{body:List Stmt}{tc:TT}{tb:TS}(hp:PassesOwn (model X.prog X.w) X.A X.env X.xe)(hc:PT X c tc)(hb:pQ X body tb):PS X (.While c body [] pos) (Br tc tb):=by
 intro ao s Z H D I h;obtain⟨W,⟨m0,w0⟩,turn⟩:=h;refine wpAny_While (codeAny_whileLoop (λn s'=>∃Z' H',Inv X ao Z' H' s'/\W n Z' H') ?_ m0 ⟨Z,H,I,w0⟩);rintro n s1 ⟨Z1,H1,I1,w1⟩;refine Aw hp (aV (hc ao s1 Z1 H1 _ I1 (turn n Z1 H1 w1)) λb s2 hx=>vR hx λH2 I2 q2=>?_);cases b with
 |true=>
  obtain⟨N,hN,q2⟩:=q2;rw[if_pos rfl];refine Aw hp (aV (hb ao s2 Z1 H2 _ I2 q2) λf s3 q3=>?_);cases f with
  |next=>
   obtain⟨Z3,H3,I3,n3⟩:=q3;obtain⟨m',hm,w3⟩:=hN Z3 H3 n3;exact⟨m',hm,Z3,H3,I3,w3⟩
  |cont=>
   obtain⟨Z3,H3,I3,n3⟩:=q3;obtain⟨m',hm,w3⟩:=hN Z3 H3 n3;exact⟨m',hm,Z3,H3,I3,w3⟩
  |brk=>exact q3
  |ret v=>exact q3
 |false=>
  rw[if_neg Gz];exact wpAny_execs_nil ⟨Z1,H2,I2,q2⟩
end
structure It where
 go:Nat->Hp->Prop
 ux:Nat->Hp->V->Hp->Prop
 stop:Nat->Hp->Prop
def fV(X:Cx)(ao:List (Addr×Obj))(H:Hp)(b:Addr):Prop:=
 H b=none/\b≠X.env.locals/\b∉X.fs/\(b∈X.ex\/X.s₀.heap.objs.size<=b)/\(∀x c,X.env.cells.lookup x=some c->c≠b)/\∀p∈X.pn++ao,p.1≠b
theorem Inv.uy{X:Cx}{ao:List (Addr×Obj)}{Z:St}{H H':Hp}{s:Shared}{b:Addr}(I:Inv X ao Z H s)(hb:s.heap.objs.size<=b)(hn:H' b=none):fV X ao H' b:=by
 refine⟨hn,pO (gb I.lt hb),I.wZ hb,.inr (jO I.sz hb),λx c e z=>?_,λp hp z=>?_⟩
 ·obtain⟨v,q⟩:=I.cell x c e;exact absurd (gb q.lt (by rw[z];exact hb)) (pN _)
 ·exact absurd (gb (bQ (I.pin p hp).1) (by rw[z];exact hb)) (pN _)
structure Turn(P:Program)(w:World)(K:W.Frag)(tg:Expr)(bf:It)(fp:List Addr)(it:Addr)(tn:Nat->Heap->Prop):Prop where
 mem:it∈fp
 obj:∀i h,tn i h->∀b∈fp,∃o,h.get? b=some o/\∀v,o.data≠.cell v
 keep:∀i h h',tn i h->(∀b∈fp,∀o,h.get? b=some o->h'.get? b=some o)->tn i h'
 item:∀(X:Cx),X.prog=P->X.w=w->X.K=K->X.aj=true->∀(i:Nat) (ao:List (Addr×Obj)) (s:Shared) (Z:St) (H:Hp) (E:Value->Shared->Prop),Inv X ao Z H s->(∀b∈fp,fV X ao H b)->tn i s.heap->bf.go i H->
  wpAny (model P w) X.A (pyNext (.ref it)) (λr s1=>∃u,r=some u /\
   wpAny (model P w) X.A (letOwnedTupleGo tg (.ref it) u) (λ_ s2=>∃x H',Inv X ao Z H' s2/\RelV x u/\bf.ux i H x H'/\tn (i+1) s2.heap/\∀b∈fp,H' b=none) E s1) E s
 done:∀(X:Cx),X.prog=P->X.w=w->X.K=K->X.aj=true->∀(i:Nat) (ao:List (Addr×Obj)) (s:Shared) (Z:St) (H:Hp) (E:Value->Shared->Prop),Inv X ao Z H s->(∀b∈fp,fV X ao H b)->tn i s.heap->bf.stop i H->
  wpAny (model P w) X.A (pyNext (.ref it)) (λr s1=>r=none/\Inv X ao Z H s1) E s
 self:∀(A:Around) (i:Nat) (s:Shared) (Q:Value->Shared->Prop) (E:Value->Shared->Prop),tn i s.heap->Q (.ref it) s->wpAny (model P w) A (pyIter (.ref it)) Q E s
noncomputable abbrev TI:=St->Hp->(It->Hp->Prop)->Prop
def PIE(X:Cx)(ao:List (Addr×Obj))(Z:St)(tg:Expr)(R:It->Hp->Prop)(itv:Value)(s2:Shared):Prop:=
 ∃(it:Addr) (fp:List Addr) (tn:Nat->Heap->Prop) (bf:It) (H':Hp),itv=.ref it/\Inv X ao Z H' s2/\Turn X.prog X.w X.K tg bf fp it tn/\tn 0 s2.heap/\(∀b∈fp,fV X ao H' b)/\R bf H'
def PI(X:Cx)(tg iter:Expr)(wi:TI):Prop:=
 ∀(ao:List (Addr×Obj)) (s:Shared) (Z:St) (H:Hp) (R:It->Hp->Prop),Inv X ao Z H s->wi Z H R->
  wpAny (model X.prog X.w) X.A (eval iter X.env) (λv s1=>wpAny (model X.prog X.w) X.A (pyIter v) (PIE X ao Z tg R) X.xe s1) X.xe s
theorem Qx{M:Model}{A:Around}{E:Value->Shared->Prop}{s:Shared}{tg:Expr}{it:Addr}{u:Value}{o:Obj}{n:String}{vs:Array Value}{Q:Unit->Shared->Prop}(ho:s.heap.get? it=some o)(hc:o.cls=.type n)(hd:o.data=.fields vs)
  (hn:["enumerate","zip","dict_itemiterator","dict_reverseitemiterator","odict_iterator","itertools.zip_longest","itertools.pairwise"].contains n=false) (hQ:Q () s):wpAny M A (letOwnedTupleGo tg (.ref it) u) Q E s:=by
 unfold letOwnedTupleGo;cases tg<;>first
  |exact aM hQ
  | (cases u<;>first
    |exact aM hQ
    | (refine aB (wpAny_load ho ?_)
       rw[hc,hd];show wpAny M A (if (["enumerate","zip","dict_itemiterator","dict_reverseitemiterator","odict_iterator","itertools.zip_longest","itertools.pairwise"].contains n&&vs[0]?==some (rawInt _))=true then _ else _) Q E s;rw[if_neg (by intro h;rw[hn,Bool.false_and] at h;cases h)];exact aM hQ))
noncomputable def Mu(K:W.Frag)(a:Addr):It:=
 ⟨λi H=>∃xs x,dj K H a xs/\xs[i]?=some x,λi H x H'=>H'=H/\∀xs,dj K H a xs->xs[i]?=some x,λi H=>∃xs,dj K H a xs/\xs.length<=i⟩
noncomputable def Qy(K:W.Frag)(a:Addr):It:=
 ⟨λi H=>∃xs x,gw K H a xs/\xs[i]?=some x,λi H x H'=>H'=H/\∀xs,gw K H a xs->xs[i]?=some x,λi H=>∃xs,gw K H a xs/\xs.length<=i⟩
noncomputable def HF(lo:Int)(n:Nat):It:=⟨λi _=>i<n,λi H x H'=>H'=H/\x=.int (lo+i),λi _=>n<=i⟩
theorem zgA{P:Program}{w:World}{K:W.Frag}{tg:Expr}(a it:Addr):Turn P w K tg (Mu K a) [it] it (λi h=>h.IsListIter it a i) where
 mem:=by simp
 obj:=λi h st b hb=>by
  have e:b=it:=by simpa using hb
  subst e;obtain⟨o,e,c,d⟩:=st;exact⟨o,e,λv z=>by rw[d] at z;cases z⟩
 keep:=λi h h' st k=>st.at λo e=>k it (by simp) o e
 item:=by
  intro X hP hw hK hc i ao s Z H E I hf st hg;subst hP hw hK;obtain⟨xs,x,hq,hx⟩:=hg;obtain⟨its,rv,p,hz⟩:=I.list hq;obtain⟨u,hu,ru⟩:=rv.get hx;obtain⟨f0,f1,f2,f3,f4,f5⟩:=hf it (by simp);refine wpAny_pyNext_list_item st p.isList (x:=u) (by simpa using hu) λh' st' sb=>?_;have I1:Inv X ao Z H {s with heap:=h'}:=I.turned (t':=s.toks) (λb o hb e=>(sb.2 b hb).trans e) f0 f1 f3 f4 f5;obtain⟨o,e,c,d⟩:=id st';exact⟨u,rfl,Qx (s:={s with heap:=h'}) e c d (by decide) ⟨x,H,I1,ru,⟨rfl,λys hy=>by rw[I.ou hy hq];exact hx⟩,st',λb hb=>(hf b hb).1⟩⟩
 done:=by
  intro X hP hw hK hc i ao s Z H E I hf st hg;subst hP hw hK;obtain⟨xs,hq,hx⟩:=hg;obtain⟨its,rv,p,hz⟩:=I.list hq;obtain⟨f0,f1,f2,f3,f4,f5⟩:=hf it (by simp);have hl:=rv.length;exact wpAny_pyNext_list_end (I.ok.hd hc) st p.isList (by simp;lia) λh' eb=>⟨rfl,I.turned (t':=s.toks) (λb o hb e=>eb b o hb e) f0 f1 f3 f4 f5⟩
 self:=λ_ _ _ _ _ st h=>wpAny_pyIter_listiter st h
theorem zfo{P:Program}{w:World}{K:W.Frag}{tg:Expr}(a it:Addr):Turn P w K tg (Qy K a) [it] it (λi h=>h.IsTupleIter it a i) where
 mem:=by simp
 obj:=λi h st b hb=>by
  have e:b=it:=by simpa using hb
  subst e;obtain⟨o,e,c,d⟩:=st;exact⟨o,e,λv z=>by rw[d] at z;cases z⟩
 keep:=λi h h' st k=>st.at λo e=>k it (by simp) o e
 item:=by
  intro X hP hw hK hc i ao s Z H E I hf st hg;subst hP hw hK;obtain⟨xs,x,hq,hx⟩:=hg;obtain⟨its,rv,p,hz⟩:=I.tuple hq;obtain⟨u,hu,ru⟩:=rv.get hx;obtain⟨f0,f1,f2,f3,f4,f5⟩:=hf it (by simp);refine wpAny_pyNext_tuple_item st (show s.heap.IsTuple a its.toArray from p) (x:=u) (by simpa using hu) λh' st' sb=>?_;have I1:Inv X ao Z H {s with heap:=h'}:=I.turned (t':=s.toks) (λb o hb e=>(sb.2 b hb).trans e) f0 f1 f3 f4 f5;obtain⟨o,e,c,d⟩:=id st';exact⟨u,rfl,Qx (s:={s with heap:=h'}) e c d (by decide) ⟨x,H,I1,ru,⟨rfl,λys hy=>by rw[I.lX hy hq];exact hx⟩,st',λb hb=>(hf b hb).1⟩⟩
 done:=by
  intro X hP hw hK hc i ao s Z H E I hf st hg;subst hP hw hK;obtain⟨xs,hq,hx⟩:=hg;obtain⟨its,rv,p,hz⟩:=I.tuple hq;obtain⟨f0,f1,f2,f3,f4,f5⟩:=hf it (by simp);have hl:=rv.length;exact wpAny_pyNext_tuple_end (I.ok.hd hc) st (show s.heap.IsTuple a its.toArray from p) (by simp;lia) λh' eb=>⟨rfl,I.turned (t':=s.toks) (λb o hb e=>eb b o hb e) f0 f1 f3 f4 f5⟩
 self:=λ_ _ _ _ _ st h=>wpAny_pyIter_tupleiter st h
theorem zfh{P:Program}{w:World}{K:W.Frag}{tg:Expr}(it:Addr)(lo:Int)(n:Nat):Turn P w K tg (HF lo n) [it] it (λi h=>IsRangeIter h it (lo+(i:Nat)*1) ((n:Int)-(i:Nat)) 1) where
 mem:=by simp
 obj:=λi h st b hb=>by
  have e:b=it:=by simpa using hb
  subst e;exact⟨_,st,λv z=>by
   have z':Data.fields _=Data.cell v:=z;cases z'⟩
 keep:=λi h h' st k=>k it (by simp) _ st
 item:=by
  intro X hP hw hK hc i ao s Z H E I hf st hg;subst hP hw hK;obtain⟨f0,f1,f2,f3,f4,f5⟩:=hf it (by simp);have W:=Walks.range (prog:=X.prog) (w:=X.w) (I.ok.hd hc) it lo 1 n;refine W.item i s _ _ hg st λv h' tk hv st' kk=>?_;obtain⟨t,rfl⟩:=hv;have I1:Inv X ao Z H {s with heap:=h',toks:=tk}:=I.turned (λb o hb e=>kk b o (by simpa using hb) e) f0 f1 f3 f4 f5;refine⟨_,rfl,Qx (s:={s with heap:=h',toks:=tk}) (n:="range_iterator") st' rfl rfl (by decide) ⟨.int (lo+i),H,I1,⟨t,?_⟩,⟨rfl,rfl⟩,st',λb hb=>(hf b hb).1⟩⟩;rw[Int.mul_one]
 done:=by
  intro X hP hw hK hc i ao s Z H E I hf st hg;subst hP hw hK;obtain⟨f0,f1,f2,f3,f4,f5⟩:=hf it (by simp);exact wpAny_pyNext_range_end (I.ok.hd hc) st (by have:n<=i:=hg;lia) λh' eb=>⟨rfl,I.turned (t':=s.toks) (λb o hb e=>eb b o hb e) f0 f1 f3 f4 f5⟩
 self:=λ_ _ _ _ _ st h=>wpAny_pyIter_rangeiter st h
section
variable {X:Cx}{tg:Expr}
theorem X4{ao:List (Addr×Obj)}{Z:St}{H:Hp}{s:Shared}{R:It->Hp->Prop}{E:Value->Shared->Prop}{lo hi:Int}{t u v:Tok}{tk:Nat}(I:Inv X ao Z H s)(h1 : -(2^62)<=lo)(h2:lo<2^62)(h3 : -(2^62)<=hi)(h4:hi<2^62)
  (q:R (HF lo (hi-lo).toNat) H):wpAny (model X.prog X.w) X.A (pyIter (.ref s.heap.objs.size)) (PIE X ao Z tg R) E {s with heap:=s.heap.push {cls:=.type "range",data:=.fields #[.int lo t,.int hi u,.int 1 v]},toks:=tk}:=by
 refine wpAny_pyIter_range (IsRange.new ..) (small_one h1 h2 h3 h4) ?_;have I1:Inv X ao Z H {s with heap:=s.heap.push {cls:=.type "range",data:=.fields #[.int lo t,.int hi u,.int 1 v]},toks:=tk}:=I.kept λb o e=>cG _ e;refine⟨(s.heap.push {cls:=.type "range",data:=.fields #[.int lo t,.int hi u,.int 1 v]}).objs.size,[(s.heap.push {cls:=.type "range",data:=.fields #[.int lo t,.int hi u,.int 1 v]}).objs.size],_,_,H,rfl,
  I1.kept (t':=tk) λb o e=>cG _ e,zfh _ lo (hi-lo).toNat,?_,λb hb=>?_,q⟩
 ·have e1:lo+((0:Nat):Int)*1=lo:=by simp
  have e2:(((hi-lo).toNat:Nat):Int)-((0:Nat):Int)=Builtin.Range.rangeSize lo hi 1:=by rw[rangeSize_one];split<;>lia
  show IsRangeIter _ _ (lo+((0:Nat):Int)*1) ((((hi-lo).toNat:Nat):Int)-((0:Nat):Int)) 1;rw[e1,e2];exact eE _ rfl
 ·have e:b=(s.heap.push {cls:=.type "range",data:=.fields #[.int lo t,.int hi u,.int 1 v]}).objs.size:=by simpa using hb
  subst e;exact I1.uy (cD _) (I1.hok.fresh (cD _))
noncomputable def HJ(ta:TA):TI:=λZ H R=>ta Z H λvs H1=>∃j:Int,vs=[.int j]/\-(2^62)<=j/\j<2^62/\R (HF 0 j.toNat) H1
noncomputable def HN(ta:TA):TI:=λZ H R=>ta Z H λvs H1=>∃i j:Int,vs=[.int i,.int j]/\(-(2^62)<=i/\i<2^62/\-(2^62)<=j/\j<2^62)/\R (HF i (j-i).toNat) H1
theorem zgE{a:Expr}{ta:TA}{p pos:Pos}(hg:Gl X "range")(hm:X.mg "range"=none)(ha:PA X [a] ta)(hs:starEach [a] X.env=[(false,eval a X.env)]:=by rfl):PI X tg (.Call (.Name "range" p) [a] [] pos) (HJ ta):=by
 intro ao s Z H R I h;refine Call_ (tO I hg hm boot_range (wH (aV (ha pos ao s Z H _ I h) λus s1 hx=>fH hx λvs H1 I1 r1 q1=>?_) hs rfl));obtain⟨j,e,q1,q2,q⟩:=q1;subst e;cases r1 with
 |cons r rr=>
  cases rr;obtain⟨t,rfl⟩:=r;exact call_range_1 (X4 I1 (by lia) (by lia) q1 q2 (by simpa using q))
theorem zgC{a b:Expr}{ta:TA}{p pos:Pos}(hg:Gl X "range")(hm:X.mg "range"=none)(ha:PA X [a,b] ta)(hs:starEach [a,b] X.env=[(false,eval a X.env),(false,eval b X.env)]:=by rfl)(zB:starEach [b] X.env=[(false,eval b X.env)]:=by rfl) :
  PI X tg (.Call (.Name "range" p) [a,b] [] pos) (HN ta):=by
 intro ao s Z H R I h;refine Call_ (tO I hg hm boot_range (wH (aV (ha pos ao s Z H _ I h) λus s1 hx=>fH hx λvs H1 I1 r1 q1=>?_) (by rw[hs,zB]) (by rw[zB];rfl)));obtain⟨i,j,e,⟨q1,q2,q3,q4⟩,q⟩:=q1;subst e;cases r1 with
 |cons r rr=>
  cases rr with
  |cons r' rr=>
   cases rr;obtain⟨t,rfl⟩:=r;obtain⟨t',rfl⟩:=r';exact call_range_2 (X4 I1 q1 q2 q3 q4 q)
noncomputable def Qz(wi:TI)(g:TG)(tb:TS):TS:=λD Z H=>wi Z H λbf H1=>∃W:Nat->Nat->St->Hp->Prop,(∃m,W 0 m Z H1)/\∀i m Z H,W i m Z H->
 (bf.stop i H/\D.nx Z H)\/(bf.go i H/\∃N:St->Hp->Prop,(∀Z' H',N Z' H'->∃m',m'<m/\W (i+1) m' Z' H')/\∀x H',bf.ux i H x H'->g x Z H' λZ2 H2=>tb {D with nx:=N,ct:=N,bk:=D.nx} Z2 H2)
noncomputable def je(fp:List Addr)(h:Heap):List (Addr×Obj):=fp.filterMap λb=>(h.get? b).map λo=>(b,o)
theorem zE{fp:List Addr}{h:Heap}{b:Addr}{o:Obj}(hb:b∈fp)(e:h.get? b=some o):(b,o)∈je fp h:=GC.mpr ⟨b,hb,by rw[e];rfl⟩
theorem zgs{fp:List Addr}{h:Heap}{p:Addr×Obj}(hp:p∈je fp h):p.1∈fp/\h.get? p.1=some p.2:=by
 obtain⟨b,hb,e⟩:=GC.mp hp;cases q:h.get? b with
 |none=>rw[q] at e;cases e
 |some o=>
  rw[q] at e;have e':(b,o)=p:=cW e;subst e';exact⟨hb,q⟩
theorem Inv.pinned{ao:List (Addr×Obj)}{Z:St}{H:Hp}{s:Shared}{fp:List Addr}(I:Inv X ao Z H s)(hf:∀b∈fp,fV X ao H b)(ho:∀b∈fp,∃o,s.heap.get? b=some o/\∀v,o.data≠.cell v):Inv X (ao++je fp s.heap) Z H s:=
 I.jP λp hp=>(nJ.mp hp).elim (λz=>I.pin p (k_ _ z)) λz=>by
  obtain⟨hb,e⟩:=zgs z;obtain⟨f0,f1,f2,_⟩:=hf p.1 hb;obtain⟨o,e',d⟩:=ho p.1 hb;rw[e] at e';cases e';exact⟨e,f0,f1,f2,d⟩
theorem Inv.cH{ao pl:List (Addr×Obj)}{Z:St}{H:Hp}{s:Shared}(I:Inv X (ao++pl) Z H s):Inv X ao Z H s:=I.jP λp hp=>I.pin p (k_ _ (Gw _ hp))
theorem zl4{iter:Expr}{body:List Stmt}{wi:TI}{g:TG}{tb:TS}{pos:Pos}(hp:PassesOwn (model X.prog X.w) X.A X.env X.xe)(hc:X.aj=true)(hi:PI X tg iter wi)(hg:PG X tg g)(hb:pQ X body tb)
  (hs:∀x,foldedSetIterable iter X.env x=pure x:=by intro _;rfl):PS X (.For tg iter body [] pos) (Qz wi g tb):=by
 intro ao s Z H D I h;refine wpAny_For (aV (hi ao s Z H _ I h) λv s1 h1=>aV h1 λitv s2 h2=>?_) hs;obtain⟨it,fp,tn,bf,H2,e,I2,T,st2,f2,W,⟨m0,w0⟩,turn⟩:=h2;subst e;have stat:∀{H':Hp},(∀b∈fp,H' b=none)->∀b∈fp,fV X ao H' b:=λhn b hb=>⟨hn b hb,(f2 b hb).2⟩;refine codeAny_forLoop_any (λn s'=>∃i Z' H',Inv X ao Z' H' s'/\tn i s'.heap/\(∀b∈fp,H' b=none)/\W i n Z' H') ?_ m0 ⟨0,Z,H2,I2,st2,λb hb=>(f2 b hb).1,w0⟩;rintro n s3 ⟨i,Z3,H3,I3,st3,X5,w3⟩;rcases turn i n Z3 H3 w3 with ⟨stop,qn⟩|⟨go,N,hN,step⟩
 ·refine Aw hp (aV (T.done X rfl rfl rfl hc i ao s3 Z3 H3 X.xe I3 (stat X5) st3 stop) λr s4 ⟨hr,I4⟩=>?_);subst hr;exact wpAny_execs_nil ⟨Z3,H3,I4,qn⟩
 ·refine Aw hp (aV (T.item X rfl rfl rfl hc i ao s3 Z3 H3 X.xe I3 (stat X5) st3 go) λr s4 hx=>vR hx λu hr h4=>?_);subst hr;refine Aw hp (aV h4 λ_ s5 ⟨x,H5,I5,r5,y5,tQ,vV⟩=>?_);have I5':=I5.pinned (stat vV) (T.obj _ _ tQ);refine Aw hp (aV (hg _ s5 Z3 H5 x u _ I5' r5 (step x H5 y5)) λ_ s6 ⟨Z6,H6,I6,q6⟩=>?_);refine Aw hp (aV (hb _ s6 Z6 H6 _ I6 q6) λf s7 q7=>?_);have again:∀{Z7:St} {H7:Hp},Inv X (ao++je fp s5.heap) Z7 H7 s7->N Z7 H7->∃m,m<n/\∃i Z' H',Inv X ao Z' H' s7/\tn i s7.heap/\(∀b∈fp,H' b=none)/\W i m Z' H':=λ{Z7 H7} I7 n7=>by
   obtain⟨m',hm,w7⟩:=hN Z7 H7 n7;refine⟨m',hm,i+1,Z7,H7,I7.cH,T.keep _ _ _ tQ λb hb o e=>(I7.pin (b,o) (k_ _ (k_ _ (zE hb e)))).1,λb hb=>?_,w7⟩;obtain⟨o,e,d⟩:=T.obj _ _ tQ b hb;exact(I7.pin (b,o) (k_ _ (k_ _ (zE hb e)))).2.1
  cases f with
  |next=>obtain⟨Z7,H7,I7,n7⟩:=q7;exact again I7 n7
  |cont=>obtain⟨Z7,H7,I7,n7⟩:=q7;exact again I7 n7
  |brk=>obtain⟨Z7,H7,I7,q7⟩:=q7;exact⟨Z7,H7,I7.cH,q7⟩
  |ret v=>obtain⟨x7,Z7,H7,I7,r7,q7⟩:=q7;exact⟨x7,Z7,H7,I7.cH,r7,q7⟩
end
noncomputable abbrev R2:=V->V->Hp->VK->Prop
def fK(X:Cx)(f:Value->Value->Sem Value)(r:R2):Prop:=
 ∀(ao:List (Addr×Obj)) (s:Shared) (Z:St) (H:Hp) (x y:V) (v u:Value) (Q:VK),Inv X ao Z H s->RelV x v->RelV y u->r x y H Q->
  wpAny (model X.prog X.w) X.A (f v u) (EP X ao Z Q) X.xe s
def Mv(X:Cx)(f:Value->Sem Value)(r:V->Hp->VK->Prop):Prop:=
 ∀(ao:List (Addr×Obj)) (s:Shared) (Z:St) (H:Hp) (x:V) (v:Value) (Q:VK),Inv X ao Z H s->RelV x v->r x H Q->
  wpAny (model X.prog X.w) X.A (f v) (EP X ao Z Q) X.xe s
def dB(X:Cx)(f:Value)(r:List V->Hp->VK->Prop):Prop:=
 ∀(ao:List (Addr×Obj)) (s:Shared) (Z:St) (H:Hp) (xs:List V) (us:List Value) (Q:VK),Inv X ao Z H s->Vals xs us->r xs H Q->
  wpAny (model X.prog X.w) X.A (call f us) (EP X ao Z Q) X.xe s
def QB(X:Cx)(r:V->Hp->(Bool->Hp->Prop)->Prop):Prop:=
 ∀(ao:List (Addr×Obj)) (s:Shared) (Z:St) (H:Hp) (x:V) (v:Value) (Q:Bool->Hp->Prop),Inv X ao Z H s->RelV x v->r x H Q->
  wpAny (model X.prog X.w) X.A (truthy v) (TP X ao Z Q) X.xe s
noncomputable def Mw(r:R2)(ta tb:TE):TE:=λZ H Q=>ta Z H λx H1=>tb Z H1 λy H2=>r x y H2 Q
noncomputable def tUn(r:V->Hp->VK->Prop)(ta:TE):TE:=λZ H Q=>ta Z H λx H1=>r x H1 Q
noncomputable def rI(C:Int->Int->Prop)(g:Int->Int->V):R2:=λx y H Q=>∃i j,x=.int i/\y=.int j/\C i j/\Q (g i j) H
noncomputable def pR(g:Int->Int->V):R2:=λx y H Q=>∃i j,x=.int i/\y=.int j/\Q (g i j) H
noncomputable def rU(g:Int->V):V->Hp->VK->Prop:=λx H Q=>∃i,x=.int i/\Q (g i) H
section
variable {X:Cx}{a b c:Expr}{ta tb tc:TE}{pos:Pos}
theorem Bs(ha:PE X a ta)(hb:PE X b tb){ao:List (Addr×Obj)}{s:Shared}{Z:St}{H:Hp}{R:V->V->Hp->Prop}(I:Inv X ao Z H s)
  (h:ta Z H λx H1=>tb Z H1 λy H2=>R x y H2) {Q:Value->Shared->Prop} {f:Value->Value->Sem Value}
  (hf:∀v u s2 x y H2,Inv X ao Z H2 s2->RelV x v->RelV y u->R x y H2->wpAny (model X.prog X.w) X.A (f v u) Q X.xe s2) :
  wpAny (model X.prog X.w) X.A (eval a X.env) (λv s₁=>wpAny (model X.prog X.w) X.A (eval b X.env) (λu s₂=>wpAny (model X.prog X.w) X.A (f v u) Q X.xe s₂) X.xe s₁) X.xe s:=by
 refine aV (ha ao s Z H _ I h) λv s1 hx=>fH hx λx H1 I1 r1 q1=>?_;refine aV (hb ao s1 Z H1 _ I1 q1) λu s2 hx=>fH hx λy H2 I2 r2 q2=>?_;exact hf v u s2 x y H2 I2 r1 r2 q2
theorem znP{op:Operator}{r:R2}(ho:fK X (binaryOp op) r)(ha:PE X a ta)(hb:PE X b tb):PE X (.BinOp a op b pos) (Mw r ta tb):=by
 intro ao s Z H Q I h;exact wpAny_BinOp (Bs ha hb I h λv u s2 x y H2 I2 rx ry q=>ho ao s2 Z H2 x y v u Q I2 rx ry q)
theorem X6{op:UnaryOp}{r:V->Hp->VK->Prop}(ho:Mv X (unaryOp op) r)(ha:PE X a ta):PE X (.UnaryOp op a pos) (tUn r ta):=by
 intro ao s Z H Q I h;exact UnaryOp_ (aV (ha ao s Z H _ I h) λv s1 hx=>fH hx λx H1 I1 r1 q1=>ho ao s1 Z H1 x v Q I1 r1 q1)
theorem Mx{f:Value->Value->Sem Value}{C:Int->Int->Prop}{g:Int->Int->Int}
  (rule:∀(i j:Int) (t u:Tok) (s:Shared) (Q:Value->Shared->Prop) (E:Value->Shared->Prop),C i j->Q (.int (g i j) s.toks) {s with toks:=s.toks+1}->wpAny (model X.prog X.w) X.A (f (.int i t) (.int j u)) Q E s) :
  fK X f (rI C λi j=>.int (g i j)):=by
 intro ao s Z H x y v u Q I rx ry h;obtain⟨i,j,rfl,rfl,hc,q⟩:=h;obtain⟨t,rfl⟩:=rx;obtain⟨t',rfl⟩:=ry;exact rule i j t t' s _ _ hc ⟨.int (g i j),H,I.tok _,⟨_,rfl⟩,q⟩
theorem HS{f:Value->Value->Sem Value}{g:Int->Int->Int}
  (rule:∀(i j:Int) (t u:Tok) (s:Shared) (Q:Value->Shared->Prop) (E:Value->Shared->Prop),Q (.int (g i j) s.toks) {s with toks:=s.toks+1}->wpAny (model X.prog X.w) X.A (f (.int i t) (.int j u)) Q E s) :
  fK X f (pR λi j=>.int (g i j)):=by
 intro ao s Z H x y v u Q I rx ry h;obtain⟨i,j,rfl,rfl,q⟩:=h;obtain⟨t,rfl⟩:=rx;obtain⟨t',rfl⟩:=ry;exact rule i j t t' s _ _ ⟨.int (g i j),H,I.tok _,⟨_,rfl⟩,q⟩
theorem xr{f:Value->Value->Sem Value}{g:Int->Int->Bool}
  (rule:∀(i j:Int) (t u:Tok) (s:Shared) (Q:Value->Shared->Prop) (E:Value->Shared->Prop),Q (.bool (g i j)) s->wpAny (model X.prog X.w) X.A (f (.int i t) (.int j u)) Q E s) :
  fK X f (pR λi j=>.bl (g i j)):=by
 intro ao s Z H x y v u Q I rx ry h;obtain⟨i,j,rfl,rfl,q⟩:=h;obtain⟨t,rfl⟩:=rx;obtain⟨t',rfl⟩:=ry;exact rule i j t t' s _ _ ⟨.bl (g i j),H,I,rfl,q⟩
def xu(i j:Int):Prop:=0<j/\j<1073741824
def HW(i j:Int):Prop:=0<=j/\j<=1000000/\i.natAbs<2^64
def xG(i j:Int):Prop:=(-(2^64)<i/\i<2^64)\/(-(2^64)<j/\j<2^64)
theorem xG.ok{i j:Int}(h:xG i j):IntMulOk i j:=by
 rcases h with ⟨h1,h2⟩|⟨h1,h2⟩
 ·exact .of_left (intBits_le_64 h1 h2)
 ·exact .of_right (intBits_le_64 h1 h2)
theorem Bt:fK X (binaryOp .Add) (pR λi j=>.int (i+j)):=HS λ_ _ _ _ _ _ _ q=>add_int q
theorem zlC:fK X (binaryOp .Sub) (pR λi j=>.int (i-j)):=HS λ_ _ _ _ _ _ _ q=>sub_int q
theorem zlz:fK X (binaryOp .Mult) (rI xG λi j=>.int (i*j)):=Mx λ_ _ _ _ _ _ _ hc q=>mul_int q hc.ok
theorem zjf:fK X (binaryOp .FloorDiv) (rI xu λi j=>.int (i/j)):=Mx λi j _ _ _ _ _ hc q=>by
 have h1:(0:Int)<j:=hc.1;have h2:j<1073741824:=hc.2;exact floordiv_int (by lia) (by rw[Int.fdiv_eq_ediv_of_nonneg i (by lia)];exact q) (.inl (PyProof.noPylong_small (by lia)))
theorem zkp:fK X (binaryOp .Mod) (rI (λ_ j=>0<j) λi j=>.int (i%j)):=Mx λi j _ _ _ _ _ hc q=>by
 have h1:(0:Int)<j:=hc;exact mod_int' (by lia) (by rw[Int.fmod_eq_emod_of_nonneg i (by lia)];exact q)
theorem zlh:fK X (binaryOp .Pow) (rI HW λi j=>.int (i^j.toNat)):=Mx λ_ _ _ _ _ _ _ hc q=>pow_int_small hc.1 hc.2.1 hc.2.2 q
theorem unI{f:Value->Sem Value}{g:Int->Int}
  (rule:∀(i:Int) (t:Tok) (s:Shared) (Q:Value->Shared->Prop) (E:Value->Shared->Prop),Q (.int (g i) s.toks) {s with toks:=s.toks+1}->wpAny (model X.prog X.w) X.A (f (.int i t)) Q E s) :
  Mv X f (rU λi=>.int (g i)):=by
 intro ao s Z H x v Q I rx h;obtain⟨i,rfl,q⟩:=h;obtain⟨t,rfl⟩:=rx;exact rule i t s _ _ ⟨.int (g i),H,I.tok _,⟨_,rfl⟩,q⟩
theorem X7:Mv X (unaryOp .USub) (rU λi=>.int (-i)):=unI λ_ _ _ _ _ q=>neg_int q
end
section
variable {X:Cx}{a b c:Expr}{ta tb tc:TE}{pos:Pos}
theorem HX:fK X (compareOp .Lt) (pR λi j=>.bl (decide (i<j))):=xr λ_ _ _ _ _ _ _ q=>lt_int q
theorem znA:fK X (compareOp .LtE) (pR λi j=>.bl (decide (i<=j))):=xr λ_ _ _ _ _ _ _ q=>le_int q
theorem zmJ:fK X (compareOp .Gt) (pR λi j=>.bl (decide (j<i))):=xr λ_ _ _ _ _ _ _ q=>gt_int q
theorem zmX:fK X (compareOp .GtE) (pR λi j=>.bl (decide (j<=i))):=xr λ_ _ _ _ _ _ _ q=>ge_int q
theorem fK.or{f:Value->Value->Sem Value}{r r':R2}(h:fK X f r)(h':fK X f r'):fK X f (λx y H Q=>r x y H Q\/r' x y H Q):=by
 intro ao s Z H x y v u Q I rx ry q;rcases q with q|q
 ·exact h ao s Z H x y v u Q I rx ry q
 ·exact h' ao s Z H x y v u Q I rx ry q
theorem zjC{op:CmpOp}{r:R2}(ho:fK X (compareOp op) r)(ha:PE X a ta)(hb:PE X b tb)(hm:behindInMarks op b=false):PE X (.Compare a [op] [b] pos) (Mw r ta tb):=by
 intro ao s Z H Q I h;exact wpAny_Compare1 (Bs ha hb I h λv u s2 x y H2 I2 rx ry q=>ho ao s2 Z H2 x y v u Q I2 rx ry q) hm
noncomputable def HY(t:TE):TT:=λZ H Q=>t Z H λx H'=>∃k,x=.bl k/\Q k H'
theorem ziX{op:CmpOp}{r:R2}(ho:fK X (compareOp op) r)(ha:PE X a ta)(hb:PE X b tb)(hm:behindInMarks op b=false):PT X (.Compare a [op] [b] pos) (HY (Mw r ta tb)):=by
 intro ao s Z H Q I h;refine wpAny_isTrue_Compare1 (aV (ha ao s Z H _ I h) λv s1 hx=>fH hx λx H1 I1 r1 q1=>aV (hb ao s1 Z H1 _ I1 q1) λu s2 hx=>fH hx λy H2 I2 r2 q2=>
  aV (ho ao s2 Z H2 x y v u _ I2 r1 r2 q2) λc s3 hx=>Qa hx λz H3 I3 r3 k e q3=>?_) hm
 subst e;cases r3;exact vN ⟨H3,I3,q3⟩
noncomputable def Bu(r r':R2)(ta tb tc:TE):TE:=λZ H Q=>ta Z H λx H1=>tb Z H1 λy H2=>r x y H2 λz H3=>∃k,z=.bl k /\
 (if k=true then tc Z H3 λw' H4=>r' y w' H4 Q else Q (.bl false) H3)
theorem zhu{op op':CmpOp}{r r':R2}(ho:fK X (compareOp op) r)(pP:fK X (compareOp op') r')(ha:PE X a ta)(hb:PE X b tb)(hc:PE X c tc)
  (hm:lastMarks [op,op'] [b,c]=false:=by with_unfolding_all rfl):PE X (.Compare a [op,op'] [b,c] pos) (Bu r r' ta tb tc):=by
 intro ao s Z H Q I h;refine Compare_chain (aV (ha ao s Z H _ I h) λv s1 hx=>fH hx λx H1 I1 r1 q1=>chain_link (aV (hb ao s1 Z H1 _ I1 q1) λu s2 hx=>fH hx λy H2 I2 r2 q2=>
  aV (ho ao s2 Z H2 x y v u _ I2 r1 r2 q2) λd s3 hx=>Qa hx λz H3 I3 r3 k e q3=>?_)) hm
 subst e;cases r3;refine vN ?_;cases k with
 |false=>exact ite_ff ⟨.bl false,H3,I3,rfl,q3⟩
 |true=>exact ite_tt (chain_last (aV (hc ao s3 Z H3 _ I3 q3) λw' s4 hx=>fH hx λz' H4 I4 r4 q4=>pP ao s4 Z H4 y z' u w' Q I4 r2 r4 q4))
def Bv(K:W.Frag)(x:V)(H:Hp)(k:Bool):Prop:=
 match x with
 |.non=>k=false
 |.bl b=>k=b
 |.int i=>k=(i != 0)
 |.str y=>y.length<=sizeLine/\k=((y.length:Int) != 0)
 |.Bf y=>y.size<=sizeLine/\k=((y.size:Int) != 0)
 |.ref p=>(∃xs,dj K H p xs/\k = !xs.isEmpty)\/(∃xs,gw K H p xs/\k = !xs.isEmpty)\/∃kvs,H p=some (.dK kvs)/\k = !kvs.isEmpty
 |_=>False
theorem zfs{κ:Type}{kvs:List (κ×V)}{vs:List (κ×Value)}(r:KV kvs vs):(!vs.isEmpty) = !kvs.isEmpty:=by
 cases r<;>rfl
theorem X8{xs:List V}{its:List Value}(r:Vals xs its):(!its.toArray.isEmpty) = !xs.isEmpty:=by
 cases r<;>simp
theorem jf:(sizeLine:Nat)<2^63:=by rw[vP];decide
theorem zlT:QB X (λx H Q=>∃k,Bv X.K x H k/\Q k H):=by
 intro ao s Z H x v Q I rx h;obtain⟨k,e,q⟩:=h;have hl:=jf;have hs:sizeLine=16777216:=vP;cases x with
 |non=>
  cases rx;have e':k=false:=e;subst e';exact truthy_none ⟨H,I,q⟩
 |bl b=>
  cases rx;have e':k=b:=e;subst e';exact vN ⟨H,I,q⟩
 |int i=>
  obtain⟨t,rfl⟩:=rx;have e':k=(i != 0):=e;subst e';exact PySem.P.truthy_int ⟨H,I,q⟩
 |str y=>
  obtain⟨t,rfl⟩:=rx;obtain⟨hy,e'⟩ : y.length<=sizeLine/\k=((y.length:Int) != 0):=e;subst e';exact PySem.P.truthy_str (by lia) ⟨H,I.tok _,q⟩
 |Bf y=>
  obtain⟨t,rfl⟩:=rx;obtain⟨hy,e'⟩ : y.size<=sizeLine/\k=((y.size:Int) != 0):=e;subst e';exact PySem.W.truthy_bytes (by lia) ⟨H,I.tok _,q⟩
 |ref p=>
  cases rx;have e':(∃xs,dj X.K H p xs/\k = !xs.isEmpty)\/(∃xs,gw X.K H p xs/\k = !xs.isEmpty)\/∃kvs,H p=some (.dK kvs)/\k = !kvs.isEmpty:=e;rcases e' with ⟨xs,hx,e'⟩|⟨xs,hx,e'⟩|⟨kvs,hx,e'⟩
  ·subst e';obtain⟨its,r,pl,hz⟩:=I.list hx;have hlen:=r.length;exact wpAny_truthy_list pl.isList (by simp only[fj];lia) ⟨H,I.tok _,by rw[X8 r];exact q⟩
  ·subst e';obtain⟨its,r,pl,hz⟩:=I.tuple hx;have hlen:=r.length;exact truthy_tuple pl (by simp only[fj];lia) ⟨H,I.tok _,by rw[X8 r];exact q⟩
  ·subst e';obtain⟨hz,hS,vs,r,m⟩ : kvs.length<=sizeLine/\(p==sysModules)=false/\∃vs,KV kvs vs/\s.heap.DictOf (mV X.prog X.w) p vs:=I.hok p _ hx;have hlen:kvs.length=vs.length:=Paired.length r;exact wpAny_truthy_dict hS m (by lia) ⟨H,I.tok _,by rw[zfs r];exact q⟩
 |_=>exact(show False from e).elim
theorem zfc:fK X (binaryOp .Add) (λx y H Q=>∃i j,x=.str i/\y=.str j/\i.length+j.length<=sizeLine/\Q (.str (i++j)) H):=by
 intro ao s Z H x y v u Q I rx ry h;obtain⟨i,j,rfl,rfl,hz,q⟩:=h;obtain⟨t,rfl⟩:=rx;obtain⟨t',rfl⟩:=ry;exact add_str (λt' tk=>⟨.str (i++j),H,I.tok _,⟨_,rfl⟩,q⟩) hz
theorem vals1{x:V}{us:List Value}(r:Vals [x] us):∃u,us=[u]/\RelV x u:=by
 cases r with
 |cons r1 r2=>cases r2;exact⟨_,rfl,r1⟩
theorem vals2{x y:V}{us:List Value}(r:Vals [x,y] us):∃u w',us=[u,w']/\RelV x u/\RelV y w':=by
 cases r with
 |cons r1 r2=>
  cases r2 with
  |cons r3 r4=>cases r4;exact⟨_,_,rfl,r1,r3⟩
theorem zgt(hc:X.aj=true):dB X (.builtin "max") (λxs H Q=>∃i j,xs=[.int i,.int j]/\Q (.int (if j>i then j else i)) H):=by
 intro ao s Z H xs us Q I r h;obtain⟨i,j,rfl,q⟩:=h;obtain⟨u,w',rfl,⟨t,rfl⟩,⟨t',rfl⟩⟩:=vals2 r;refine max_two_ints (I.ok.hd hc) λh' tk k=>⟨_,H,I.kept k,?_,q⟩;by_cases hj:j>i
 ·rw[if_pos hj,if_pos hj];exact⟨_,rfl⟩
 ·rw[if_neg hj,if_neg hj];exact⟨_,rfl⟩
theorem zfN(hc:X.aj=true):dB X (.builtin "min") (λxs H Q=>∃i j,xs=[.int i,.int j]/\Q (.int (if j<i then j else i)) H):=by
 intro ao s Z H xs us Q I r h;obtain⟨i,j,rfl,q⟩:=h;obtain⟨u,w',rfl,⟨t,rfl⟩,⟨t',rfl⟩⟩:=vals2 r;refine min_two_ints (I.ok.hd hc) λh' tk k=>⟨_,H,I.kept k,?_,q⟩;by_cases hj:j<i
 ·rw[if_pos hj,if_pos hj];exact⟨_,rfl⟩
 ·rw[if_neg hj,if_neg hj];exact⟨_,rfl⟩
theorem zfv:dB X (.type "int") (λxs H Q=>(∃i,xs=[.int i]/\Q (.int i) H)\/∃k,xs=[.bl k]/\Q (.int (if k then 1 else 0)) H):=by
 intro ao s Z H xs us Q I r h;rcases h with ⟨i,rfl,q⟩|⟨k,rfl,q⟩
 ·obtain⟨u,rfl,t,rfl⟩:=vals1 r;exact call_int_int ⟨.int i,H,I,⟨_,rfl⟩,q⟩
 ·obtain⟨u,rfl,r1⟩:=vals1 r;cases r1;exact call_int_bool ⟨.int (if k then 1 else 0),H,I.tok _,⟨_,rfl⟩,q⟩
theorem zd0:dB X (.builtin "divmod") (λxs H Q=>∃i j,xs=[.int i,.int j]/\xu i j/\∀p,H p=none->Q (.ref p) (upd H p (.tup [.int (i/j),.int (i%j)]))):=by
 intro ao s Z H xs us Q I r h;obtain⟨i,j,rfl,⟨h1,h2⟩,q⟩:=h;obtain⟨u,w',rfl,⟨t,rfl⟩,⟨t',rfl⟩⟩:=vals2 r;refine divmod_int (by lia) ?_ (.inl (PyProof.noPylong_small (by lia)));rw[Int.fdiv_eq_ediv_of_nonneg i (by lia),Int.fmod_eq_emod_of_nonneg i (by lia)];have hn:H s.heap.objs.size=none:=I.hok.fresh (cD _);refine⟨.ref s.heap.objs.size,_,?_,rfl,q _ hn⟩;refine I.laid (λb o e=>cG _ e) (cD _) ⟨by simp only[h_,Et];rw[vP];decide,[.int (i/j) s.toks,.int (i%j) (s.toks+1)],.cons ⟨_,rfl⟩ (.cons ⟨_,rfl⟩ .nil),?_⟩;exact⟨_,eE s.heap rfl,rfl,0,rfl⟩
end
structure pU(h:Heap)(x dx C:Addr)(mA:Str->Option Value):Prop where
 obj:h.get? x=some (PySem.W.instObj C dx)
 ns:h.Ns1 dx mA
 ne:dx≠x
theorem zfZ{h:Heap}{dx:Addr}{mA:Str->Option Value}(n:h.Ns1 dx mA):∃od,h.get? dx=some od/\∀name,PySem.W.lookIn name od=some (mA name):=by
 obtain⟨o,es,ep,ho,hd,hk,_,hm⟩:=n;refine⟨o,ho,λname=>?_⟩;have e:=hm name;unfold nsFind findBy at e;rw[<-Array.find?_toList] at e;unfold PySem.W.lookIn;rw[hd];dsimp only
 split
 ·rename_i y q;rw[q] at e;exact lq some e
 ·rename_i q;rw[q] at e;have a:es.toList.any (·.refKey)=false:=by
   rw[List.any_eq_false];intro y hy;obtain⟨z,t,QC⟩:=hk y (Array.mem_toList_iff.mp hy);simp[DictEntry.refKey,QC]
  have a':¬es.toList.any (·.refKey)=true:=by rw[a];exact Gz
  rw[if_neg a'];exact lq some e
theorem pU.look{h:Heap}{x dx C:Addr}{mA:Str->Option Value}(I:pU h x dx C mA):∃od,PySem.W.InstAt h x (PySem.W.instObj C dx) C (some od)/\∀name,PySem.W.lookIn name od=some (mA name):=
 let ⟨od,ho,hl⟩:=zfZ I.ns
 ⟨od,⟨I.obj,rfl,rfl,ho⟩,hl⟩
section
variable {prog:Program}{w:World}{A:Around}{E:Value->Shared->Prop}{s:Shared}{K:W.Frag}{x dx C f:Addr}{mA:Str->Option Value}{name:Str}{v:Value}
theorem zjw{expr:Bool}{Q:Value->Shared->Prop}(X:K.In s.heap)(I:pU s.heap x dx C mA)(hg:PySem.W.plainGet K C name=true)(hh:PySem.W.hasDictIn K C=true)
  (ha:PySem.W.findIn K (.ref C) name=some none) (hv:mA name=some v) (QD:PySem.W.handedIn v=true) (h:Q v {s with toks:=s.toks+1}) :
  wpAny (model prog w) A (getAttr (.ref x) name expr) Q E s:=by
 obtain⟨od,bf,hl⟩:=I.look;exact PySem.W.get_value X bf (PB hg).1 (PySem.W.findObj_own hh ha rfl (by rw[hl,hv])) QD h
theorem zh1{pl:Sem Bool}{Q:Value×List Value->Shared->Prop}(X:K.In s.heap)(I:pU s.heap x dx C mA)(hg:PySem.W.plainGet K C name=true)
  (hf:PySem.W.findIn K (.ref C) name=some (some (.ref f))) (ht:PySem.W.isFn K (.ref f)=true) (hv:mA name=none) (h:Q (.ref f,[.ref x]) s) :
  wpAny (model prog w) A (getMethod (.ref x) name pl) Q E s:=by
 obtain⟨od,bf,hl⟩:=I.look;exact PySem.W.method_fn X bf (PB hg).1 (PB hg).2 hf (nW.mp ht) (by show (PySem.W.lookIn name od).map (·.isSome)=some false;rw[hl,hv];rfl) h
theorem ziI{ns:List Str}{Q:Unit->Shared->Prop}(X:K.In s.heap)(I:pU s.heap x dx C mA)
  (hs:PySem.W.findIn K (.ref C) "__setattr__"=some (some (.builtin "object.__setattr__"))) (hp:PySem.W.plainOver K C=true) (ht:PySem.W.takerIn K C name=some none) (hh:PySem.W.hasDictIn K C=true)
  (hw:PySem.Within mA ns) (hsz:ns.length<=sizeLine)
  (h:∀h',pU h' x dx C (λy=>if y=name then some v else mA y)->Heap.SameBut dx s.heap h'->Q () {s with heap:=h',toks:=s.toks+2}) :
  wpAny (model prog w) A (setAttr (.ref x) name v) Q E s:=by
 obtain⟨od,bf,hl⟩:=I.look;refine PySem.W.set_plain X bf hs (PySem.W.osa_open (s:={s with toks:=s.toks+1}) (r:=none) X bf hp ht λb=>?_);obtain⟨cd,hc,Hr⟩:=PySem.W.any_some hh;have hx:s.heap.get? x=some ⟨.ref C,some dx,.plain,#[]⟩:=I.obj;refine aB (aM (aB (aB (wpAny_loadPart hx (aB (PySem.W.Looks.here (s:={s with toks:=s.toks+1}) (PySem.W.looks_clsIn X hc) ?_))))));rw[Hr];refine aM (a:=some dx) (aB (aM (aB ?_)));refine wpAny_nsSet1 (s:={s with toks:=s.toks+1}) I.ns λh' X_ zB=>?_;obtain⟨oD,esD,epD,hoD,hdD,hcD⟩:=X_.count (PySem.Within.cons name v hw);refine aB (wpAny_lookBehind hoD (by rw[hdD];exact pastItsLine_dict (jO hcD (by rw[h_];lia))) ?_);exact aM (h _ ⟨(zB.2 _ (Ne.symm I.ne)).trans I.obj,X_,I.ne⟩ zB)
theorem zhz{R:Result->Shared->Prop}{vs:List Value}{kw:List (Str×Value)}(X:K.In s.heap)(hm:PySem.W.makesIn K C=true)
  (hi:PySem.W.findIn K (.ref C) "__init__"=some (some (.ref f))) (hf:PySem.W.typeIn K (.ref f)=some (.type "function"))
  (h:codeAny (model prog w) (A.under (.builtin "type.__call__" ⟨.ref C::vs,kw⟩)) (.call (.ref f) ⟨.ref (s.heap.objs.size+1)::vs,kw⟩) (PySem.W.InitBack (s.heap.objs.size+1) R)
   {s with heap:=(s.heap.push PySem.W.emptyDict).push (PySem.W.instObj C s.heap.objs.size)}) :
  codeAny (model prog w) A (.call (.ref C) ⟨vs,kw⟩) R s:=by
 obtain⟨hh,g,d,t,os⟩:=s;exact PySem.W.make_core (PySem.W.makes_of X hm) (PySem.W.looks_findIn X hi) (λself=>PySem.W.bind_fn X self hf) (.inl rfl) h
end
noncomputable def fW(f:Str)(v:V):List (Str×V)->List (Str×V)
 |[]=>[(f,v)]
 |(g,x)::r=>if g=f then (g,v)::r else (g,x)::fW f v r
theorem Yb(f g:Str)(v:V):∀fs:List (Str×V),(fW f v fs).lookup g=if g=f then some v else fs.lookup g
 |[]=>by
  show List.lookup g [(f,v)]=_;by_cases h:g=f
  ·have hb:(g==f)=true:=nW.mpr h;simp only[List.lookup,hb,if_pos h]
  ·have hb:(g==f)=false:=D_.mpr h;simp only[List.lookup,hb,if_neg h]
 |(k,x)::r=>by
  have ih:=Yb f g v r;rw[show fW f v ((k,x)::r)=(if k=f then (k,v)::r else (k,x)::fW f v r) from rfl];by_cases hk:k=f
  ·rw[if_pos hk];by_cases h:g=k
   ·have hb:(g==k)=true:=nW.mpr h;simp only[List.lookup,hb,if_pos (h.trans hk)]
   ·have hb:(g==k)=false:=D_.mpr h;simp only[List.lookup,hb,if_neg (λe:g=f=>h (e.trans hk.symm))]
  ·rw[if_neg hk];by_cases h:g=k
   ·have hb:(g==k)=true:=nW.mpr h;simp only[List.lookup,hb,if_neg (λe:g=f=>hk (h.symm.trans e))]
   ·have hb:(g==k)=false:=D_.mpr h;simp only[List.lookup,hb];exact ih
theorem QF(f:Str)(v:V):∀fs:List (Str×V),f∈(fW f v fs).map (·.1)/\∀g,g∈fs.map (·.1)->g∈(fW f v fs).map (·.1)
 |[]=>⟨by simp[fW],λg h=>by simp at h⟩
 |(k,x)::r=>by
  obtain⟨i1,i2⟩:=QF f v r;rw[show fW f v ((k,x)::r)=(if k=f then (k,v)::r else (k,x)::fW f v r) from rfl];by_cases hk:k=f
  ·rw[if_pos hk];subst hk;exact⟨by simp,λg h=>by simpa using h⟩
  ·rw[if_neg hk];refine⟨?_,λg h=>?_⟩
   ·rw[jo];exact iG _ i1
   ·rw[jo] at h ⊢;rcases iY.mp h with e|e
    ·exact iY.mpr (.inl e)
    ·exact iG _ (i2 g e)
theorem Yc(f:Str)(v:V):∀fs:List (Str×V),(fW f v fs).length<=fs.length+1
 |[]=>by simp[fW]
 |(k,x)::r=>by
  have ih:=Yc f v r;rw[show fW f v ((k,x)::r)=(if k=f then (k,v)::r else (k,x)::fW f v r) from rfl];by_cases hk:k=f
  ·rw[if_pos hk,h_,h_];lia
  ·rw[if_neg hk,h_,h_];lia
theorem Kag{v:V}{o:Option Value}(r:rT (some v) o):∃u,o=some u/\RelV v u:=by
 cases o with
 |none=>exact(show False from r).elim
 |some u=>exact⟨u,rfl,r⟩
theorem Kaf{o:Option Value}(r:rT none o):o=none:=by
 cases o with
 |none=>rfl
 |some u=>exact(show False from r).elim
theorem zfE{v:V}{u:Value}(r:RelV v u):PySem.W.handedIn u=true:=by
 cases v with
 |non=>cases (show u=Value.none from r);rfl
 |bl b=>cases (show u=Value.bool b from r);rfl
 |int i=>obtain⟨t,e⟩:=(show ∃t,u=Value.int i t from r);cases e;rfl
 |str x=>obtain⟨t,e⟩:=(show ∃t,u=Value.str x t from r);cases e;rfl
 |Bf b=>obtain⟨t,e⟩:=(show ∃t,u=Value.bytes b t from r);cases e;rfl
 |flt b=>obtain⟨t,e⟩:=(show ∃t,u=Value.float b t from r);cases e;rfl
 |ref a=>cases (show u=Value.ref a from r);rfl
 |ty n=>cases (show u=Value.type n from r);rfl
section
variable {P:Program}{w:World}{H H':Hp}{h h':Heap}{a C dx:Addr}{fs fs':List (Str×V)}
theorem QG(hok:iV P w H h)(e:H a=some (.ins C dx fs)):∃mA,pU h a dx C mA/\(∀f,rT (fs.lookup f) (mA f))/\PySem.Within mA (fs.map (·.1))/\fs.length<=1000/\H dx=some (.own a):=by
 obtain⟨d,z,ne,ob,mA,n,r,q⟩:=(show bI P w H h a (.ins C dx fs) from hok a _ e);exact⟨mA,⟨ob,n,ne⟩,r,q,z,d⟩
end
structure Cls(K:W.Frag)(C:Addr):Prop where
 pg:PySem.W.plainGet K C Str.empty=true
 hd:PySem.W.hasDictIn K C=true
 po:PySem.W.plainOver K C=true
 sa:PySem.W.findIn K (.ref C) "__setattr__"=some (some (.builtin "object.__setattr__"))
theorem Cls.get{K:W.Frag}{C:Addr}(c:Cls K C)(f:Str):PySem.W.plainGet K C f=true:=c.pg
def iw(K:W.Frag)(C:Addr)(f:Str):Prop:=PySem.W.findIn K (.ref C) f=some none
theorem iw.taker{K:W.Frag}{C:Addr}{f:Str}(n:iw K C f):PySem.W.takerIn K C f=some none:=by
 unfold PySem.W.takerIn;rw[show PySem.W.findIn K (.ref C) f=some none from n];rfl
structure Meth(K:W.Frag)(C:Addr)(m:Str)(f:Addr):Prop where
 at_:PySem.W.findIn K (.ref C) m=some (some (.ref f))
 fn:PySem.W.isFn K (.ref f)=true
 kp:PySem.W.keepIn K (.ref f)=true
section
variable {X:Cx}{ao:List (Addr×Obj)}{Z:St}{H:Hp}{s:Shared}{a C dx:Addr}{fs:List (Str×V)}{f:Str}{v:V}{A:Around}{E:Value->Shared->Prop}
theorem zfr{b:Bool}{Q:Value->Shared->Prop}(I:Inv X ao Z H s)(e:H a=some (.ins C dx fs))(c:Cls X.K C)(n:iw X.K C f)(l:fs.lookup f=some v)
  (h:∀u s',Inv X ao Z H s'->RelV v u->Q u s'):wpAny (model X.prog X.w) A (getAttr (.ref a) f b) Q E s:=by
 obtain⟨mA,O,r,_,_,_⟩:=QG I.hok e;obtain⟨u,hu,ru⟩:=Kag (v:=v) (o:=mA f) (by rw[<-l];exact r f);exact zjw I.lW O (c.get f) c.hd n hu (zfE ru) (h u _ (I.tok _) ru)
theorem ze7{m:Str}{g:Addr}{pl:Sem Bool}{Q:Value×List Value->Shared->Prop}(I:Inv X ao Z H s)(e:H a=some (.ins C dx fs))(c:Cls X.K C)(k:Meth X.K C m g)(l:fs.lookup m=none)
  (h:Q (.ref g,[.ref a]) s):wpAny (model X.prog X.w) A (getMethod (.ref a) m pl) Q E s:=by
 obtain⟨mA,O,r,_,_,_⟩:=QG I.hok e;have hn:mA m=none:=Kaf (by rw[<-l];exact r m);exact zh1 I.lW O (c.get m) k.at_ k.fn hn h
theorem zfg{y:V}{u:Value}{Q:Unit->Shared->Prop}(I:Inv X ao Z H s)(e:H a=some (.ins C dx fs))(c:Cls X.K C)(n:iw X.K C f)(hl:fs.length<1000)(ry:RelV y u)
  (h:∀s',Inv X ao Z (upd H a (.ins C dx (fW f y fs))) s'->Q () s'):wpAny (model X.prog X.w) A (setAttr (.ref a) f u) Q E s:=by
 obtain⟨mA,O,r,wi,_,ho⟩:=QG I.hok e;have hz:(fs.map (·.1)).length<=sizeLine:=by rw[eY,vP];lia
 refine ziI I.lW O c.sa c.po n.taker c.hd wi hz λh' O' sb=>h _ ?_;have hd:∃o,h'.get? dx=some o:=let ⟨o,_,_,e',_⟩:=O'.ns;⟨o,e'⟩;refine I.write (x:=a) (e:=dx) (by rw[e];exact True.intro) (.inr ho) (λb q hb z=>(sb.2 b hb).trans z) hd ?_;refine⟨by rw[bZ O.ne];exact ho,?_,O.ne,O'.obj,_,O'.ns,λg=>?_,λg hg=>?_⟩
 ·have:=Yc f y fs;lia
 ·show rT ((fW f y fs).lookup g) (if g=f then some u else mA g);rw[Yb];by_cases q:g=f
  ·rw[if_pos q,if_pos q];exact ry
  ·rw[if_neg q,if_neg q];exact r g
 ·by_cases q:g=f
  ·rw[q];exact(QF f y fs).1
  ·refine(QF f y fs).2 g (wi g λz=>hg ?_);show (if g=f then some u else mA g)=none;rw[if_neg q];exact z
theorem Inv.made(I:Inv X ao Z H s):Inv X ao Z (upd (upd H s.heap.objs.size (.own (s.heap.objs.size+1))) (s.heap.objs.size+1) (.ins C s.heap.objs.size []))
  {s with heap:=(s.heap.push PySem.W.emptyDict).push (PySem.W.instObj C s.heap.objs.size)}:=by
 have e1:(s.heap.push PySem.W.emptyDict).get? s.heap.objs.size=some PySem.W.emptyDict:=eE s.heap rfl;have e2:((s.heap.push PySem.W.emptyDict).push (PySem.W.instObj C s.heap.objs.size)).get? (s.heap.objs.size+1)=some (PySem.W.instObj C s.heap.objs.size):=by
  have:=eE (s.heap.push PySem.W.emptyDict) (o:=PySem.W.instObj C s.heap.objs.size) rfl
  rwa [rM] at this
 have e3:(s.heap.push PySem.W.emptyDict).Ns s.heap.objs.size (λ_=>none):=⟨PySem.W.emptyDict,#[],_,e1,rfl,(λe he=>absurd he (by simp)),λ_=>rfl⟩;have I1:=I.laid (a:=s.heap.objs.size) (o:=.own (s.heap.objs.size+1)) (h':=s.heap.push PySem.W.emptyDict) (t':=s.toks) (λb u q=>cG _ q) (cD _) ⟨_,e1⟩;refine I1.laid (a:=s.heap.objs.size+1) (o:=.ins C s.heap.objs.size []) (t':=s.toks) (λb u q=>cG _ q) (Nat.le_of_eq (rM _ _)) ?_;have ne:s.heap.objs.size≠s.heap.objs.size+1:=c7 (Aq _);refine⟨by rw[bZ ne,iH],rP _,ne,e2,λ_=>none,(Heap.Ns1.of_empty e3).at λo q=>cG _ q,λ_=>True.intro,λy hy=>absurd rfl hy⟩
theorem zjT{prog:Program}{w:World}{env:Env}{e:Expr}{f:Str}{pos:Pos}{s:Shared}{Q:Value->Shared->Prop}(hb:attributeBase e f env (eval e env)=eval e env)
  (h:wpAny (model prog w) A (eval e env) (λo s₁=>wpAny (model prog w) A (getAttr o f true) Q E s₁) E s):wpAny (model prog w) A (eval (.Attribute e f pos) env) Q E s:=
 Attribute_any_ h (by rw[arm_eval_Attribute,hb])
end
noncomputable def QJ(K:W.Frag)(ta:TE)(f:Str):TE:=λZ H Q=>ta Z H λx H1=>∃a C dx fs v,x=.ref a/\H1 a=some (.ins C dx fs)/\Cls K C/\iw K C f/\fs.lookup f=some v/\Q v H1
noncomputable def QK(K:W.Frag)(ta tv:TE)(f:Str):TS:=λD Z H=>tv Z H λy H1=>ta Z H1 λx H2=>∃a C dx fs,x=.ref a/\H2 a=some (.ins C dx fs)/\Cls K C/\iw K C f/\fs.length<1000 /\
 D.nx Z (upd H2 a (.ins C dx (fW f y fs)))
section
variable {X:Cx}{o e value:Expr}{f:Str}{pos pos' tpos:Pos}{ta tv:TE}
theorem zlF(he:PE X e ta)(hb:attributeBase e f X.env (eval e X.env)=eval e X.env):PE X (.Attribute e f pos) (QJ X.K ta f):=by
 intro ao s Z H Q I h;refine zjT hb (aV (he ao s Z H _ I h) λu s1 ⟨x,H1,I1,rx,a,C,dx,fs,v,ex,ea,c,n,l,q⟩=>?_);subst ex;obtain rfl:u=Value.ref a:=rx;exact zfr I1 ea c n l λu' s2 I2 ru=>⟨v,H1,I2,ru,q⟩
theorem zkZ(ha:PE X o ta)(hv:PE X value tv)(hs:swapsWith value (some (.Attribute o f pos')) pos.line X.env=pure false):PS X (.Assign [.Attribute o f pos'] value pos) (QK X.K ta tv f):=by
 intro ao s Z H D I h;refine plainObj_wpAny_Assign_Attribute (aV (hv ao s Z H _ I h) λu s1 hx=>fH hx λy H1 I1 ry q=>aV (ha ao s1 Z H1 _ I1 q) λov s2 ⟨x,H2,I2,rx,a,C,dx,fs,ex,ea,c,n,l,q2⟩=>?_) hs;subst ex;obtain rfl:ov=Value.ref a:=rx;exact zfg I2 ea c n l ry λs3 I3=>⟨Z,_,I3,q2⟩
end
section
variable {X:Cx}{ao:List (Addr×Obj)}{Z:St}{H:Hp}{s:Shared}{A:Around}{E:Value->Shared->Prop}{Q:Value->Shared->Prop}{c:Value}{b:Bool}
end
structure bC(k:Nat)(A:Around):Prop where
 dp:A.depth+3*k+5<recursionLimit
 un:A.units+16*k+200<cLine
 gd:A.guards=some []
theorem bC.deeper{k:Nat}{A:Around}(r:bC (k+1) A)(env:Env):bC k (A.deeper env):=
 ⟨by have:=r.dp;show A.depth+1+3*k+5<_;lia,by have:=r.un;show A.units+3+16*k+200<_;lia,r.gd⟩
theorem zeZ{A:Around}{C:Addr}{us:List Value}{kw:List (Str×Value)}:(A.under (.builtin "type.__call__" ⟨.ref C::us,kw⟩)).depth=A.depth+1:=by
 first|rfl|simp[Around.under,Code.weight,Code.isCreation,Code.isGuard,Code.isCaller,Code.frames,Code.isFrame,guardIds]
theorem zfk{A:Around}{C:Addr}{us:List Value}{kw:List (Str×Value)}:(A.under (.builtin "type.__call__" ⟨.ref C::us,kw⟩)).units=A.units+1:=by
 first|rfl|simp[Around.under,Code.cUnits,Code.frames,Code.isFrame]
theorem bC.depth{k:Nat}{A:Around}(r:bC k A):A.depth<recursionLimit:=by have:=r.dp;lia
noncomputable def H_:TA:=λ_ H Q=>Q [] H
noncomputable def zF(ta:TE)(tr:TA):TA:=λZ H Q=>ta Z H λx H1=>tr Z H1 λxs H2=>Q (x::xs) H2
section
variable {X:Cx}{e:Expr}{es:List Expr}{te:TE}{t:TA}{pos:Pos}
theorem xH:PA X [] H_:=λ_ _ _ _ H Q I h=>Lp ⟨[],H,I,.nil,h⟩
theorem rW(ha:PE X e te)(hr:PA X es t)(hs:starEach (e::es) X.env=(false,eval e X.env)::starEach es X.env:=by rfl):PA X (e::es) (zF te t):=by
 intro pos ao s Z H Q I h;rw[hs];show wpAny _ _ (spliced ((false,eval e X.env)::backTo pos (starEach es X.env))) _ _ s;refine Calls.spliced_cons (aV (ha ao s Z H _ I h) λu s1 hx=>fH hx λx H1 I1 r1 q1=>?_);exact aV (hr pos ao s1 Z H1 _ I1 q1) λus s2 hx=>fH hx λxs H2 I2 r2 q2=>⟨x::xs,H2,I2,.cons r1 r2,q2⟩
noncomputable def QL(t:TA):TE:=λZ H Q=>t Z H λxs H1=>xs.length<=sizeLine/\∀p,H1 p=none->Q (.ref p) (upd H1 p (.tup xs))
noncomputable def QM(t:TA):TE:=λZ H Q=>t Z H λxs H1=>xs.length<=sizeLine/\∀p,H1 p=none->Q (.ref p) (upd H1 p (.lst xs))
theorem zle{x1}(h:PA X es t):PE X (.Tuple es x1 pos) (QL t):=by
 intro ao s Z H Q I hq;refine wpAny_Tuple_spliced (aV (h pos ao s Z H _ I hq) λus s1 ⟨xs,H1,I1,r,z,q⟩=>⟨by rw[<-r.length];exact z,?_⟩);have hf:H1 s1.heap.objs.size=none:=I1.hok.fresh (cD _);refine⟨.ref s1.heap.objs.size,upd H1 s1.heap.objs.size (.tup xs),I1.laid (t':=s1.toks) (λb u e=>cG _ e) (cD _) ?_,rfl,q _ hf⟩;exact⟨z,us,r,⟨_,eE _ rfl,rfl,_,rfl⟩⟩
theorem zl0(h:PA X es t):PE X (.List es pos) (QM t):=by
 intro ao s Z H Q I hq;refine wpAny_List_spliced (aV (h pos ao s Z H _ I hq) λus s1 ⟨xs,H1,I1,r,z,q⟩=>⟨by rw[<-r.length];exact z,?_⟩);have hf:H1 s1.heap.objs.size=none:=I1.hok.fresh (cD _);refine⟨.ref s1.heap.objs.size,upd H1 s1.heap.objs.size (.lst xs),I1.laid (t':=s1.toks) (λb u e=>cG _ e) (cD _) ?_,rfl,q _ hf⟩;exact⟨z,us,0,r,eE _ rfl⟩
end
noncomputable abbrev Sp:=List V->Hp->VK->XK->Prop
noncomputable abbrev rY:=List Env->Hp->Shared->XK->Value->Shared->Prop
structure pW(P:Program)(w:World)(K:W.Frag)(mg:Str->Option Value)(base:Heap)(A:Around)(outer:List Env)(s:Shared)(H:Hp):Prop where
 frames:A.frames=some outer
 mod:Mod K mg base
 bs:∀b o,base.get? b=some o->s.heap.get? b=some o/\H b=none
 wX:base.objs.size<=s.heap.objs.size
 jE:s.heap.FunFrames base outer
 zy:(∀b∈frs outer,H b=none)/\Bh K H
 hok:iV P w H s.heap
 bare:AllBare s.gens
def CE(outer:List Env)(P:Program)(w:World)(H:Hp)(s:Shared)(Q:VK)(u:Value)(s':Shared):Prop:=
 ∃v H',s'.os=s.os/\AllBare s'.gens/\Un (frs outer) [] H H' s.heap s'.heap/\iV P w H' s'.heap/\RelV v u/\Q v H'
def CR(CX:rY)(outer:List Env)(P:Program)(w:World)(H:Hp)(s:Shared)(Q:VK)(E:XK)(r:Result)(s':Shared):Prop:=
 match r with
 |.ok (.ret u)=>CE outer P w H s Q u s'
 |.ok _=>False
 |.error e=>CX outer H s E e s'
structure cJ(P:Program)(w:World)(K:W.Frag)(mg:Str->Option Value)(base:Heap)(CX:rY)(cm:Bool)(k:Nat)(f:Addr)(fd:FuncData)(ps:List Str)(sp:Sp):Prop where
 len:∀vs H Q E,sp vs H Q E->vs.length=ps.length
 run:∀(A:Around) (outer:List Env) (s:Shared) (H:Hp) (args:Args) (us:List Value) (vs:List V) (Q:VK) (E:XK),(cm=true->A.handled=none)->bC k A->pW P w K mg base A outer s H->BindsTo s fd args (ps.zip us)->Vals vs us->sp vs H Q E->
  codeAny (model P w) A (.call (.ref f) args) (CR CX outer P w H s Q E) s
theorem cJ.imp{P:Program}{w:World}{K:W.Frag}{mg:Str->Option Value}{base:Heap}{CX:rY}{cm:Bool}{k:Nat}{f:Addr}{fd:FuncData}{ps:List Str}{sp Yd:Sp}(F:cJ P w K mg base CX cm k f fd ps sp)
  (h:∀vs H Q E,Yd vs H Q E->sp vs H Q E):cJ P w K mg base CX cm k f fd ps Yd:=
 ⟨λvs H Q E q=>F.len vs H Q E (h _ _ _ _ q),λA outer s H args us vs Q E jg hr he hb hv hs=>F.run A outer s H args us vs Q E jg hr he hb hv (h _ _ _ _ hs)⟩
theorem pW.make{P:Program}{w:World}{K:W.Frag}{mg:Str->Option Value}{base:Heap}{A:Around}{outer:List Env}{s:Shared}{H:Hp}(e:pW P w K mg base A outer s H)(C:Addr)(us:List Value)(kw:List (Str×Value)) :
  pW P w K mg base (A.under (.builtin "type.__call__" ⟨.ref C::us,kw⟩)) outer s H:=⟨by first|exact e.frames|(simpa [Around.under,Code.envs,Code.isFrame,pushEnvs] using e.frames),e.mod,e.bs,e.wX,e.jE,e.zy,e.hok,e.bare⟩
section
variable {X:Cx}{ao:List (Addr×Obj)}{Z:St}{H:Hp}{s s':Shared}
theorem Inv.env0(I:Inv X ao Z H s):pW X.prog X.w X.K X.mg X.base X.A X.stack s H:=
 ⟨I.ok.frames,I.ok.mod,I.bs,jO I.ok.wX I.sz,I.stack,⟨I.mX,I.Bj⟩,I.hok,I.bare⟩
theorem Inv.after{Q:VK}{u:Value}(I:Inv X ao Z H s)(h:CE X.stack X.prog X.w H s Q u s'):EP X ao Z Q u s':=by
 obtain⟨v,H',os,bare,un,hok,r,q⟩:=h;obtain⟨hh,g,d,t,os'⟩:=s';obtain rfl:os'=s.os:=os;exact⟨v,H',I.call (h':=hh) (g':=g) (d':=d) (t':=t) (ch:=[]) un hok bare (λb z=>absurd z (by simp)),r,q⟩
end
noncomputable def Ia(C:Addr)(m:Str)(sp:Sp)(oA:List V)(E:XK)(ta:TE)(t:TA):TE:=λZ H Q=>ta Z H λx H1=>∃a dx fs,x=.ref a/\H1 a=some (.ins C dx fs)/\fs.lookup m=none /\
 t Z H1 λvs H2=>sp (x::(vs++oA)) H2 Q E
noncomputable def Ib(C:Addr)(sp:Sp)(oA:List V)(E:XK)(t:TA):TE:=λZ H Q=>t Z H λvs H1=>∀x dx,H1 x=none->H1 dx=none->dx≠x->
 sp (.ref x::(vs++oA)) (upd (upd H1 dx (.own x)) x (.ins C dx [])) (λv H2=>v=.non/\Q (.ref x) H2) E
def Binds(K:W.Frag)(fd:FuncData)(ps:List Str)(ds:List Value):Prop:=
 ∀(s:Shared) (us:List Value),K.In s.heap->(us++ds).length=ps.length->BindsTo s fd ⟨us,[]⟩ (ps.zip (us++ds))
theorem Binds.all{K:W.Frag}{fd:FuncData}{ps:List Str}(h:∀us:List Value,us.length=ps.length->bindArgs fd ⟨us,[]⟩=pure (ps.zip us)):Binds K fd ps []:=λs us _ hl=>by
 rw[wM] at hl ⊢;exact .of_eq (h us hl)
def Passes(CX:rY)(X:Cx)(E:XK):Prop:=∀(ao:List (Addr×Obj)) (Z:St) (H:Hp) (s:Shared) (e:Value) (s':Shared),Inv X ao Z H s->CX X.stack H s E e s'->X.xe e s'
section
variable {X:Cx}{CX:rY}{cm:Bool}{k:Nat}{f C:Addr}{fd:FuncData}{ps:List Str}{sp:Sp}{oA:List V}{ds:List Value}{E:XK}{x m:Str}{p pos apos:Pos}{e o:Expr}{es:List Expr}{ta:TE}{t:TA}
theorem zmg{ao:List (Addr×Obj)}{Z:St}{H:Hp}{s:Shared}{Q:VK}{us:List Value}{vs:List V}(F:cJ X.prog X.w X.K X.mg X.base CX cm k f fd ps sp)(jg:cm=true->X.aj=true)(hr:bC k X.A)(hb:Binds X.K fd ps ds)(hd:Vals oA ds)(hx:Passes CX X E)
  (I:Inv X ao Z H s) (r:Vals vs us) (h:sp (vs++oA) H Q E):wpAny (model X.prog X.w) X.A (call (.ref f) us) (EP X ao Z Q) X.xe s:=by
 have r2:Vals (vs++oA) (us++ds):=r.append hd;have hl:(us++ds).length=ps.length:=by rw[<-r2.length];exact F.len _ _ _ _ h
 refine Ez (zc (F.run X.A X.stack s H ⟨us,[]⟩ (us++ds) (vs++oA) Q E (λz=>I.ok.hd (jg z)) hr I.env0 (hb s us I.lW hl) r2 h) λr s' hq=>?_);cases r with
 |error e=>exact hx ao Z H s e s' I hq
 |ok fl=>
  cases fl with
  |ret u=>exact I.after hq
  |next=>exact False.elim hq
  |brk=>exact False.elim hq
  |cont=>exact False.elim hq
theorem zi8{pl:Sem Bool}(he:PE X o ta)(c:Cls X.K C)(hm:Meth X.K C m f)(F:cJ X.prog X.w X.K X.mg X.base CX cm k f fd ps sp)(jg:cm=true->X.aj=true)(hr:bC k X.A)(hb:Binds X.K fd ps ds)(hd:Vals oA ds)(hx:Passes CX X E)(ha:PA X (e::es) t)
  (Bq:starEach (e::es) X.env=(false,eval e X.env)::starEach es X.env:=by rfl) (cO:(backTo pos (starEach es X.env)).any (·.1)=false:=by rfl)
  (ht:eval (.Call (.Attribute o m apos) (e::es) [] pos) X.env=(do
   let ov <-eval o X.env
   standAt apos.atName
   let (f,first) <-holding [ov] (getMethod ov m pl)
   callWith pos f first (backTo pos (starEach (e::es) X.env)) (backToKw pos (keywordEach [] X.env))):=by rfl) :
  PE X (.Call (.Attribute o m apos) (e::es) [] pos) (Ia C m sp oA E ta t):=by
 intro ao s Z H Q I h;refine PySem.W.methodCall_KW (pl:=pl) (aV (he ao s Z H _ I h) λu s1 ⟨x,H1,I1,rx,a,dx,fs,ex,ea,l,q⟩=>?_) ht;subst ex;obtain rfl:u=Value.ref a:=rx;refine ze7 I1 ea c hm l ?_;refine PJ (first:=[.ref a]) (h₀:=X.base) I.ok.mod.wQ hm.kp (aV (ha pos ao s1 Z H1 _ I1 q) λus s2 ⟨vs,H2,I2,r,q2⟩=>⟨I2.lW,?_⟩) Bq cO;exact zmg (us:=.ref a::us) (vs:=.ref a::vs) F jg hr hb hd hx I2 (.cons rfl r) q2
structure Mk(K:W.Frag)(C f:Addr):Prop where
 makes:PySem.W.makesIn K C=true
 init:PySem.W.findIn K (.ref C) "__init__"=some (some (.ref f))
 fn:PySem.W.isFn K (.ref f)=true
 kp:PySem.W.keepIn K (.ref C)=true
theorem zhe{ao:List (Addr×Obj)}{Z:St}{H:Hp}{s:Shared}{Q:VK}{us:List Value}{vs:List V}(M:Mk X.K C f)(F:cJ X.prog X.w X.K X.mg X.base CX cm k f fd ps sp)(jg:cm=true->X.aj=true)(hr:∀us,bC k (X.A.under (.builtin "type.__call__" ⟨.ref C::us,[]⟩)))(hb:Binds X.K fd ps ds)(hd:Vals oA ds)
  (hx:Passes CX X E) (I:Inv X ao Z H s) (r:Vals vs us)
  (h:∀x dx,H x=none->H dx=none->dx≠x->sp (.ref x::(vs++oA)) (upd (upd H dx (.own x)) x (.ins C dx [])) (λv H2=>v=.non/\Q (.ref x) H2) E) :
  wpAny (model X.prog X.w) X.A (call (.ref C) us) (EP X ao Z Q) X.xe s:=by
 have hq:=h (s.heap.objs.size+1) s.heap.objs.size (I.hok.fresh (uc _)) (I.hok.fresh (cD _)) (c7 (Aq _));have I2:=Inv.made (C:=C) I;have r2:Vals (V.ref (s.heap.objs.size+1)::(vs++oA)) (Value.ref (s.heap.objs.size+1)::(us++ds)):=.cons rfl (r.append hd);have hl:(Value.ref (s.heap.objs.size+1)::us++ds).length=ps.length:=by
  have e:=r2.length;rw[F.len _ _ _ _ hq] at e;exact e.symm
 refine Ez (zhz (f:=f) I.lW M.makes M.init (nW.mp M.fn) (zc (F.run _ X.stack _ _ ⟨Value.ref (s.heap.objs.size+1)::us,[]⟩ (Value.ref (s.heap.objs.size+1)::(us++ds)) _ _ E (λz=>I.ok.hd (jg z)) (hr us)
  (I2.env0.make C us []) (hb _ (Value.ref (s.heap.objs.size+1)::us) I2.lW hl) r2 hq) λr s' Ie=>?_))
 cases r with
 |error e=>exact hx ao Z _ _ e s' I2 Ie
 |ok fl=>
  cases fl with
  |ret u=>
   obtain⟨v,H',I3,rv,ev,q3⟩:=I2.after Ie;subst ev;exact⟨rv,⟨V.ref (s.heap.objs.size+1),H',I3,rfl,q3⟩⟩
  |next=>exact False.elim Ie
  |brk=>exact False.elim Ie
  |cont=>exact False.elim Ie
theorem zjW(M:Mk X.K C f)(F:cJ X.prog X.w X.K X.mg X.base CX cm k f fd ps sp)(jg:cm=true->X.aj=true)(hr:∀us,bC k (X.A.under (.builtin "type.__call__" ⟨.ref C::us,[]⟩)))(hg:Gl X x)(hm:X.mg x=some (.ref C))(hb:Binds X.K fd ps ds)(hd:Vals oA ds)(hx:Passes CX X E)
  (ha:PA X (e::es) t) (rZ:(x==("__debug__" : Str))=false:=by decide) (he:starEach (e::es) X.env=(false,eval e X.env)::starEach es X.env:=by rfl) (cO:(backTo pos (starEach es X.env)).any (·.1)=false:=by rfl) :
  PE X (.Call (.Name x p) (e::es) [] pos) (Ib C sp oA E t):=by
 intro ao s Z H Q I h;refine wJ (Qk I hg hm ?_ rZ);refine PJ (h₀:=X.base) I.ok.mod.wQ M.kp (aV (ha pos ao s Z H _ I h) λus s1 ⟨vs,H1,I1,r,q⟩=>⟨I1.lW,?_⟩) he cO;exact zhe M F jg hr hb hd hx I1 r q
end
section
variable {X:Cx}{CX:rY}{cm:Bool}{k:Nat}{f C:Addr}{fd:FuncData}{ps ks:List Str}{sp:Sp}{E:XK}{x m:Str}{p pos apos kpos:Pos}{e o:Expr}{es:List Expr}{kws:List Keyword}{te ta:TE}{t tk:TA}{nm:Option Str}
variable {g:List Value->List Value->List Value}{gV:List V->List V->List V}
end
structure cj(N P:List Str)(sc:Scope):Prop where
 kind:sc.kind=.function
 co:sc.isCoroutine=false
 gen:sc.isGenerator=false
 nd:N.Nodup
 pre:N.take P.length=P
 par:∀x∈P,sc.names.lookup x=some .local\/sc.names.lookup x=some .cell
 Bw:∀y∈sc.names,y.2≠.free
theorem Ye{kindOf:Str->Option NameKind}{x:Str}:∀{binds:List (Str×Value)} {m:Str->Option Value},(∀v,(x,v)∉binds)->bindL kindOf binds m x=m x
 |[],_,_=>rfl
 |(n,v)::r,m,h=>by
  unfold bindL;rw[Ye λw hw=>h w (iG _ hw)]
  split
  ·have:x≠n:=by rintro rfl;exact h v lQ
   simp[this]
  ·rfl
theorem zdt{kindOf:Str->Option NameKind}{x:Str}:∀{binds:List (Str×Value)} {m:Str->Option Value},(∀v,(x,v)∉binds)->bindC kindOf binds m x=m x
 |[],_,_=>rfl
 |(n,v)::r,m,h=>by
  unfold bindC;rw[zdt λw hw=>h w (iG _ hw)]
  split
  ·rfl
  ·have:x≠n:=by rintro rfl;exact h v lQ
   simp[this]
theorem Yg{kindOf:Str->Option NameKind}{x:Str}{v:Value}:∀{P:List Str} {vs:List Value} {i:Nat} {m:Str->Option Value},P.Nodup->P[i]?=some x->vs[i]?=some v->kindOf x=some .local->
  bindL kindOf (P.zip vs) m x=some v
 |[],_,_,_,_,h,_,_=>by simp at h
 |_::_,[],_,_,_,_,h,_=>by simp at h
 |p::P,w::vs,0,m,nd,h1,h2,hk=>by
  simp at h1 h2;subst h1;subst h2;show bindL kindOf ((p,w)::P.zip vs) m p=_;unfold bindL;rw[Ye λv hv=>(wN.mp nd).1 (List.of_mem_zip hv).1,if_pos hk];simp
 |p::P,w::vs,i+1,m,nd,h1,h2,hk=>by
  show bindL kindOf ((p,w)::P.zip vs) m x=_;unfold bindL;exact Yg (i:=i) (wN.mp nd).2 (by simpa using h1) (by simpa using h2) hk
theorem Yh{kindOf:Str->Option NameKind}{x:Str}{v:Value}:∀{P:List Str} {vs:List Value} {i:Nat} {m:Str->Option Value},P.Nodup->P[i]?=some x->vs[i]?=some v->kindOf x≠some .local->
  bindC kindOf (P.zip vs) m x=some v
 |[],_,_,_,_,h,_,_=>by simp at h
 |_::_,[],_,_,_,_,h,_=>by simp at h
 |p::P,w::vs,0,m,nd,h1,h2,hk=>by
  simp at h1 h2;subst h1;subst h2;show bindC kindOf ((p,w)::P.zip vs) m p=_;unfold bindC;rw[zdt λv hv=>(wN.mp nd).1 (List.of_mem_zip hv).1,if_neg hk];simp
 |p::P,w::vs,i+1,m,nd,h1,h2,hk=>by
  show bindC kindOf ((p,w)::P.zip vs) m x=_;unfold bindC;exact Yh (i:=i) (wN.mp nd).2 (by simpa using h1) (by simpa using h2) hk
noncomputable def start(N:List Str)(vs:List V):St:=vs.map some++List.replicate (N.length-vs.length) none
noncomputable def dN(CX:rY)(P:Program)(w:World)(K:W.Frag)(mg:Str->Option Value)(base:Heap)(N:List Str)(qual:Str)(scope:Scope)(f:Addr)(cd:Value)(A:Around)(outer:List Env)(s:Shared)(H:Hp)(E:XK)(cm:Bool):Cx where
 prog:=P
 w:=w
 K:=K
 mg:=mg
 base:=base
 A:=A.deeper (envOfC qual scope s.heap.objs.size f cd)
 N:=N
 s₀:=s
 H₀:=H
 env:=envOfC qual scope s.heap.objs.size f cd
 outer:=outer
 stack:=envOfC qual scope s.heap.objs.size f cd::outer
 ex:=[]
 aj:=cm
 fn:=λ_=>true
 pn:=[]
 xe:=λe s'=>wpAny (model P w) (A.deeper (envOfC qual scope s.heap.objs.size f cd)) (leaving (envOfC qual scope s.heap.objs.size f cd) e) (λ_ s''=>CX outer H s E e s'') (λe' s''=>CX outer H s E e' s'') s'
theorem Yi{sc:Scope}{n:Nat}{x:Str}(h:sc.names.lookup x=some .cell):∃c,(cellsFrom n sc.names []).lookup x=some c:=by
 have q:=Lg sc.names n [] (.inl h);exact O_.mp q
theorem Yj{CX:rY}{P:Program}{w:World}{K:W.Frag}{mg:Str->Option Value}{base:Heap}{N ps:List Str}{qual:Str}{scope:Scope}{f:Addr}{cd:Value}{A:Around}{outer:List Env}{s s1:Shared}{H:Hp}{E:XK}{us:List Value}{vs:List V}
  {cm:Bool} (S:cj N ps scope) (hd:cm=true->A.handled=none) (e0:pW P w K mg base A outer s H) (hl:vs.length=ps.length) (r:Vals vs us)
  (x:InCallC s s.heap.objs.size (bindL (envOfC qual scope s.heap.objs.size f cd).kindOf (ps.zip us) λ_=>none) (cellsFrom (s.heap.objs.size+1) scope.names []) (bindC (envOfC qual scope s.heap.objs.size f cd).kindOf (ps.zip us) λ_=>none) s1) :
  Inv (dN CX P w K mg base N qual scope f cd A outer s H E cm) [] (start N vs) H s1:=by
 have cO:ps.length<=N.length:=by have:=lq List.length S.pre;rw[Ar] at this;lia
 obtain⟨h1,tk,rfl,hk⟩:=x.done;have Ig:∀b:Addr,b∉(dN CX P w K mg base N qual scope f cd A outer s H E cm).ex:=λb z=>absurd (show b∈([]:List Addr) from z) (by simp);refine⟨⟨e0.mod,S.kind,rfl,rfl,cD _,λy z c h1 h2=>?_,λy hy=>?_,λy c _ h=>?_,hd,Around.frames_deeper e0.frames,.inr ⟨rfl,rfl⟩,λb z=>absurd z (Ig b),e0.bs,e0.wX,λb _ _=>Ig b,λb z=>absurd z (Ig b),e0.jE,e0.zy⟩,
  rfl,e0.bare,Un.kept hk,⟨_,x.toInCall.ns,λi y v h1 h2 h3=>?_⟩,λy c h=>⟨_,x.cell y c h⟩,e0.hok.fresh (cD _),λy c h=>?_,λp hp=>absurd (show p∈([]:List (Addr×Obj)) from hp) (by simp),e0.hok.kept hk,?_⟩
 ·exact name_of_addr x.apart (Ef h1) (Ef h2)
 ·have hy:scope.names.lookup y=some .cell\/scope.names.lookup y=some .free:=hy;rcases hy with hy|hy
  ·exact Yi hy
  ·exact absurd rfl (S.Bw _ (Ef hy))
 ·exact rO (x.above y c (Ef h))
 ·have hi:i<vs.length:=by
   unfold start at h2;by_cases hi:i<vs.length
   ·exact hi
   ·rw[pJ (by simpa using hi)] at h2;rw[Al] at h2;split at h2<;>cases h2
  have ha:vs[i]?=some v:=by
   unfold start at h2;rw[pB (by simpa using hi),jN] at h2;cases e:vs[i]? with
   |none=>rw[e] at h2;cases h2
   |some a=>rw[e] at h2;cases h2;rfl
  obtain⟨u,hu,rv⟩:=r.get ha;have hp:ps[i]?=some y:=by
   rw[<-S.pre,List.getElem?_take_of_lt (by lia)];exact h1
  have Yk:ps.Nodup:=by rw[<-S.pre];exact S.nd.sublist (List.take_sublist _ _)
  refine⟨u,rv,?_⟩;rcases S.par y (gU hp) with k|k
  ·exact .inl ⟨k,Yg Yk hp hu k⟩
  ·obtain⟨c,e⟩:=Yi (n:=s.heap.objs.size+1) k;refine .inr ⟨.inl k,c,e,?_⟩;have q:=x.cell y c e;rw[Yh Yk hp hu (by show scope.names.lookup y≠_;rw[k];decide)] at q;exact q
 ·exact e0.hok.fresh (rO (x.above y c (Ef h)))
 ·unfold start;show _=N.length;rw[pC,eY,Gv]
  lia
theorem QS{CX:rY}{cm:Bool}{P:Program}{w:World}{K:W.Frag}{mg:Str->Option Value}{base:Heap}{k:Nat}{f:Addr}{name qual:Str}{params:Arguments}{body:List Stmt}{scope:Scope}{dV kV doc pm cdv ct oc:Value}{an od:Option Addr}
  {osl:Array (Option Value)} {N ps:List Str} {sp:Sp} (lk:K.lookup f=some ⟨oc,od,.func (PySem.W.fnOf name qual params body scope dV kV doc pm an cdv ct),osl⟩) (iI:PySem.W.codeIn K cdv qual=true) (S:cj N ps scope)
  (len:∀vs H Q E,sp vs H Q E->vs.length=ps.length)
  (Ih:∀(A:Around) (outer:List Env) (s:Shared) (H:Hp) (vs:List V) (Q:VK) (E:XK),bC (k+1) A->sp vs H Q E->
   ∃t,pQ (dN CX P w K mg base N qual scope f cdv A outer s H E cm) body t/\t {nx:=λ_ H'=>Q .non H',rt:=Q} (start N vs) H) :
  cJ P w K mg base CX cm (k+1) f (PySem.W.fnOf name qual params body scope dV kV doc pm an cdv ct) ps sp:=by
 refine⟨len,λA outer s H args us vs Q E jg hr e0 hb r Mz=>?_⟩;have hl:=len _ _ _ _ Mz;have KX:K.In s.heap:=e0.mod.wQ.keeps λb o e=>(e0.bs b o e).1;have lim:s.heap.NoLimit:=e0.mod.nolimit.keeps λb o e=>(e0.bs b o e).1;have uz:∀y∈ps.zip us,scope.names.lookup y.1=some .local\/(scope.names.lookup y.1=some .cell/\((cellsFrom (s.heap.objs.size+1) scope.names []).lookup y.1).isSome=true):=λ⟨n,v⟩ hy=>by
  rcases S.par n (List.of_mem_zip hy).1 with q|q
  ·exact .inl q
  ·exact .inr ⟨q,Lg _ _ _ (.inl q)⟩
 refine codeAny_call_function hr.depth (KX _ _ lk) rfl S.co S.gen rfl (PySem.W.codeRec_of KX iI) (hb _ _ _ _ ?_);refine wpAny_newFunctionEnv_cells S.kind uz λenv he s1 x=>?_;subst he;refine⟨lim.keeps x.toInCall.keep,codeAny_func ?_⟩;obtain⟨t,ht,hq⟩:=Ih A outer s H vs Q E hr Mz;have I:Inv (dN CX P w K mg base N qual scope f cdv A outer s H E cm) [] (start N vs) H s1:=Yj S jg e0 hl r x;refine gj (ht [] s1 (start N vs) H _ I hq) (λfl s' hs=>?_) λe s' hs=>hs;have fin:∀{Z':St} {H':Hp} {v:V} {u:Value},Inv (dN CX P w K mg base N qual scope f cdv A outer s H E cm) [] Z' H' s'->RelV v u->Q v H'->CE outer P w H s Q u s':=
  λ{Z' H' v u} bf rv q=>⟨v,H',bf.os,bf.bare,bf.base,bf.hok,rv,q⟩
 cases fl with
 |ret u=>
  obtain⟨v,Z',H',bf,rv,q⟩:=hs;exact fin bf rv q
 |next=>
  obtain⟨Z',H',bf,q⟩:=hs;exact fin (v:=V.non) (u:=Value.none) bf rfl q
 |brk=>
  obtain⟨_,_,_,q⟩:=hs;exact False.elim q
 |cont=>
  obtain⟨_,_,_,q⟩:=hs;exact False.elim q
section
variable {X:Cx}{x:Str}{p pos:Pos}{e:Expr}{es:List Expr}{t:TA}{id T:String}{r:List V->Hp->VK->Prop}
noncomputable def MF(r:List V->Hp->VK->Prop)(t:TA):TE:=λZ H Q=>t Z H λvs H1=>r vs H1 Q
theorem Yl(hc:dB X (.builtin id) r)(hg:Gl X x)(hm:X.mg x=none)(hv:bootBuiltins x=some (.builtin id))(ha:PA X (e::es) t)(hn:x≠"__name__":=by decide)(rZ:(x==("__debug__" : Str))=false:=by decide)
  (he:starEach (e::es) X.env=(false,eval e X.env)::starEach es X.env:=by rfl) (cO:(backTo pos (starEach es X.env)).any (·.1)=false:=by rfl):PE X (.Call (.Name x p) (e::es) [] pos) (MF r t):=by
 intro ao s Z H Q I h;refine wJ (tO I hg hm hv ?_ hn rZ);exact PyProof.Rows.callWith_builtin1 (aV (ha pos ao s Z H _ I h) λus s1 hx=>fH hx λvs H1 I1 r1 q1=>hc ao s1 Z H1 vs us Q I1 r1 q1) he cO
theorem zfz(hc:dB X (.type T) r)(hg:Gl X x)(hm:X.mg x=none)(hv:bootBuiltins x=some (.type T))(ha:PA X (e::es) t)(hn:x≠"__name__":=by decide)(rZ:(x==("__debug__" : Str))=false:=by decide)
  (he:starEach (e::es) X.env=(false,eval e X.env)::starEach es X.env:=by rfl) (cO:(backTo pos (starEach es X.env)).any (·.1)=false:=by rfl):PE X (.Call (.Name x p) (e::es) [] pos) (MF r t):=by
 intro ao s Z H Q I h;refine wJ (tO I hg hm hv ?_ hn rZ);exact wH (aV (ha pos ao s Z H _ I h) λus s1 hx=>fH hx λvs H1 I1 r1 q1=>hc ao s1 Z H1 vs us Q I1 r1 q1) he cO
end
end L2
namespace HT
open PySem PyProof.Rows
noncomputable def lexLt:List Int->List Int->Bool
 |[],[]=>false
 |[],_::_=>true
 |_::_,[]=>false
 |x::xs,y::ys=>if x=y then lexLt xs ys else decide (x<y)
theorem jY(x y:Int)(xs ys:List Int):lexLt (x::xs) (y::ys)=if x=y then lexLt xs ys else decide (x<y):=rfl
theorem zcD:lexLt [] []=false:=rfl
theorem zcb(y:Int)(ys:List Int):lexLt [] (y::ys)=true:=rfl
theorem zcf(x:Int)(xs:List Int):lexLt (x::xs) []=false:=rfl
theorem zhQ(A:Around)(s:Shared)(a:Int)(t:Tok)(c:Int)(u:Tok):∃e,SeqAt.EqAt A s (.int a t) (.int c u) e/\(e=true↔a=c):=
 ⟨(a==c),SeqAt.EqAt.int_int a t c u,by simp⟩
theorem zhl(A:Around)(s:Shared)(a:Int)(t:Tok)(c:Int)(u:Tok)(prog:Program)(w:World)(E:Value->Shared->Prop)(Q:Value->Shared->Prop)(h:Q (.bool (decide (a<c))) s) :
  wpAny (model prog w) A (richCompare .Lt (.int a t) (.int c u)) Q E s:=
 (PyProof.Rows.lt_int h:wpAny (model prog w) A (compareOp .Lt (.int a t) (.int c u)) Q E s)
section
open PySem.SeqAt
open PySem.AutoSeq1 (wpAny_loadPart')
open PySem.MeetsSeq PySem.MeetsSeq2 PySem.MeetsSeq3
theorem zcR(l b:Addr)(items items2:Array Value)(n n2:Nat)(dd dd2:Option Addr)(sl sl2:Array (Option Value))(ns ms:List Int)(hi:IntsAre items.toList ns)(hj:IntsAre items2.toList ms) :
  Meets (Builtin.«tuple.__lt__» ⟨[.ref l,.ref b],[]⟩)
   (λ_ R s=>s.heap.get? l=some {cls:=.type "tuple",dict:=dd,data:=.seq items n,slots:=sl}/\s.heap.get? b=some {cls:=.type "tuple",dict:=dd2,data:=.seq items2 n2,slots:=sl2} /\
    R (.ok (.ret (.bool (lexLt ns ms)))) s):=
 .of_wp λprog w A R s h=>by
  obtain⟨hp,g,d,tk,os⟩:=s;obtain⟨hl,hb,h⟩:=h;have f2:=AutoSeq1.sub_tuple_tuple;have z1:items.size=ns.length:=by rw[<-hi.length];simp
  have z2:items2.size=ms.length:=by rw[<-hj.length];simp
  wp_walk using wpAny_loadPart' hl,wpAny_loadPart' hb,wpAny_forIn_list _ (λrest b s'=>b.1=none/\s'=⟨hp,g,d,tk,os⟩/\∃(vs ws:List Value) (ns' Fp:List Int),rest=vs.zip ws /\
   IntsAre vs ns'/\IntsAre ws Fp/\ns'.length+items2.size=Fp.length+items.size/\R (.ok (.ret (.bool (lexLt ns' Fp)))) ⟨hp,g,d,tk,os⟩) _
  case turn=>
   rintro⟨y,x⟩ rest b s' ⟨hb',rfl,vs,ws,ns',Fp,hz,QT,MJ,hlen,hR⟩;cases QT with
   |nil=>rw[List.zip_nil_left] at hz;cases hz
   |cons a t QV=>
    cases MJ with
    |nil=>rw[List.zip_nil_right] at hz;cases hz
    |cons c u QW=>
     rw[GD] at hz;injection hz with hyx Ii;injection hyx with hy hx;subst hy hx;rw[jY] at hR;simp only[h_] at hlen;obtain⟨e,he,Ij⟩:=zhQ A.in1 ⟨hp,g,d,tk,os⟩ a t c u;refine aB (he prog w _ _ ?_);cases e with
     |true=>
      rw[if_pos (Ij.mp rfl)] at hR
      wp_walk
      exact⟨rfl,rfl,_,_,_,_,Ii,QV,QW,by lia,hR⟩
     |false=>
      rw[if_neg (λq=>absurd (Ij.mpr q) Gz)] at hR;have hri:=zhl A.in1 ⟨hp,g,d,tk,os⟩ a t c u prog w
      wp_walk using hri
      exact⟨_,rfl,by simpa using hR⟩
  case fin=>
   rintro⟨b1,b2⟩ s' ⟨hb',rfl,vs,ws,ns',Fp,hz,QT,MJ,hlen,hR⟩;simp only at hb';subst hb';have hv:lexLt ns' Fp=decide (items.size<items2.size):=by
    cases QT with
    |nil=>
     cases MJ with
     |nil=>
      simp only[Et] at hlen;rw[zcD];exact(tM (by lia)).symm
     |cons c u hw=>
      simp only[Et,h_] at hlen;rw[zcb];exact(mR (by lia)).symm
    |cons a t hv=>
     cases MJ with
     |nil=>
      simp only[Et,h_] at hlen;rw[zcf];exact(tM (by lia)).symm
     |cons c u hw=>
      rw[GD] at hz;cases hz
   rw[hv] at hR
   wp_walk
   exact⟨_,rfl,by simpa [Builtin.Tuple.tupleCompareSizes] using hR⟩
  case h=>
   exact⟨rfl,rfl,items.toList,items2.toList,ns,ms,rfl,hi,hj,by lia,h⟩
end
section
variable {prog:Program}{w:World}{A:Around}{E:Value->Shared->Prop}{s:Shared}
theorem jZ{l b:Addr}{items items2:Array Value}{ns ms:List Int}{Q:Value->Shared->Prop}(hl:IsTup s.heap l items)(hb:IsTup s.heap b items2)(hi:IntsAre items.toList ns)(hj:IntsAre items2.toList ms)
  (hu:A.units<cLine) (h:Q (.bool (lexLt ns ms)) s):wpAny (model prog w) A (compareOp .Lt (.ref l) (.ref b)) Q E s:=by
 obtain⟨⟨cls,dd,data,sl⟩,ho,hc,n,hd⟩:=id hl;obtain⟨⟨cls2,dd2,data2,sl2⟩,pX,nM,n2,hd2⟩:=id hb;simp only at hc hd nM hd2;subst hc hd nM hd2;exact richCompare_meets_room (op:=.Lt) ⟨_,ho,rfl⟩ ⟨_,pX,rfl⟩ PySem.F.slot_tuple_lt PySem.F.entry_tuple_lt (PySem.F.args_tuple_lt_2 _ _) (zcR l b items items2 n n2 dd dd2 sl sl2 ns ms hi hj)
  ⟨ho,pX,show Value.bool (lexLt ns ms)≠Value.notImplemented/\Q (.bool (lexLt ns ms)) s from ⟨(λx=>nomatch x),h⟩⟩ hu
theorem xJ{t b:Addr}{vs ws:List Value}{Q:Value->Shared->Prop}(ht:IsTup s.heap t vs.toArray)(hb:IsTup s.heap b ws.toArray)(hv:vs≠[])
  (h1:ws=[]->Q (.ref t) s) (h2:ws≠[]->Q (.ref s.heap.objs.size) {s with heap:=s.heap.push {cls:=.type "tuple",data:=.seq (vs++ws).toArray}})
  (hsz:vs.length+ws.length<=sizeLine):wpAny (model prog w) A (binaryOp .Add (.ref t) (.ref b)) Q E s:=by
 obtain⟨⟨cls,dd,data,sl⟩,ho,hc,n,hd⟩:=id ht;obtain⟨⟨cls2,dd2,data2,sl2⟩,pX,nM,n2,hd2⟩:=id hb;simp only at hc hd nM hd2;subst hc hd nM hd2;have e:vs.toArray++ws.toArray=(vs++ws).toArray:=by simp
 by_cases hw:ws=[]
 ·exact concat_meets ⟨_,ho,rfl⟩ ⟨_,pX,rfl⟩ noFill_tuple_add seq_tuple_add Pk Pj (Pa _ _)
   (tuple_addW1 t b vs.toArray ws.toArray n n2 dd dd2 sl sl2 (by simpa using hv) (by simp[hw])) ⟨ho,pX,h1 hw⟩
 ·refine concat_meets ⟨_,ho,rfl⟩ ⟨_,pX,rfl⟩ noFill_tuple_add seq_tuple_add Pk Pj (Pa _ _)
   (tuple_addW2 t b vs.toArray ws.toArray n n2 dd dd2 sl sl2 (by simpa using hv) (by simpa using hw) (by rw[fj,fj];exact hsz)) ⟨ho,pX,?_⟩
  rw[e];exact h2 hw
noncomputable def cC(n d:Nat):Option Int->Nat
 |none=>d
 |some v=>if v<0 then (v+(n:Int)).toNat else min v.toNat n
theorem uD(n d:Nat):cC n d none=d:=rfl
theorem xK(n d k:Nat):cC n d (some (k:Int))=min k n:=by
 show (if (k:Int)<0 then ((k:Int)+(n:Int)).toNat else min (k:Int).toNat n)=min k n;rw[if_neg (by lia),rK]
theorem zl2(n d:Nat)(hd:d<=n)(o:Option Int):cC n d o<=n:=by
 cases o with
 |none=>exact hd
 |some v=>
  show (if v<0 then (v+(n:Int)).toNat else min v.toNat n)<=n;by_cases hv:v<0
  ·rw[if_pos hv];lia
  ·rw[if_neg hv];exact Nat.min_le_right _ _
theorem Ym(v:Int)(n d:Nat):(if v<0 then max (v+(n:Int)) 0 else min v (n:Int))=((cC n d (some v):Nat):Int):=by
 show (if v<0 then max (v+(n:Int)) 0 else min v (n:Int))=(((if v<0 then (v+(n:Int)).toNat else min v.toNat n):Nat):Int);by_cases hv:v<0
 ·simp only[if_pos hv];lia
 ·simp only[if_neg hv];lia
theorem zfq(lo hi:Option Int)(n:Nat):Builtin.Slice.sliceAdjust lo hi 1 (n:Int)=(((cC n 0 lo:Nat):Int),((cC n n hi:Nat):Int)):=by
 have h1:¬((1:Int)<0):=by lia
 unfold Builtin.Slice.sliceAdjust;simp only[h1,nY];refine Prod.ext ?_ ?_
 ·cases lo with
  |none=>rfl
  |some v=>exact Ym v n 0
 ·cases hi with
  |none=>rfl
  |some v=>exact Ym v n n
theorem zfm(i j:Nat):Builtin.Slice.slicePlaces (i:Int) (j:Int) 1=j-i:=by
 unfold Builtin.Slice.slicePlaces;have h1:(1:Int)>0:=by lia
 simp only[h1,if_true,Int.ediv_one]
 split<;>lia
theorem QX{v:Value}{o:Option Int}{Q:Option Int->Shared->Prop}(p:IsPart v o)(h:Q o s):wpAny (model prog w) A (Builtin.Slice.slicePartIndex v) Q E s:=by
 cases p with
 |none=>exact slicePart_none h
 |int i t=>exact slicePart_int h
theorem Yn{sl:Addr}{vl vu:Value}{lo hi:Option Int}{n:Nat}{Q:Int×Int×Nat->Shared->Prop}(hs:s.heap.IsSliceOf sl vl vu .none)(pl:IsPart vl lo)(pu:IsPart vu hi)
  (h:Q (((cC n 0 lo:Nat):Int),1,cC n n hi-cC n 0 lo) s):wpAny (model prog w) A (Builtin.Slice.sliceApplied (.ref sl) (pure (n:Int))) Q E s:=by
 obtain⟨os,su,BJ,vW⟩:=id hs;unfold Builtin.Slice.sliceApplied Builtin.Slice.sliceFields;refine aB (aB (lg su vW (x:=vl) rfl (aB (lg su vW (x:=vu) rfl (aB (lg su vW (x:=.none) rfl (aM ?_)))))));refine aB (slicePart_none ?_);show wpAny _ _ (if ((1:Int)==0)=true then _ else _) _ _ s;rw[if_neg (by decide)];refine aB (QX pl (aB (QX pu (aB (aM ?_)))));show wpAny _ _ (match Builtin.Slice.sliceAdjust lo hi 1 (n:Int) with|(lo,hi)=>pure (lo,(1:Int),Builtin.Slice.slicePlaces lo hi 1)) _ _ s;rw[zfq lo hi n];show wpAny _ _ (pure (((cC n 0 lo:Nat):Int),(1:Int),Builtin.Slice.slicePlaces ((cC n 0 lo:Nat):Int) ((cC n n hi:Nat):Int) 1)) _ _ s;rw[zfm];exact aM h
theorem zhU(xs:Array Value)(i k:Nat):((List.range k).filterMap λ(m:Nat)=>xs[((i:Int)+(m:Int)*1).toNat]?).toArray=((xs.toList.drop i).take k).toArray:=by
 have e:(λ(m:Nat)=>xs[((i:Int)+(m:Int)*1).toNat]?)=λm=>xs[i+m]?:=by
  funext m
  have:((i:Int)+(m:Int)*1).toNat=i+m:=by lia
  rw[this]
 rw[e];have:=pick_run xs i k;rw[List.filterMap_map] at this;have e2:((λx=>xs[x]?)∘λx=>i+x)=λm=>xs[i+m]?:=rfl;rw[e2] at this;rw[this]
theorem iK{t sl:Addr}{items:Array Value}{vl vu:Value}{lo hi:Option Int}{Q:Value->Shared->Prop}(ht:IsTup s.heap t items)(hs:s.heap.IsSliceOf sl vl vu .none)(pl:IsPart vl lo)(pu:IsPart vu hi)
  (hw:¬(cC items.size 0 lo=0/\cC items.size items.size hi=items.size))
  (h:Q (.ref s.heap.objs.size) {s with heap:=s.heap.push {cls:=.type "tuple",data:=.seq ((items.toList.drop (cC items.size 0 lo)).take (cC items.size items.size hi-cC items.size 0 lo)).toArray}})
  (hsz:items.size<=sizeLine):wpAny (model prog w) A (getItem (.ref t) (.ref sl)) Q E s:=by
 have iM:sizeOk (.seq ((items.toList.drop (cC items.size 0 lo)).take (cC items.size items.size hi-cC items.size 0 lo)).toArray):=by
  show ((items.toList.drop (cC items.size 0 lo)).take (cC items.size items.size hi-cC items.size 0 lo)).toArray.size<=sizeLine;rw[fj,Ar,List.length_drop,nU]
  lia
 have hj:cC items.size items.size hi<=items.size:=zl2 _ _ (cD _) hi;obtain⟨os,su,BJ,vW⟩:=id hs;have Ik:s.TypeIs (.ref sl) "slice":=⟨os,su,BJ⟩;unfold getItem
 try with_reducible refine pF ?_
 first|refine aB (aM ?_)|skip
 refine aB (wpAny_sequenceKey ht.typeIs (by decide) ?_);refine aB (yR (name:=Str.ofString "__getitem__") ht.typeIs wG
  (wK wG ht.typeIs entry_tuple_getitem ?_ (args_tuple_getitem _ _)))
 show wpAny _ _ (Builtin.Tuple.tupleItemsOf (.ref t) >>= _) _ _ s;refine aB (tupleItemsOf_ ht ?_);refine aB (GZ Ik ?_);rw[if_pos (by decide)];refine aB (Yn hs pl pu ?_);have pY:¬((((cC items.size 0 lo:Nat):Int)==0&&(1:Int)==1&&(cC items.size items.size hi-cC items.size 0 lo)==items.size)=true):=by
  intro q;rw[fu,fu] at q;have q1:((cC items.size 0 lo:Nat):Int)=0:=eq_of_beq q.1.1;have q2:cC items.size items.size hi-cC items.size 0 lo=items.size:=eq_of_beq q.2;exact hw ⟨by lia,by lia⟩
 show wpAny _ _ (if (((cC items.size 0 lo:Nat):Int)==0&&(1:Int)==1&&(cC items.size items.size hi-cC items.size 0 lo)==items.size)=true then _ else _) _ _ s;rw[if_neg pY,zhU]
 first
  |exact aB (m:=Builtin.Tuple.tupleExact _) (pD (aM ⟨_,rfl,aM h⟩) iM)
  |exact aB (m:=Builtin.Tuple.tupleExact _) (pD (aB (aM (aM ⟨_,rfl,aM h⟩))) iM)
  |exact aB (aB (m:=Builtin.Tuple.tupleExact _) (pD (aM (aM ⟨_,rfl,aM h⟩)) iM))
  |exact aB (aB (m:=Builtin.Tuple.tupleExact _) (pD (aM ⟨_,rfl,aM h⟩) iM))
end
end HT
namespace L2
open PySem PySem.Spec PyProof.Rows
noncomputable abbrev TO:=St->Hp->(Option Int->Hp->Prop)->Prop
def PO(X:Cx)(e:Option Expr)(t:TO):Prop:=
 ∀(ao:List (Addr×Obj)) (s:Shared) (Z:St) (H:Hp) (Q:Option Int->Hp->Prop),Inv X ao Z H s->t Z H Q->
  wpAny (model X.prog X.w) X.A (evalPart e X.env) (λu s'=>∃o H',Inv X ao Z H' s'/\IsPart u o/\Q o H') X.xe s
noncomputable def xM:TO:=λ_ H Q=>Q none H
noncomputable def Il(t:TE):TO:=λZ H Q=>t Z H λx H1=>∃i,x=.int i/\Q (some i) H1
theorem Yo{ns:List Int}:∀{us:List Value},Vals (ns.map V.int) us->IntsAre us ns:=by
 induction ns with
 |nil=>intro us r;rw[List.map_nil] at r;cases r;exact .nil
 |cons n ns ih=>
  intro us r;rw[jo] at r;cases r with
  |cons r1 r2=>
   obtain⟨t,e⟩:=r1;subst e;exact .cons n t (ih r2)
section
variable {X:Cx}{e:Expr}{te:TE}{lo hi:Option Expr}{tl th:TO}{pos p2:Pos}
theorem zke:PO X none xM:=by
 intro ao s Z H Q I h;rw[evalPart_none];exact aM ⟨none,H,I,.none,h⟩
theorem ziP(h:PE X e te):PO X (some e) (Il te):=by
 intro ao s Z H Q I hw;rw[evalPart_some];refine aV (h ao s Z H _ I hw) λu s1 hx=>fH hx λx H1 I1 r1 q1=>?_;obtain⟨i,rfl,q⟩:=q1;obtain⟨t,rfl⟩:=r1;exact⟨some i,H1,I1,.int i t,q⟩
def xO(X:Cx)(r:V->Option Int->Option Int->Hp->VK->Prop):Prop:=
 ∀(ao:List (Addr×Obj)) (s:Shared) (Z:St) (H:Hp) (x:V) (v vl vu:Value) (lo hi:Option Int) (sl:Addr) (Q:VK),Inv X ao Z H s->RelV x v->s.heap.IsSliceOf sl vl vu .none->IsPart vl lo->IsPart vu hi->r x lo hi H Q->
  ∃T id,typeLookup (.type T) "__getitem__"=pure (some (.builtin id))/\s.TypeIs v T/\wpAny (model X.prog X.w) X.A (getItem v (.ref sl)) (EP X ao Z Q) X.xe s
theorem xO.or{r r':V->Option Int->Option Int->Hp->VK->Prop}(h:xO X r)(h':xO X r'):xO X (λx lo hi H Q=>r x lo hi H Q\/r' x lo hi H Q):=by
 intro ao s Z H x v vl vu lo hi sl Q I rx hs pl pu q;rcases q with q|q
 ·exact h ao s Z H x v vl vu lo hi sl Q I rx hs pl pu q
 ·exact h' ao s Z H x v vl vu lo hi sl Q I rx hs pl pu q
noncomputable def tSl(r:V->Option Int->Option Int->Hp->VK->Prop)(te:TE)(tl th:TO):TE:=λZ H Q=>te Z H λx H1=>tl Z H1 λl H2=>th Z H2 λu H3=>r x l u H3 Q
theorem zhD{r:V->Option Int->Option Int->Hp->VK->Prop}(hr:xO X r)(he:PE X e te)(hl:PO X lo tl)(hu:PO X hi th):PE X (.Subscript e (.Slice lo hi none p2) pos) (tSl r te tl th):=by
 intro ao s Z H Q I h;refine Subscript_ (aV (he ao s Z H _ I h) λv s1 hx=>fH hx λx H1 I1 r1 q1=>?_);refine wpAny_Slice (aV (hl ao s1 Z H1 _ I1 q1) λvl s2 hx=>fH hx λl H2 I2 pl q2=>aV (hu ao s2 Z H2 _ I2 q2) λvu s3 hx=>fH hx λu H3 I3 pu q3=>?_);rw[evalPart_none];refine aM ?_;have I4:Inv X ao Z H3 {s3 with heap:=s3.heap.push {cls:=.type "slice",data:=.fields #[vl,vu,.none]}}:=I3.kept (t':=s3.toks) λb ob q=>cG _ q;obtain⟨T,id,hT,ht,hg⟩:=hr ao {s3 with heap:=s3.heap.push {cls:=.type "slice",data:=.fields #[vl,vu,.none]}} Z H3 x v vl vu l u s3.heap.objs.size Q I4 r1 (Heap.IsSliceOf.new ..) pl pu q3;show wpAny (model X.prog X.w) X.A (subscriptTail e (.Slice lo hi none p2) v (.ref s3.heap.objs.size)) (EP X ao Z Q) X.xe {s3 with heap:=s3.heap.push {cls:=.type "slice",data:=.fields #[vl,vu,.none]}};exact tail_any (ops:=[.ref s3.heap.objs.size,v]) ht hT hg (by with_unfolding_all rfl)
noncomputable def mY(xs:List V)(lo hi:Option Int):List V:=(xs.drop (HT.cC xs.length 0 lo)).take (HT.cC xs.length xs.length hi-HT.cC xs.length 0 lo)
theorem Yp(xs:List V)(lo hi:Option Int):(mY xs lo hi).length<=xs.length:=by
 unfold mY;rw[Ar,List.length_drop]
 lia
noncomputable def QZ(K:W.Frag):V->Option Int->Option Int->Hp->VK->Prop:=λx lo hi H Q=>∃a xs,x=.ref a/\gw K H a xs /\
 ¬(HT.cC xs.length 0 lo=0/\HT.cC xs.length xs.length hi=xs.length)/\∀p,H p=none->Q (.ref p) (upd H p (.tup (mY xs lo hi)))
theorem zlY:xO X (QZ X.K):=by
 intro ao s Z H x v vl vu lo hi sl Q I rx hs pl pu h;obtain⟨a,xs,rfl,hx,hw,q⟩:=h;cases rx;obtain⟨its,r,ht,hz⟩:=I.tuple hx;have hlen:its.toArray.size=xs.length:=by rw[fj];exact r.length.symm
 refine⟨"tuple",_,wG.lookup,ht.typeIs,?_⟩;refine HT.iK ht hs pl pu (by rw[hlen];exact hw) ?_ (by rw[hlen];exact hz);rw[hlen];refine⟨.ref s.heap.objs.size,_,I.laid (t':=s.toks) (o:=.tup (mY xs lo hi)) (λb ob q=>cG _ q) (cD _) ?_,rfl,q _ (I.hok.fresh (cD _))⟩;exact⟨jO (Yp xs lo hi) hz,_,(r.drop (HT.cC xs.length 0 lo)).take (HT.cC xs.length xs.length hi-HT.cC xs.length 0 lo),IsTup.new _ _⟩
noncomputable def Im(K:W.Frag):R2:=λx y H Q=>∃a b ns ms,x=.ref a/\y=.ref b/\gw K H a (ns.map V.int)/\gw K H b (ms.map V.int)/\Q (.bl (HT.lexLt ns ms)) H
theorem zl9(hu:X.A.units<cLine):fK X (compareOp .Lt) (Im X.K):=by
 intro ao s Z H x y v u Q I rx ry h;obtain⟨a,b,ns,ms,rfl,rfl,ha,hb,q⟩:=h;cases rx;cases ry;obtain⟨its,r1,p1,_⟩:=I.tuple ha;obtain⟨its2,r2,p2,_⟩:=I.tuple hb;have i1:IntsAre its.toArray.toList ns:=Yo r1;have i2:IntsAre its2.toArray.toList ms:=Yo r2;exact HT.jZ p1 p2 i1 i2 hu ⟨.bl (HT.lexLt ns ms),H,I,rfl,q⟩
theorem Vals.mZ{xs:List V}{us:List Value}(r:Vals xs us):us=[]↔xs=[]:=by
 cases r with
 |nil=>simp
 |cons _ _=>simp
end
noncomputable def sy(n:Nat)(i:Int):Option Nat:=if 0<=i then (if i<n then some i.toNat else none) else if -(n:Int)<=i then some (i+n).toNat else none
noncomputable def qO{α:Type}(xs:List α)(i:Int):Option α:=(sy xs.length i).bind λj=>xs[j]?
theorem Yq{n:Nat}{i:Int}{j:Nat}(h:sy n i=some j):seqIndex? i n=some j/\j<n/\-(n:Int)<=i/\i<n:=by
 unfold sy at h;by_cases h0:0<=i
 ·rw[if_pos h0] at h;by_cases h1:i<n
  ·rw[if_pos h1] at h;have e:i.toNat=j:=cW h;exact⟨by rw[seqIndex_of h0 h1,e],by lia,by lia,h1⟩
  ·rw[if_neg h1] at h;cases h
 ·rw[if_neg h0] at h;by_cases h1 : -(n:Int)<=i
  ·rw[if_pos h1] at h;have e:(i+n).toNat=j:=cW h;exact⟨by rw[seqIndex_neg (by lia) h1,e],by lia,h1,by lia⟩
  ·rw[if_neg h1] at h;cases h
theorem Q0{α:Type}{xs:List α}{i:Int}{v:α}(h:qO xs i=some v):∃j,seqIndex? i xs.length=some j/\xs[j]?=some v/\j<xs.length/\-(xs.length:Int)<=i/\i<xs.length:=by
 unfold qO at h;cases e:sy xs.length i with
 |none=>rw[e] at h;cases h
 |some j=>
  rw[e] at h;obtain⟨h1,h2,h3,h4⟩:=Yq e;exact⟨j,h1,h,h2,h3,h4⟩
def qP(b:Expr):Prop:=∀o i,subscripted b false o i=operate [o,i] (getItem o i)
def xP(X:Cx)(r:R2):Prop:=
 ∀(value slice:Expr) (ao:List (Addr×Obj)) (s:Shared) (Z:St) (H:Hp) (x y:V) (v u:Value) (Q:VK),Inv X ao Z H s->RelV x v->RelV y u->r x y H Q->
  subscripted slice false v u=operate [v,u] (getItem v u)->wpAny (model X.prog X.w) X.A (subscriptTail value slice v u) (EP X ao Z Q) X.xe s
def MtR(X:Cx)(id:String)(r:V->List V->Hp->VK->Prop):Prop:=
 ∀(ao:List (Addr×Obj)) (s:Shared) (Z:St) (H:Hp) (x:V) (xs:List V) (v:Value) (us:List Value) (Q:VK),Inv X ao Z H s->RelV x v->Vals xs us->r x xs H Q->
  wpAny (model X.prog X.w) X.A (call (.builtin id) (v::us)) (EP X ao Z Q) X.xe s
section
variable {X:Cx}{a b:Expr}{ta tb:TE}{pos:Pos}
theorem xP.or{r r':R2}(h:xP X r)(h':xP X r'):xP X (λx y H Q=>r x y H Q\/r' x y H Q):=by
 intro value slice ao s Z H x y v u Q I rx ry q hs;rcases q with q|q
 ·exact h value slice ao s Z H x y v u Q I rx ry q hs
 ·exact h' value slice ao s Z H x y v u Q I rx ry q hs
theorem zmY{r:R2}(hr:xP X r)(ha:PE X a ta)(hb:PE X b tb)(hs:qP b):PE X (.Subscript a b pos) (Mw r ta tb):=by
 intro ao s Z H Q I h;exact Subscript_ (Bs ha hb I h λv u s2 x y H2 I2 rx ry q=>hr a b ao s2 Z H2 x y v u Q I2 rx ry q (hs _ _))
noncomputable def Io(K:W.Frag):R2:=λx y H Q=>∃p xs i v,x=.ref p/\y=.int i/\dj K H p xs/\qO xs i=some v/\Q v H
noncomputable def Ip(K:W.Frag):R2:=λx y H Q=>∃p xs i v,x=.ref p/\y=.int i/\gw K H p xs/\qO xs i=some v/\Q v H
noncomputable def Ir:R2:=λx y H Q=>∃z i c,x=.str z/\y=.int i/\z.length<=sizeLine/\qO z.cps.toList i=some c/\Q (.str ⟨#[c]⟩) H
theorem xQ:xP X (Io X.K):=by
 intro value slice ao s Z H x y v u Q I rx ry h hs;obtain⟨p,xs,i,z,rfl,rfl,hq,he,q⟩:=h;cases rx;obtain⟨t,rfl⟩:=ry;obtain⟨its,r,pl,hz⟩:=I.list hq;obtain⟨j,h1,h2,h3,h4,h5⟩:=Q0 he;obtain⟨w,ew,lH⟩:=r.get h2;have hl:=r.length;have hn:=jf;have fin:EP X ao Z Q w s:=⟨z,H,I,lH,q⟩;by_cases h0:0<=i
 ·have hj:i.toNat=j:=by
   rw[seqIndex_of h0 h5] at h1;exact cW h1
  exact item_listR pl.isList h0 (by lia) (by rw[hj];simpa using ew) fin hs
 ·have hj:(i+(its.toArray.size:Int)).toNat=j:=by
   rw[seqIndex_neg (by lia) h4] at h1;rw[fj,<-hl];exact cW h1
  exact subscriptTail_builtinR (x:=w) pl.isList.typeIs slot_list_getitem.lookup
   (wpAny_getItem_list_neg (Q:=λr s'=>r=w/\EP X ao Z Q r s') pl.isList (by lia) (by rw[fj]<;>lia) (by lia) (by rw[hj];simpa using ew) ⟨rfl,fin⟩) hs
theorem BK:xP X (Ip X.K):=by
 intro value slice ao s Z H x y v u Q I rx ry h hs;obtain⟨p,xs,i,z,rfl,rfl,hq,he,q⟩:=h;cases rx;obtain⟨t,rfl⟩:=ry;obtain⟨its,r,pl,hz⟩:=I.tuple hq;obtain⟨j,h1,h2,h3,h4,h5⟩:=Q0 he;obtain⟨w,ew,lH⟩:=r.get h2;have hl:=r.length;have hn:=jf;have fin:EP X ao Z Q w s:=⟨z,H,I,lH,q⟩;exact subscriptTail_builtinR (x:=w) pl.typeIs slot_tuple_getitem.lookup
  (getItem_tuple (j:=j) (Q:=λr s'=>r=w/\EP X ao Z Q r s') pl (by lia) (by lia) (by rw[fj,<-hl];exact h1) (by simpa using ew) ⟨rfl,fin⟩) hs
theorem zkw:xP X Ir:=by
 intro value slice ao s Z H x y v u Q I rx ry h hs;obtain⟨z,i,c,rfl,rfl,hz,he,q⟩:=h;obtain⟨t,rfl⟩:=rx;obtain⟨t',rfl⟩:=ry;obtain⟨j,h1,h2,h3,h4,h5⟩:=Q0 he;have hl:z.cps.toList.length=z.length:=by simp[Str.length]
 rw[hl] at h1 h4 h5;have hn:=jf;exact tail_any (typeIs_str s z t) slot_str_getitem.lookup (getItem_str (c:=c) (by
  have e1:decide (i < -(2^63:Int))=false:=tM (by lia);have e2:decide (i>=2^63)=false:=tM (by lia);rw[e1,e2,Bool.or_false]) (by rw[h1];simpa using h2) ⟨.str ⟨#[c]⟩,H,I.tok _,⟨_,rfl⟩,q⟩) hs
noncomputable def Q5(K:W.Frag):R2:=λx y H Q=>Io K x y H Q\/Ip K x y H Q\/Ir x y H Q
theorem zld:xP X (Q5 X.K):=xQ.or (BK.or zkw)
theorem zfe(its:List Value)(n j:Nat)(u:Value):Obj.mapSeq (·.setIfInBounds j u) {cls:=.type "list",data:=.seq its.toArray n}={cls:=.type "list",data:=.seq (its.set j u).toArray n}:=by
 simp[Obj.mapSeq]
theorem Inv.lst{ao:List (Addr×Obj)}{Z:St}{H:Hp}{s:Shared}{p:Addr}{xs:List V}(I:Inv X ao Z H s)(h:H p=some (.lst xs)) :
  ∃(its:List Value) (n:Nat),Vals xs its/\s.heap.get? p=some {cls:=.type "list",data:=.seq its.toArray n}/\xs.length<=sizeLine:=by
 obtain⟨z,its,n,r,e⟩:=I.hok p _ h;exact⟨its,n,r,e,z⟩
theorem Inv.BL{ao:List (Addr×Obj)}{Z:St}{H:Hp}{s:Shared}{p:Addr}{xs ys:List V}{its its':List Value}{n n':Nat}{f:Obj->Obj}(I:Inv X ao Z H s)(h:H p=some (.lst xs))
  (ho:s.heap.get? p=some {cls:=.type "list",data:=.seq its.toArray n}) (hf:f {cls:=.type "list",data:=.seq its.toArray n}={cls:=.type "list",data:=.seq its'.toArray n'}) (r:Vals ys its') (hz:ys.length<=sizeLine) (t:Nat) :
  Inv X ao Z (upd H p (.lst ys)) {s with heap:=s.heap.update p f,toks:=t}:=by
 have e:(s.heap.update p f).get? p=some {cls:=.type "list",data:=.seq its'.toArray n'}:=by
  rw[Ao f ho (by rw[hf]<;>rfl),hf]
 refine I.write (x:=p) (e:=p) (by rw[h];trivial) (.inl rfl) (λb u hb q=>(wI _ _ (Ne.symm hb)).trans q) ⟨_,e⟩ ?_;exact⟨hz,its',n',r,e⟩
noncomputable def Iu:V->V->V->Hp->(Hp->Prop)->Prop:=λo i v H Q=>∃p xs k j,o=.ref p/\i=.int k/\H p=some (.lst xs)/\sy xs.length k=some j/\Q (upd H p (.lst (xs.set j v)))
theorem zhs:HB X Iu:=by
 intro ao s Z H o i v ov iv u Q I ro ri rv h;obtain⟨p,xs,k,j,rfl,rfl,hp,hj,q⟩:=h;cases ro;obtain⟨t,rfl⟩:=ri;obtain⟨its,n,r,ho,hz⟩:=I.lst hp;obtain⟨h1,h2,h3,h4⟩:=Yq hj;have hl:=r.length;have hn:=jf;have I':Inv X ao Z (upd H p (.lst (xs.set j v))) {s with heap:=s.heap.update p (Obj.mapSeq (·.setIfInBounds j u))}:=
  I.BL hp ho (zfe its n j u) (r.set rv j) (by rw[pL];exact hz) s.toks
 by_cases h0:0<=k
 ·have hk:k.toNat=j:=by
   rw[seqIndex_of h0 h4] at h1;exact cW h1
  exact PySem.W.ki_setAt ho h0 (by lia) (by rw[fj,<-hl];exact h4) (by rw[hk];exact⟨_,I',q⟩)
 ·have hk:(k+(its.toArray.size:Int)).toNat=j:=by
   rw[seqIndex_neg (by lia) h3] at h1;rw[fj,<-hl];exact cW h1
  exact PySem.W.ki_setBack ho (by lia) (by rw[fj,<-hl];exact h3) (by lia) (by rw[hk];exact⟨_,I',q⟩)
theorem zdi(lo hi:Option Int)(n:Nat):(sliceBounds lo hi none n).1=((HT.cC n 0 lo:Nat):Int)/\(sliceBounds lo hi none n).2.1=((HT.cC n n hi:Nat):Int)/\(sliceBounds lo hi none n).2.2=1:=by
 refine⟨?_,?_,rfl⟩
 ·cases lo with
  |none=>simp[sliceBounds,HT.cC]
  |some i=>
   simp only[sliceBounds,HT.cC,Option.getD_none,show (1:Int)>0 by decide,if_true];by_cases h:i<0
   ·simp only[h,if_true]<;>lia
   ·simp only[h,nY]<;>lia
 ·cases hi with
  |none=>simp[sliceBounds,HT.cC]
  |some i=>
   simp only[sliceBounds,HT.cC,Option.getD_none,show (1:Int)>0 by decide,if_true];by_cases h:i<0
   ·simp only[h,if_true]<;>lia
   ·simp only[h,nY]<;>lia
theorem zcK(its:List Value)(lo hi:Option Int):slicePick its.toArray lo hi none=((its.drop (HT.cC its.length 0 lo)).take (HT.cC its.length its.length hi-HT.cC its.length 0 lo)).toArray:=by
 obtain⟨h1,h2,h3⟩:=zdi lo hi its.toArray.size;unfold slicePick;rw[h1,h2,h3];simp only[sliceRange_one,pick_run,fj]<;>rfl
noncomputable def Iv(K:W.Frag):V->Option Int->Option Int->Hp->VK->Prop:=λx lo hi H Q=>∃a xs,x=.ref a/\dj K H a xs/\∀p,H p=none->Q (.ref p) (upd H p (.lst (mY xs lo hi)))
theorem xR:xO X (Iv X.K):=by
 intro ao s Z H x v vl vu lo hi sl Q I rx hs pl pu h;obtain⟨a,xs,rfl,hx,q⟩:=h;cases rx;obtain⟨its,r,ht,hz⟩:=I.list hx;have hlen:=r.length;refine⟨"list",_,slot_list_getitem.lookup,ht.isList.typeIs,?_⟩;refine wpAny_getItem_list_slice ht.isList hs pl pu .none (by simp) ?_ (by rw[fj]<;>lia);rw[zcK,<-hlen];refine⟨.ref s.heap.objs.size,_,I.laid (t':=s.toks) (o:=.lst (mY xs lo hi)) (λb ob q=>cG _ q) (cD _) ?_,rfl,q _ (I.hok.fresh (cD _))⟩;exact⟨jO (Yp xs lo hi) hz,_,0,(r.drop (HT.cC xs.length 0 lo)).take (HT.cC xs.length xs.length hi-HT.cC xs.length 0 lo),eE _ rfl⟩
theorem zdr:dB X (.builtin "len") (λxs H Q=>∃p ys,xs=[.ref p]/\(dj X.K H p ys\/gw X.K H p ys)/\Q (.int ys.length) H):=by
 intro ao s Z H xs us Q I r h;obtain⟨p,ys,rfl,hq,q⟩:=h;obtain⟨u,rfl,rx⟩:=vals1 r;cases rx;have hn:=jf;rcases hq with hq|hq
 ·obtain⟨its,r',pl,hz⟩:=I.list hq;have hlen:=r'.length;exact Calls.call_len_list pl.isList (by simp only[fj]<;>lia) ⟨.int ys.length,H,I.tok _,⟨s.toks+1,by rw[fj,hlen]⟩,q⟩
 ·obtain⟨its,r',pl,hz⟩:=I.tuple hq;have hlen:=r'.length;exact len_tuple pl (by simp only[fj]<;>lia) ⟨.int ys.length,H,I.tok _,⟨s.toks+1,by rw[fj,hlen]⟩,q⟩
theorem zcW:dB X (.type "list") (λxs H Q=>∃p ys,xs=[.ref p]/\(dj X.K H p ys\/gw X.K H p ys)/\∀l,H l=none->Q (.ref l) (upd H l (.lst ys))):=by
 intro ao s Z H xs us Q I r h;obtain⟨p,ys,rfl,hq,q⟩:=h;obtain⟨u,rfl,rx⟩:=vals1 r;cases rx;have fin:∀(its:List Value),Vals ys its->ys.length<=sizeLine->∀(h':Heap) (c':Nat),(∀b o',s.heap.get? b=some o'->h'.get? b=some o')->
   h'.get? s.heap.objs.size=some {cls:=.type "list",dict:=none,data:=.seq its.toArray c',slots:=#[]}->EP X ao Z Q (.ref s.heap.objs.size) {s with heap:=h'}:=λits r' hz h' c' kp e=>
  ⟨.ref s.heap.objs.size,_,I.laid (t':=s.toks) kp (cD _) (show bI X.prog X.w _ h' _ (.lst ys) from ⟨hz,its,c',r',e⟩),rfl,q _ (I.hok.fresh (cD _))⟩
 rcases hq with hq|hq
 ·obtain⟨its,r',pl,hz⟩:=I.list hq;have hlen:=r'.length;obtain⟨o,ho,hc,n,hd⟩:=pl.isList;exact call_list_seq p (.inl rfl) ho hc hd (λh' c' kp e=>fin its r' hz h' c' kp e) (by simp only[fj]<;>lia)
 ·obtain⟨its,r',pl,hz⟩:=I.tuple hq;have hlen:=r'.length;obtain⟨o,ho,hc,n,hd⟩:=pl;exact call_list_seq p (.inr rfl) ho hc hd (λh' c' kp e=>fin its r' hz h' c' kp e) (by simp only[fj]<;>lia)
theorem zcL:dB X (.type "tuple") (λxs H Q=>∃p ys,xs=[.ref p]/\((dj X.K H p ys/\∀l,H l=none->Q (.ref l) (upd H l (.tup ys)))\/(gw X.K H p ys/\Q (.ref p) H))):=by
 intro ao s Z H xs us Q I r h;obtain⟨p,ys,rfl,h⟩:=h;obtain⟨u,rfl,rx⟩:=vals1 r;cases rx;rcases h with ⟨hq,q⟩|⟨hq,q⟩
 ·obtain⟨its,r',pl,hz⟩:=I.list hq;have hlen:=r'.length;refine call_tuple_list pl.isList (λh' kp=>?_) (by simp only[fj]<;>lia);have I1:Inv X ao Z H {s with heap:=h'}:=I.kept (t':=s.toks) kp;have I2:Inv X ao Z (upd H h'.objs.size (.tup ys)) {s with heap:=h'.push {cls:=.type "tuple",data:=.seq its.toArray}}:=
   I1.laid (t':=s.toks) (λb o e=>cG _ e) (cD _) (show bI X.prog X.w _ _ _ (.tup ys) from ⟨hz,its,r',IsTup.new _ _⟩)
  exact⟨.ref h'.objs.size,_,I2,rfl,q _ (I1.hok.fresh (cD _))⟩
 ·obtain⟨its,r',pl,hz⟩:=I.tuple hq;exact call_tuple_same pl ⟨.ref p,H,I,rfl,q⟩
def Yr(K:W.Frag)(T:String)(x:V)(H:Hp):Prop:=match x with
 |.str _=>T="str"
 |.int _=>T="int"
 |.ref p=>(T="list"/\∃xs,dj K H p xs)\/(T="tuple"/\∃o,K.lookup p=some o/\o.cls=.type "tuple"/\o.dict=none) \/
   (T="dict"/\((∃kvs,H p=some (.dK kvs))\/∃kvs,H p=some (.dT kvs)))\/(T="set"/\∃S n,H p=some (.set S n))
 |_=>False
theorem zlD{ao:List (Addr×Obj)}{Z:St}{H:Hp}{s:Shared}{T:String}{x:V}{v:Value}(I:Inv X ao Z H s)(r:RelV x v)(ty:Yr X.K T x H) :
  s.TypeIs v T/\∀a,v=.ref a->∃ob,s.heap.get? a=some ob/\ob.dict=none:=by
 cases x with
 |str z=>
  obtain⟨t,rfl⟩:=r;cases (show T="str" from ty);exact⟨typeIs_str s z t,λ_ e=>nomatch e⟩
 |int i=>
  obtain⟨t,rfl⟩:=r;cases (show T="int" from ty);exact⟨typeIs_int s i t,λ_ e=>nomatch e⟩
 |ref p=>
  cases r;rcases ty with ⟨rfl,xs,hq⟩|⟨rfl,o,hk,hc,hd⟩|⟨rfl,hk⟩|⟨rfl,S,n,hk⟩
  ·obtain⟨its,_,pl,_⟩:=I.list hq;refine⟨pl.isList.typeIs,λa e=>?_⟩;cases e;obtain⟨o,n,e,c,hd,_⟩:=pl;exact⟨o,e,hd⟩
  ·refine⟨⟨o,I.lW p o hk,hc⟩,λa e=>?_⟩;cases e;exact⟨o,I.lW _ o hk,hd⟩
  ·have z:∃o,s.heap.get? p=some o/\o.ExactDict:=by
    rcases hk with ⟨kvs,hk⟩|⟨kvs,hk⟩
    ·obtain⟨_,_,_,_,o,_,_,e,ex,_⟩:=I.hok p _ hk;exact⟨o,e,ex⟩
    ·obtain⟨_,_,_,_,o,_,_,e,ex,_⟩:=I.hok p _ hk;exact⟨o,e,ex⟩
   obtain⟨o,e,ex⟩:=z;refine⟨⟨o,e,ex.1⟩,λa e2=>?_⟩;cases e2;exact⟨o,e,ex.2.1⟩
  ·obtain⟨o,_,_,_,e,ex,_⟩:=I.hok p _ hk;refine⟨⟨o,e,ex.1⟩,λa e2=>?_⟩;cases e2;exact⟨o,e,ex.2.1⟩
 |_=>exact False.elim ty
noncomputable def tBM(K:W.Frag)(T:String)(r:V->List V->Hp->VK->Prop)(to:TE)(t:TA):TE:=λZ H Q=>to Z H λx H1=>Yr K T x H1/\t Z H1 λxs H2=>r x xs H2 Q
variable {o e:Expr}{es:List Expr}{to:TE}{t:TA}{name:Str}{apos cpos:Pos}{T id:String}{r:V->List V->Hp->VK->Prop}
theorem znz(pa:PlainAttrs T)(slot:Slot T name id)(hty:typeOf (.builtin id)=pure (.type "method_descriptor"))(hm:MtR X id r)(ho:PE X o to)(ha:PA X (e::es) t)
  (oE:attributeBase o name X.env (eval o X.env)=eval o X.env:=by rfl)
  (BP:((backTo cpos (starEach (e::es) X.env)).all (λx=>!x.1)&&(backToKw cpos (keywordEach [] X.env)).all (λx=>x.1.isSome)
  &&decide ((e::es).length+([]:List Keyword).length+(if ([]:List Keyword).isEmpty then 0 else 1)<30))=true:=by rfl)
  (oF:(apos.endLine==cpos.line)=true:=by rfl) (hs:starEach (e::es) X.env=(false,eval e X.env)::starEach es X.env:=by rfl) (pZ:(backTo cpos (starEach es X.env)).any (·.1)=false:=by rfl) :
  PE X (.Call (.Attribute o name apos) (e::es) [] cpos) (tBM X.K T r to t):=by
 intro ao s Z H Q I h;refine wpAny_Call_method_late oE BP oF rfl (aV (ho ao s Z H _ I h) λv s1 ⟨x,H1,I1,r1,ty,q1⟩=>?_);obtain⟨h1,h2⟩:=zlD I1 r1 ty;refine⟨T,id,pa,slot,hty,h1,h2,?_⟩;have hA:=ha cpos ao s1 Z H1 _ I1 q1;rw[hs] at hA ⊢;refine Calls.callWith_builtin (by show (false||(backTo cpos (starEach es X.env)).any (·.1))=false;rw[pZ]<;>rfl) (Calls.evalArgs_plain ?_);exact aV hA λus s2 hx=>fH hx λvs H2 I2 r2 q2=>hm ao s2 Z H2 x vs v us Q I2 r1 r2 q2
end
def MtM(X:Cx)(id:String)(r:V->List V->Hp->VK->Prop):Prop:=
 ∀(ao:List (Addr×Obj)) (s:Shared) (Z:St) (H:Hp) (x:V) (xs:List V) (v:Value) (us:List Value) (Q:VK),Inv X ao Z H s->RelV x v->Vals xs us->r x xs H Q->
  wpAny (model X.prog X.w) X.A (call (.builtin id) (v::us)) (EP X ao Z Q) X.xe s
theorem Vals.one{x:V}{us:List Value}(h:Vals [x] us):∃u,us=[u]/\RelV x u:=by
 cases h with
 |cons r t=>cases t;exact⟨_,rfl,r⟩
theorem Vals.two{x y:V}{us:List Value}(h:Vals [x,y] us):∃u v,us=[u,v]/\RelV x u/\RelV y v:=by
 cases h with
 |cons r t=>
  obtain⟨v,rfl,q⟩:=Vals.one t;exact⟨_,_,rfl,r,q⟩
section
variable {X:Cx}{ao:List (Addr×Obj)}{Z:St}{H:Hp}{s:Shared}{l b:Addr}{xs ys zs:List V}
theorem Inv.Q6{its its':List Value}{n:Nat}{f:Array Value->Array Value}{t':Nat}(I:Inv X ao Z H s)(hH:H l=some (.lst xs))
  (e:s.heap.get? l=some {cls:=.type "list",data:=.seq its.toArray n}) (hf:f its.toArray=its'.toArray) (hv:Vals ys its') (hz:ys.length<=sizeLine) :
  Inv X ao Z (upd H l (.lst ys)) {s with heap:=s.heap.update l (Obj.mapSeq f),toks:=t'}:=by
 have q:=PySem.IsL.update e f;rw[hf] at q;refine I.write (x:=l) (e:=l) (by rw[hH];exact trivial) (.inl rfl) (λb' u hb hu=>(wI s.heap (Obj.mapSeq f) (Ne.symm hb)).trans hu) ⟨_,q⟩ ?_;exact⟨hz,its',_,hv,q⟩
theorem Inv.Q7{its:List Value}{t':Nat}(I:Inv X ao Z H s)(hv:Vals ys its)(hz:ys.length<=sizeLine) :
  Inv X ao Z (upd H s.heap.objs.size (.lst ys)) {s with heap:=s.heap.push {cls:=.type "list",data:=.seq its.toArray},toks:=t'}:=
 I.laid (λ_ _ q=>cG _ q) (cD _) ⟨hz,its,0,hv,eE _ rfl⟩
theorem Inv.fresh(I:Inv X ao Z H s):H s.heap.objs.size=none:=I.hok.fresh (cD _)
theorem Inv.Q8(I:Inv X ao Z H s)(hH:H l=some (.lst xs)):xs.length<=sizeLine/\∃(its:List Value) (n:Nat),Vals xs its/\xs.length=its.length/\s.heap.get? l=some {cls:=.type "list",data:=.seq its.toArray n}:=by
 obtain⟨z,its,n,r,e⟩:=I.hok l _ hH;exact⟨z,its,n,r,r.length,e⟩
end
section
variable {X:Cx}
noncomputable def xT:V->List V->Hp->VK->Prop:=λx vs H Q=>∃l xs y,x=.ref l/\vs=[y]/\H l=some (.lst xs)/\xs.length<sizeLine/\Q .non (upd H l (.lst (xs++[y])))
theorem Q9:MtM X "list.append" xT:=by
 intro ao s Z H x vs v us Q I rx rv h;obtain⟨l,xs,y,rfl,rfl,hH,hz,q⟩:=h;cases rx;obtain⟨u,rfl,ru⟩:=rv.one;obtain⟨z,its,n,r,hl,e⟩:=I.Q8 hH;refine call_meets F.slot_list_append ⟨_,e,rfl⟩ F.entry_list_append (F.args_list_append_2 _ _) (PySem.list_append l its.toArray n u (by rw[fj];lia)) ⟨e,?_⟩;refine⟨.non,_,I.Q6 (its':=its++[u]) hH e (by simp) (r.append (.cons ru .nil)) ?_,rfl,q⟩;rw[pC,List.length_singleton]
 lia
end
section
variable {prog:Program}{w:World}{A:Around}{E:Value->Shared->Prop}{s:Shared}
set_option maxRecDepth 100000 in
end
section
variable {X:Cx}
end
end L2
namespace Ys
open PySem PySem.W PySem.Calls PyProof.Rows
theorem zb4{P:Params}{h:Heap}:∀(ns:List Int) (vs:List Value),WellAll P h vs (ns.map WData.int)->IntsAre vs ns:=by
 intro ns
 induction ns with
 |nil=>
  intro vs w;rw[List.map_nil] at w;cases w;exact .nil
 |cons n ns ih=>
  intro vs w;rw[jo] at w;cases w with
  |cons a b=>
   cases a;exact .cons _ _ (ih _ b)
theorem zgD{l:OpenLaw}{n:Nat}(hn:l.most=some n){P:Params}{h:Heap}{args:List WData}{vals:List Value}
  (hpre:l.row.toRowW.claim.pre args=true) (Q_:WellAll P h vals args) :
  ∃a vs ns,vals=[Value.ref a]/\args=[WData.list (ns.map WData.int)]/\h.get? a=some {cls:=.type "list",data:=.seq vs.toArray}/\IntsAre vs ns/\ns.length<=n:=by
 have hsh:WShape.hasAll [] args [.list .int]=true:=(pre_splitW hpre).1;have hc:l.pre.holds [] {args:=args}=true:=(pre_splitW hpre).2;obtain⟨d,r,rfl,h1,h2⟩:=hasAllW_cons hsh;obtain rfl:=hasAllW_nil h2;obtain⟨xs,rfl,h3⟩:=hasW_list h1;obtain⟨ns,rfl⟩:=items_int h3;have hlen:ns.length<=n:=by
  unfold OpenLaw.pre at hc;have h4:(WTm.not (.lt (.lit (.int (n:Int))) (.len (.arg 0)))).holds [] {args:=[.list (ns.map .int)]}=true:=by
   have h4:=(holds_andW hc).1;rw[hn] at h4;exact h4
  have h5:=condW_of h4 (w_not (w_lt w_lit (w_len_list (w_arg rfl))));rw[eY] at h5;refine Lw λq=>?_;have q':(n:Int)<((ns.length:Nat):Int):=by lia
  first
   |(rw[mR q'] at h5;exact absurd h5 (by decide))
   |(simp at h5;lia)
 cases Q_ with
 |cons w1 w2=>
  cases w2;cases w1 with
  |list ho p7=>exact⟨_,_,ns,rfl,rfl,ho,zb4 ns _ p7,hlen⟩
theorem zfA(l:OpenLaw)(args:List WData):l.row.toRowW.claim.post args (.bool true) args=true:=
 postW_of (r:=l.row.toRowW) (X:=(true==true))
  (show WShape.has [] (.bool true) .bool=true by first|rfl|decide|simp[WShape.has,WShape.arms,WShape.armsAll])
  (show (WTm.eq .res (.lit (.bool true))).value [] {args:=args,res:=some (.bool true),after:=args}=some (.bool (true==true)) from w_eq_bool (w_res rfl) w_lit) rfl
theorem oG{l:OpenLaw}{n:Nat}{q:Program}{loose:List Str}{XP:(Str->Option Value)->Heap->Prop}{YP:World->Heap->Prop}{d:DefRec}
  (hn:l.most=some n) (Ra:d.params.defaults=[])
  (call:∀(w:World) (s₀ s₁:Shared) (mg mb:Str->Option Value) (fa:Addr) (o:Obj) (pm cd doc:Value) (a:Addr) (vs:List Value) (ns:List Int),
   Ground q loose [] XP w s₀ mg mb s₁.heap->YP w s₁.heap->
   s₁.heap.get? fa=some o->o.data=.func (docDef d.name d.params d.body d.scope pm cd doc)->s₁.heap.CodeRec cd d.name->mg d.name=some (.ref fa)->
   s₁.heap.get? a=some {cls:=.type "list",data:=.seq vs.toArray}->IntsAre vs ns->ns.length<=n->s₁.gens=#[]->
   codeAny (model l.prog w) callerA (.call (.ref fa) ⟨[.ref a],[]⟩) (λr s'=>r=.ok (.ret (.bool true))/\OldK s₁.heap s'.heap/\s'.os=s₁.os/\AllBare s'.gens) s₁) :
  WalkO q loose XP YP l.row.toRowW d [] (λf vs=>PySem.call f vs):=by
 intro w s₀ s₁ mg mb G Y fa o pm cd doc dV kV ho hd iI hD hmg hg args vals as hpre aac hrd Q_ hlo;obtain rfl:dV=.none:=Dflts.none hD Ra;obtain rfl:kV=.none:=Dflts.noKw hD;obtain⟨a,vs,ns,rfl,rfl,BR,hints,hlen⟩:=zgD hn hpre Q_;refine enter_call (zc (call w s₀ s₁ mg mb fa o pm cd doc a vs ns G Y ho (fd_plain hd) iI hmg BR hints hlen hg) λr s' hq=>?_);obtain⟨rfl,h2,h3,h4⟩:=hq;exact⟨.inl ⟨.bool true,.bool true,[],rfl,λ_=>rfl,.bool true,zfA l _,λ_=>⟨List.Pairwise.nil,λ_ hm=>(nomatch hm)⟩⟩,h2,h3,h4⟩
section
variable {prog:Program}{w:World}{A:Around}{E:Value->Shared->Prop}{s:Shared}{K:Frag}
end
end Ys
namespace L2
open PySem PySem.Spec PyProof.Rows
theorem Yt:∀{vs:List Value} {ns:List Int},IntsAre vs ns->Vals (ns.map V.int) vs
 |_,_,.nil=>.nil
 |_,_,.cons n t h=>.cons ⟨t,rfl⟩ (Yt h)
def Rb(h0:Heap)(H:Hp)(h:Heap)(e:Addr)(hd:Value):Prop:=
 hd=.none\/∃T oT ts,hd=.ref T/\h0.get? T=none/\H T=none/\T≠e/\h.get? T=some oT/\oT.data=.fields ts/\ts[3]?=some .none
structure Exc(h0:Heap)(H:Hp)(h:Heap)(e C:Addr)(dx:Option Addr):Prop where
 new:h0.get? e=none
 un:H e=none
 ob:∃oe vs hd,h.get? e=some oe/\oe.cls=.ref C/\oe.dict=dx/\oe.data=.fields vs/\vs[1]?=some hd/\Rb h0 H h e hd
structure Rf(h0:Heap)(H:Hp)(fr:List Addr)(h h':Heap)(ch:List Addr):Prop where
 rec_:∀b∈ch,h0.get? b=none/\H b=none/\∃o vs,h.get? b=some o/\o.data=.fields vs
 keep:∀b o,h.get? b=some o->b∉fr->b∉ch->h'.get? b=some o
 slot:∀b o,h.get? b=some o->b∈fr->∃sl,h'.get? b=some {o with slots:=sl}
 there:∀b o,h.get? b=some o->∃o',h'.get? b=some o'
noncomputable def uE(head:Value)(L:Addr)(pl:List Value):Obj:=
 {cls:=.type "traceback",dict:=none,data:=.fields ([head,.ref L,.none,rawInt L,.none]++(if pl.isEmpty then List.replicate 6 Value.none else pl)).toArray}
theorem Yu(o:Obj)(f:Array Value->Array Value):(o.mapFields f).dict=o.dict:=by
 obtain⟨c,d,dt,sl⟩:=o;cases dt<;>rfl
theorem Yv(o:Obj)(f:Array Value->Array Value):(o.mapFields f).cls=o.cls:=by
 obtain⟨c,d,dt,sl⟩:=o;cases dt<;>rfl
section
variable {M:Model}{A:Around}{E:Value->Shared->Prop}{s:Shared}{base h0:Heap}{env:Env}{outer:List Env}{L e C:Addr}{dx:Option Addr}{H:Hp}{Q:Unit->Shared->Prop}
theorem Yw(qQ:A.frames=some (env::outer))(hl:s.heap.FunFrames base (env::outer))(hf:env.frame=some L)
  (he:s.heap.get? e=some oe) (hd:oe.data=.fields vs) (hsz:1<vs.size)
  (k:∀h' T oT ts,s.heap.objs.size<=T->(∀b o,s.heap.get? b=some o->b∉frs (env::outer)->b≠e->h'.get? b=some o)->(∀b o,s.heap.get? b=some o->b∈frs (env::outer)->∃sl,h'.get? b=some {o with slots:=sl})->
   h'.get? e=some (oe.mapFields (·.setIfInBounds 1 (.ref T)))->h'.get? T=some oT->oT.data=.fields ts->3<ts.size->ts[3]?=some (rawInt L)->Q () {s with heap:=h'}) :
  wpAny M A (do let a <-frameOf env;let pl <-entryPlaceOf L hn;let b <-EntryCells.newEntry head a .none (rawInt L) .none pl;setField (.ref e) 1 b) Q E s:=by
 have Iw:e∉frs (env::outer):=λhm=>by
  obtain⟨_,o,ho,hx⟩:=hl.mem hm;rw[he] at ho;cases ho;exact hx vs hd
 refine aB (wpAny_frameOf_fun qQ hl hf λh₁ sl₁=>?_);refine aB (wpAny_entryPlaceOf λpl cO=>?_);unfold EntryCells.newEntry newFields;refine aB (pD ?_ (cO.sizeOk5 _ _ _ _ _));have e1:h₁.get? e=some oe:=(sl₁.2.1 e Iw).trans he;have e2:(h₁.push (uE head L pl)).get? e=some oe:=cG _ e1;refine GQ e2 hd hsz ?_;have ne:h₁.objs.size≠e:=pO (bQ e1);have d3:=yX hd (·.setIfInBounds 1 (Value.ref h₁.objs.size));have kp:∀b o,h₁.get? b=some o->b≠e->((h₁.push (uE head L pl)).update e (Obj.mapFields (·.setIfInBounds 1 (Value.ref h₁.objs.size)))).get? b=some o:=λb o q n=>by
  rw[wI _ _ n.symm];exact cG _ q
 refine k _ h₁.objs.size (uE head L pl) _ (by rw[sl₁.1];exact cD _) (λb o q n1 n2=>kp b o ((sl₁.2.1 b n1).trans q) n2) (λb o q m=>?_) (Ao _ e2 (Lh d3)) ?_ rfl ?_ ?_
 ·obtain⟨sl,z⟩:=sl₁.2.2 b o q;exact⟨sl,kp b _ z λy=>Iw (y▸m)⟩
 ·rw[wI _ _ ne.symm];exact eE _ rfl
 ·simp only[fj,pC,h_,Et]<;>lia
 ·first
   |(simp;done)
   |(rcases cO with rfl|⟨_,_,_,_,_,_,_,rfl⟩<;>simp)
theorem zhr(qQ:A.frames=some (env::outer))(hl:s.heap.FunFrames base (env::outer))(hf:env.frame=some L)(x:Exc h0 H s.heap e C dx)
  (k:∀h' T oT oe ts vs ch,Rf h0 H (frs (env::outer)) s.heap h' ch->s.heap.objs.size<=T->h'.get? e=some oe->oe.cls=.ref C->oe.dict=dx->oe.data=.fields vs->vs[1]?=some (.ref T)->h'.get? T=some oT->oT.data=.fields ts->
   3<ts.size->ts[3]?=some (rawInt L)->Q () {s with heap:=h'}):wpAny M A (noteFrame (.ref e) env) Q E s:=by
 obtain⟨oe,vs,hd,he,hc,MK,vX,h1,tb⟩:=x.ob;have hsz:1<vs.size:=(Array.getElem?_eq_some_iff.mp h1).1;have Iw:∀b o ws,s.heap.get? b=some o->o.data=.fields ws->b∉frs (env::outer):=λb o ws q d hm=>by
  obtain⟨_,o',ho,hx⟩:=hl.mem hm;rw[q] at ho;cases ho;exact hx ws d
 unfold noteFrame;simp only[hf];refine aB (lg he vX h1 ?_);rcases tb with rfl|⟨T,oT,ts,rfl,nT,uT,neT,gT,dT,h3⟩
 ·rw[if_neg (by decide)];refine Yw qQ hl hf he vX hsz λh' T oT ts lt kp sl ge gT dT z3 z4=>?_;refine k h' T oT _ ts _ [e] ⟨λb hb=>?_,λb o q n1 n2=>kp b o q n1 λz=>n2 (by rw[z];exact .head _),sl,λb o q=>?_⟩ lt ge ((Yv _ _).trans hc) ((Yu _ _).trans MK) (yX vX _) (by simp[hsz]) gT dT z3 z4
  ·obtain rfl:b=e:=by simpa using hb
   exact⟨x.new,x.un,oe,vs,he,vX⟩
  ·by_cases z:b=e
   ·subst z;exact⟨_,ge⟩
   ·by_cases m:b∈frs (env::outer)
    ·obtain⟨w,q'⟩:=sl b o q m;exact⟨_,q'⟩
    ·exact⟨o,kp b o q m z⟩
 ·rw[if_pos (show (Value.ref T != Value.none)=true from by simp)];refine aB (lg gT dT h3 ?_);rw[if_neg (show ¬((Value.none==rawInt L)=true) from by simp[rawInt])];have z3:3<ts.size:=(Array.getElem?_eq_some_iff.mp h3).1;refine aB (GQ gT dT z3 ?_);have oth:∀b,b≠T->(s.heap.update T (Obj.mapFields (·.setIfInBounds 3 Value.none))).get? b=s.heap.get? b:=λb n=>wI _ _ n.symm;have hl':(s.heap.update T (Obj.mapFields (·.setIfInBounds 3 Value.none))).FunFrames base (env::outer):=hl.of_keeps λb o q nd=>⟨o,(oth b λz=>by subst z;rw[gT] at q;cases q;exact nd ts dT).trans q,rfl⟩;have sT:(s.heap.update T (Obj.mapFields (·.setIfInBounds 3 Value.none))).get? T=some (oT.mapFields (·.setIfInBounds 3 Value.none)):=Ao _ gT (Lh (yX dT _));refine Yw qQ hl' hf ((oth e neT.symm).trans he) vX hsz λh' T' oT' ts' lt kp sl ge gT' dT' z3' z4'=>?_;have lt':s.heap.objs.size<=T':=by
   have:=lt;simp only[Heap.size_after_update] at this;exact this
  refine k h' T' oT' _ ts' _ [e,T] ⟨λb hb=>?_,λb o q n1 n2=>kp b o ((oth b λz=>n2 (by simp[z])).trans q) n1 λz=>n2 (by simp[z]),λb o q m=>?_,λb o q=>?_⟩ lt' ge ((Yv _ _).trans hc) ((Yu _ _).trans MK) (yX vX _) (by simp[hsz]) gT' dT' z3' z4'
  ·have hb':b=e\/b=T:=by simpa using hb
   rcases hb' with rfl|rfl
   ·exact⟨x.new,x.un,oe,vs,he,vX⟩
   ·exact⟨nT,uT,oT,ts,gT,dT⟩
  ·exact sl b o ((oth b λz=>by subst z;exact Iw b o ts q (by rw[gT] at q;cases q;exact dT) m).trans q) m
  ·by_cases z:b=e
   ·subst z;exact⟨_,ge⟩
   ·by_cases y:b=T
    ·subst y;exact⟨_,kp b _ sT (Iw b oT ts gT dT) z⟩
    ·by_cases m:b∈frs (env::outer)
     ·obtain⟨w,q'⟩:=sl b o ((oth b y).trans q) m;exact⟨_,q'⟩
     ·exact⟨o,kp b o ((oth b y).trans q) m z⟩
theorem zg9(he:s.heap.get? e=some oe)(hd:oe.data=.fields vs)(h1:vs[1]?=some (.ref T))(gT:s.heap.get? T=some oT)(dT:oT.data=.fields ts)(z3:3<ts.size)
  (k:∀h',(∀b o,b≠T->s.heap.get? b=some o->h'.get? b=some o)->h'.get? T=some (oT.mapFields (·.setIfInBounds 3 Value.none))->Q () {s with heap:=h'}):wpAny M A (setFlight (.ref e) none) Q E s:=by
 unfold setFlight;refine aB (lg he hd h1 ?_);rw[if_pos (show (Value.ref T != Value.none)=true from by simp)];exact GQ gT dT z3 (k _ (λb o n q=>(wI _ _ n.symm).trans q) (Ao _ gT (Lh (yX dT _))))
theorem zf7(qQ:A.frames=some (env::outer))(hl:s.heap.FunFrames base (env::outer))(hf:env.frame=some L)(x:Exc h0 H s.heap e C dx)
  (qM:∀b,s.heap.objs.size<=b->H b=none) (h0s:∀b o,h0.get? b=some o->∃o',s.heap.get? b=some o')
  (k:∀h' ch,Rf h0 H (frs (env::outer)) s.heap h' ch->Exc h0 H h' e C dx->Q () {s with heap:=h'}) :
  wpAny M A (noteFrame (.ref e) env) (λ_ s₁=>wpAny M A (setFlight (.ref e) none) Q E s₁) E s:=by
 have ele:∃o,s.heap.get? e=some o:=let ⟨oe,_,_,he,_⟩:=x.ob;⟨oe,he⟩;refine zhr qQ hl hf x λh' T oT oe ts vs ch t lt ge hc MK vX h1 gT dT z3 z4=>?_;have neT:T≠e:=λz=>by
  obtain⟨o,q⟩:=ele;exact absurd (gb (bQ q) (z▸lt)) (pN _)
 refine zg9 (s:={s with heap:=h'}) ge vX h1 gT dT z3 λh2 kp gT2=>?_;have nT:∀b o,s.heap.get? b=some o->b≠T:=λb o q z=>absurd (gb (bQ q) (z▸lt)) (pN _);refine k h2 ch ⟨t.rec_,λb o q n1 n2=>kp b o (nT b o q) (t.keep b o q n1 n2),λb o q m=>?_,λb o q=>?_⟩ ⟨x.new,x.un,oe,vs,.ref T,kp e oe neT.symm ge,hc,MK,vX,h1,.inr ⟨T,_,_,rfl,?_,qM T lt,neT,gT2,yX dT _,by simp[z3]⟩⟩
 ·obtain⟨sl,q'⟩:=t.slot b o q m;exact⟨sl,kp b _ (nT b o q) q'⟩
 ·obtain⟨o',q'⟩:=t.there b o q;exact⟨o',kp b o' (nT b o q) q'⟩
 ·cases z:h0.get? T with
  |none=>rfl
  |some o=>
   obtain⟨o',q⟩:=h0s T o z;exact absurd rfl (nT T o' q)
end
noncomputable abbrev XS:=St->Value->Option Addr->Hp->Prop
def Sub(h0 h:Heap):Prop:=∀b o,h0.get? b=some o->∃o',h.get? b=some o'
theorem Sub.none{h0 h:Heap}(x:Sub h0 h){b:Addr}(e:h.get? b=none):h0.get? b=none:=by
 cases q:h0.get? b with
 |none=>rfl
 |some o=>
  obtain⟨o',z⟩:=x b o q;rw[e] at z;cases z
theorem Exc.older{h0 h1:Heap}{H:Hp}{h:Heap}{e C:Addr}{dx:Option Addr}(x:Exc h1 H h e C dx)(y:Sub h0 h1):Exc h0 H h e C dx:=by
 obtain⟨oe,vs,hd,a,b,c,d,f,tb⟩:=x.ob;refine⟨y.none x.new,x.un,oe,vs,hd,a,b,c,d,f,?_⟩;rcases tb with z|⟨T,oT,ts,z1,z2,z3⟩
 ·exact .inl z
 ·exact .inr ⟨T,oT,ts,z1,y.none z2,z3⟩
section
variable {X:Cx}{ao:List (Addr×Obj)}{Z:St}{H:Hp}{s:Shared}{h0 h':Heap}{ch fr:List Addr}
theorem iV.tbd{P:Program}{w:World}{h:Heap}(x:iV P w H h)(t:Rf h0 H fr h h' ch)(hf:∀b∈fr,H b=none):iV P w H h':=λa o e=>by
 have st:∀b u,(b=a\/H b=some (.own a))->h.get? b=some u->h'.get? b=some u:=λb u z q=>by
  have nb:H b≠none:=by
   rcases z with z|z
   ·rw[z,e];simp
   ·rw[z];simp
  exact t.keep b u q (λm=>nb (hf b m)) λm=>nb (t.rec_ b m).2.1
 exact(x a o e).stay st (λ_ z=>z) λ_ _ z=>z
end
def Raises(X:Cx)(EX:XS):Prop:=
 ∀(ao:List (Addr×Obj)) (Z:St) (H:Hp) (s:Shared) (h0:Heap) (e C:Addr) (dx:Option Addr),Inv X ao Z H s->(∀b o,X.s₀.heap.get? b=some o->b∉X.ex->∃o',h0.get? b=some o')->
  (∀p∈X.pn++ao,∃o,h0.get? p.1=some o)->Sub h0 s.heap->Exc h0 H s.heap e C dx->EX Z (.ref C) dx H->X.xe (.ref e) s
noncomputable def fL(P:Program)(w:World):rY:=λouter H s E e s'=>
 ∃(a C:Addr) (dx:Option Addr) (H':Hp),e=.ref a/\s'.os=s.os/\AllBare s'.gens/\Un (frs outer) [] H H' s.heap s'.heap/\iV P w H' s'.heap/\Exc s.heap H' s'.heap a C dx/\E (.ref C) dx H'
theorem ze5{P:Program}{w:World}{K:W.Frag}{mg:Str->Option Value}{base:Heap}{N:List Str}{qual:Str}{scope:Scope}{f:Addr}{cd:Value}{A:Around}{outer:List Env}{s:Shared}{H:Hp}{E:XK}{cm:Bool} :
  Raises (dN (fL P w) P w K mg base N qual scope f cd A outer s H E cm) (λ_ C dx H'=>E C dx H'):=by
 intro ao Z H1 s1 h0 e C dx I hs hp h01 x ex;have I0:Inv (dN (fL P w) P w K mg base N qual scope f cd A outer s H E cm) [] Z H1 s1:=I.jP λp z=>absurd z (by simp);show wpAny (model P w) (A.deeper (envOfC qual scope s.heap.objs.size f cd)) (leaving (envOfC qual scope s.heap.objs.size f cd) (.ref e)) _ _ s1;unfold leaving;have hsub:Sub s.heap h0:=λb o q=>hs b o q (by show b∉([]:List Addr);simp);refine aB (zf7 (base:=base) (outer:=outer) (L:=s.heap.objs.size) I0.ok.frames I0.stack rfl x (λb z=>I0.hok.fresh z) h01 λh' ch t x'=>?_);have fin:∀b o,s.heap.get? b=some o->b∉ch:=λb o q m=>by
  have z:=hsub.none (t.rec_ b m).1;rw[q] at z;cases z
 have nL:∀b o,s.heap.get? b=some o->b∉frs outer->b∉frs (envOfC qual scope s.heap.objs.size f cd::outer):=λb o q n m=>by
  have m':b∈s.heap.objs.size::frs outer:=m;rcases iY.mp m' with z|z
  ·exact absurd (bQ q) (by rw[z];exact pN _)
  ·exact n z
 refine⟨e,C,dx,H1,rfl,I0.os,I0.bare,⟨λb o q n hb _=>?_,λb o q n hb _=>?_,λb o q n _=>I0.base.free b o q n (by show b∉([]:List Addr);simp),λb o q _=>?_,I0.base.tups,I0.base.jd,I0.base.jD⟩,I0.hok.tbd t I0.mX,x'.older hsub,ex⟩
 ·exact t.keep b o (I0.base.keep b o q n hb (by show b∉([]:List Addr);simp)) (nL b o q hb) (fin b o q)
 ·obtain⟨sl,q1⟩:=I0.base.slot b o q n hb (by show b∉([]:List Addr);simp);obtain⟨sl',q2⟩:=t.slot b _ q1 (show b∈s.heap.objs.size::frs outer from iG _ hb);exact⟨sl',q2⟩
 ·obtain⟨o',q1⟩:=I0.base.there b o q (by show b∉([]:List Addr);simp);exact t.there b o' q1
section
variable {X:Cx}{cm:Bool}{k:Nat}{f C:Addr}{fd:FuncData}{ps:List Str}{sp:Sp}{EX:XS}{x m:Str}{p pos apos:Pos}{e o:Expr}{es:List Expr}{ta:TE}{t:TA}
theorem Raises.pass(R:Raises X EX)(I:Inv X ao Z H s)(h:fL X.prog X.w X.stack H s (EX Z) v s'):X.xe v s':=by
 obtain⟨a,C,dx,H',rfl,os,bare,un,hok,x,q⟩:=h;have aq:Sub s.heap s'.heap:=λb o z=>un.there b o z (by simp);refine R ao Z H' s' s.heap a C dx (I.call' os un hok bare λb z=>absurd z (by simp)) (λb o z n=>I.base.there b o z n) (λp hp=>?_) aq x q;exact⟨p.2,(I.pin p hp).1⟩
noncomputable def BW(sp:Sp)(EX:XS)(t:TA):TE:=λZ H Q=>t Z H λvs H1=>sp vs H1 Q (EX Z)
theorem zjB(F:cJ X.prog X.w X.K X.mg X.base (fL X.prog X.w) cm k f fd ps sp)(jg:cm=true->X.aj=true)(hr:bC k X.A)(hb:Binds X.K fd ps [])(R:Raises X EX)
  (I:Inv X ao Z H s) (r:Vals vs us) (h:sp vs H Q (EX Z)):wpAny (model X.prog X.w) X.A (call (.ref f) us) (EP X ao Z Q) X.xe s:=by
 have hl:us.length=ps.length:=by rw[<-r.length];exact F.len _ _ _ _ h
 have hb':=hb s us I.lW (by rw[wM];exact hl);rw[wM] at hb';refine Ez (zc (F.run X.A X.stack s H ⟨us,[]⟩ us vs Q (EX Z) (λz=>I.ok.hd (jg z)) hr I.env0 hb' r h) λr s' hq=>?_);cases r with
 |error v=>exact R.pass I hq
 |ok fl=>
  cases fl with
  |ret u=>exact I.after hq
  |next=>exact False.elim hq
  |brk=>exact False.elim hq
  |cont=>exact False.elim hq
theorem zhf(F:cJ X.prog X.w X.K X.mg X.base (fL X.prog X.w) cm k f fd ps sp)(jg:cm=true->X.aj=true)(hr:bC k X.A)(hg:Gl X x)(hm:X.mg x=some (.ref f))(hk:PySem.W.keepIn X.K (.ref f)=true)(hb:Binds X.K fd ps [])(R:Raises X EX)
  (ha:PA X (e::es) t) (rZ:(x==("__debug__" : Str))=false:=by decide) (he:starEach (e::es) X.env=(false,eval e X.env)::starEach es X.env:=by rfl) (cO:(backTo pos (starEach es X.env)).any (·.1)=false:=by rfl) :
  PE X (.Call (.Name x p) (e::es) [] pos) (BW sp EX t):=by
 intro ao s Z H Q I h;refine wJ (Qk I hg hm ?_ rZ);exact PJ (h₀:=X.base) I.ok.mod.wQ hk (aV (ha pos ao s Z H _ I h) λus s1 ⟨vs,H1,I1,r,q⟩=>⟨I1.lW,zjB F jg hr hb R I1 r q⟩) he cO
end
noncomputable def xU(a C:Addr)(dx:Option Addr):HO:=.ext λh=>∃oe vs,h.get? a=some oe/\oe.cls=.ref C/\oe.dict=dx/\oe.data=.fields vs
section
variable {X:Cx}{ao:List (Addr×Obj)}{Z:St}{H:Hp}{s:Shared}{e:Addr}{o:HO}
theorem Inv.track(I:Inv X ao Z H s)(hn:X.s₀.heap.get? e=none)(un:H e=none)(hp:∀p∈X.pn++ao,p.1≠e)(hL:e≠X.env.locals)(hc:∀x c,X.env.cells.lookup x=some c->c≠e)
  (new:bI X.prog X.w (upd H e o) s.heap e o):Inv X ao Z (upd H e o) s:=by
 have ne:∀b u,H b=some u->b≠e:=λb u q z=>by rw[z,un] at q;cases q
 have n0:∀b u,X.s₀.heap.get? b=some u->b≠e:=λb u q z=>by rw[z,hn] at q;cases q
 refine⟨I.ok,I.os,I.bare,⟨I.base.keep,I.base.slot,λb u q n hx=>?_,I.base.there,λb xs q=>?_,λb u v q=>?_,λb ps q=>?_⟩,I.loc,I.cell,?_,λx c q=>?_,λp q=>?_,λb u q=>?_,I.len⟩
 ·rw[bZ (n0 b u q)];exact I.base.free b u q n hx
 ·have z:=I.base.tups b xs q;rw[bZ (ne b _ z)];exact z
 ·have z:=I.base.jd b u v q;rw[bZ (ne b _ z)];exact z
 ·obtain⟨m,z,g⟩:=I.base.jD b ps q;exact⟨m,by rw[bZ (ne b _ z)];exact z,g.mono λb o u q=>by rw[bZ (ne b _ q)];exact q⟩
 ·rw[bZ hL.symm];exact I.free
 ·rw[bZ (hc x c q)];exact I.gq x c q
 ·obtain⟨a1,a2,a3⟩:=I.pin p q;exact⟨a1,by rw[bZ (hp p q)];exact a2,a3⟩
 ·by_cases z:b=e
  ·subst z;rw[iH] at q;cases q;exact new
  ·rw[bZ z] at q;exact(I.hok b u q).stay (λ_ _ _ r=>r) (λc r=>by rw[bZ (ne c _ r)];exact r) λc xs r=>by rw[bZ (ne c _ r)];exact r
noncomputable def Cx.seen(X:Cx)(A:Around)(aj:Bool)(pn:List (Addr×Obj))(E:Value->Shared->Prop):Cx:={X with A:=A,aj:=aj,pn:=pn,xe:=E}
theorem Inv.seen(I:Inv X ao Z H s)(hA:A.frames=X.A.frames)(hc:c=true->A.handled=none)(hp:∀p∈pn++ps,p∈X.pn++ao):Inv (X.seen A c pn E) ps Z H s:=
 ⟨⟨I.ok.mod,I.ok.kind,I.ok.glob,I.ok.blt,I.ok.above,I.ok.inj,I.ok.has,I.ok.cab,hc,hA.trans I.ok.frames,I.ok.stk,I.ok.Xo,I.ok.bs,I.ok.wX,I.ok.uo,I.ok.wY,I.ok.jE,I.ok.zy⟩,I.os,I.bare,I.base,I.loc,I.cell,I.free,I.gq,λp z=>I.pin p (hp p z),I.hok,I.len⟩
theorem Inv.BX(I:Inv (X.seen A c pn E) ps Z H s)(hA:X.A.frames=A.frames)(hc:X.aj=true->X.A.handled=none)(hp:∀p∈X.pn++ao,p∈pn++ps):Inv X ao Z H s:=
 ⟨⟨I.ok.mod,I.ok.kind,I.ok.glob,I.ok.blt,I.ok.above,I.ok.inj,I.ok.has,I.ok.cab,hc,hA.trans I.ok.frames,I.ok.stk,I.ok.Xo,I.ok.bs,I.ok.wX,I.ok.uo,I.ok.wY,I.ok.jE,I.ok.zy⟩,I.os,I.bare,I.base,I.loc,I.cell,I.free,I.gq,λp z=>I.pin p (hp p z),I.hok,I.len⟩
end
section
variable {X:Cx}{x n:Str}{np aad pos:Pos}{b₀:Stmt}{body suite:List Stmt}{Dc:Addr}{i:Nat}{tb:XS->TS}{th:TS}
end
end L2
namespace L2
open PySem PySem.Spec PyProof.Rows PySem.W Builtin.ObjectAttr
section
variable {prog:Program}{w:World}{A:Around}{E:Value->Shared->Prop}{s:Shared}{K:Frag}{x C:Addr}{ox:Obj}{od:Option Obj}{name:Str}{tk:Tok}
theorem zjK(XI:K.In s.heap)(I:InstAt s.heap x ox C od)(hf:findObj K C od name=some r)
  (h:match r with|.value v=>Q (.done (.ret v)) s|.bind g a=>wpAny (model prog w) A (call g [a,.ref x,.ref C]) (λv s'=>Q (.done (.ret v)) s') E s|.missing=>False) :
  wpAny (model prog w) A (Builtin.«object.__getattribute__» ⟨[.ref x,.str name tk],[]⟩) Q E s:=by
 obtain⟨hh,g,d,t,os⟩:=s;have L0:=I.type (M:=model prog w);have L1:=looks_find (M:=model prog w) XI I hf;unfold Builtin.«object.__getattribute__»;refine aB (Ey (a:=(Value.ref x,[Value.str name tk])) (by rfl) ?_);refine aB (Ey (a:=name) (by rfl) ?_);refine aB (L0.at (aB (L1.at ?_)));cases r with
 |value v=>exact aM h
 |bind g a=>
  show wpAny _ _ (holding [a] (call g [a,.ref x,.ref C]) >>= ret) _ _ _;exact aB (pF (gj h (λv s' z=>aM z) λ_ _ z=>z))
 |missing=>exact h.elim
theorem zgb(XI:K.In s.heap)(I:InstAt s.heap x ox C od)(hb:mroIn K C (.type "BaseException")=some true)(hf:findObj K C od name=some r)
  (h:match r with|.value v=>R (.ok (.ret v)) s|.bind g a=>wpAny (model prog w) A.in1 (call g [a,.ref x,.ref C]) (λv s'=>R (.ok (.ret v)) s') (λe s'=>R (.error e) s') s|.missing=>False) :
  codeAny (model prog w) A (.call (.builtin "BaseException.__getattribute__") ⟨[.ref x,.str name tk],[]⟩) R s:=by
 have hk:builtinKind "BaseException.__getattribute__"=some .slot:=by decide +kernel
 have BZ:splitId "BaseException.__getattribute__"=some ("BaseException","__getattribute__"):=by decide +kernel
 have ha:=F.args_bexc_ga (.ref x) (.str name tk);refine codeAny_call_builtin F.attr_ValueError.ga.plain F.entry_bexc_ga ?_;have fin:wpAny (model prog w) A.in1 (Builtin.«object.__getattribute__» ⟨[.ref x,.str name tk],[]⟩) (λfin s'=>match fin with|.done f=>R (.ok f) s'|.again c'=>c'.quiet=true/\codeAny (model prog w) A c' R s') (λe s'=>R (.error e) s') s:=by
  refine zjK XI I hf ?_;cases r with
  |value v=>exact h
  |bind g a=>exact h
  |missing=>exact h.elim
 have chk:∀Q:Unit->Shared->Prop,Q () s->wpAny (model prog w) A.in1 (checkBuiltinCall "BaseException.__getattribute__" ⟨[.ref x,.str name tk],[]⟩) Q (λe s'=>R (.error e) s') s:=λQ hq=>by
  obtain⟨hh,g,d,t,os⟩:=s;have L0:=I.type (M:=model prog w);have L1:=looks_mroIn (M:=model prog w) XI hb;have LI:Looks (model prog w) hh (isInstance (.ref x) (.type "BaseException")) true:=L0.andThen L1;simp only[checkBuiltinCall,hk,BZ];refine aB ?_
  repeat (first|with_reducible exact hq|with_reducible refine LI.at ?_|wp_step)
 exact chk _ fin
theorem bexc_get?(XI:K.In s.heap)(I:InstAt s.heap x ox C od)(hb:mroIn K C (.type "BaseException")=some true)(hga:findIn K (.ref C) "__getattribute__"=some (some (.builtin "BaseException.__getattribute__")))
  (hgn:findIn K (.ref C) "__getattr__"=some none) (hf:findObj K C od name=some r)
  (h:match r with|.value v=>wpAny (model prog w) A (handedOut v) (λu s'=>Q (some u) s') (λ_ _=>False) {s with toks:=s.toks+1}|.bind g a=>wpAny (model prog w) A.in1 (call g [a,.ref x,.ref C]) (λv s'=>wpAny (model prog w) A (handedOut v) (λu s''=>Q (some u) s'') (λ_ _=>False) s') (λ_ _=>False) {s with toks:=s.toks+1}|.missing=>False) :
  wpAny (model prog w) A (getAttr? (.ref x) name) Q E s:=by
 obtain⟨hh,g,d,t,os⟩:=s;have L0:=I.type (M:=model prog w);have L1:=looks_findIn (M:=model prog w) XI hga;have L2:=looks_findIn (M:=model prog w) XI hgn;have MN:(Value.builtin "BaseException.__getattribute__"==Value.builtin "object.__getattribute__")=false:=by decide +kernel
 unfold getAttr? getAttrBy? getAttrBy;refine aB (wpAny_mkText (aB (Ew (pF (aB (L0.at (aB (L1.at ?_))))))));show wpAny _ _ (if (onTheHeap (.ref C)&&(Value.builtin "BaseException.__getattribute__"==Value.builtin "object.__getattribute__"))=true then _ else getAttrByItsOwn _ _ _ _ _ _) _ _ _;rw[MN,Bool.and_false,if_neg (by decide)];unfold getAttrByItsOwn hookBefore callGetattribute boundAndCalled;refine aB (L2.at ?_);refine aB (Ew (pF (aB (Ey (F.attr_ValueError.ga.bind (.ref x)) ?_))));refine Ez (zgb XI I hb hf ?_);cases r with
 |value v=>exact gj h (λv s'' hv=>aM hv) (λ_ _ z=>z.elim)
 |bind g a=>exact gj h (λv s' hv=>gj hv (λu s'' z=>aM z) λ_ _ z=>z.elim) (λ_ _ z=>z.elim)
 |missing=>exact h.elim
end
structure XC(K:Frag)(C:Addr):Prop where
 ga:findIn K (.ref C) "__getattribute__"=some (some (.builtin "BaseException.__getattribute__"))
 gn:findIn K (.ref C) "__getattr__"=some none
 cl:findIn K (.ref C) "__class__"=some (some (.builtin "object.__class__"))
 mb:mroIn K C (.type "BaseException")=some true
 mo:mroIn K C (.type "object")=some true
 cd:(clsIn K C).isSome=true
 dg:specialIn K (.builtin "object.__class__") "__get__"=some (some (.builtin "getset_descriptor.__get__"))
 dt:takesIn K (.builtin "object.__class__")=some true
theorem zgg{K:Frag}{C:Addr}{od:Option Obj}{name:Str}{a g:Value}(hc:(clsIn K C).isSome=true)(ha:findIn K (.ref C) name=some (some a))(hg:specialIn K a "__get__"=some (some g))(ht:takesIn K a=some true):findObj K C od name=some (.bind g a):=by
 obtain⟨cd,z⟩:=O_.mp hc;simp only[findObj,z,ha,hg,ht,Lx]
theorem Yx{K:Frag}{e C:Addr}(c:XC K C):KitX K (.ref e) (.ref C) (λh=>∃ox od,InstAt h e ox C od) where
 ty:=λ_ _ _ ⟨_,_,I⟩=>I.type
 it:=λ_ _ XI _=>by
  have q:=c.cd;unfold clsIn at q;split at q
  ·rename_i c' d' cd' sl' lk;intro A' Q' E' s' k z;unfold isType loadHead;exact aB (wpAny_loadPart (k _ _ (XI _ _ lk)) (aM z))
  ·cases q
 ne:=λh tp dd its n sl XI htp=>by
  refine Bool.eq_false_iff.mpr λz=>?_;have ee:C=tp:=Value.ref.inj (nW.mp z);subst ee;have q:=c.cd;unfold clsIn at q;split at q
  ·rename_i c' d' cd' sl' lk;have y:=(XI _ _ lk).symm.trans htp;cases y
  ·cases q
 ca:=λ{prog w A E Q s} XI ⟨ox,od,I⟩ k=>by
  have hf:findObj K C od "__class__"=some (.bind (.builtin "getset_descriptor.__get__") (.builtin "object.__class__")):=zgg c.cd c.cl c.dg c.dt;refine bexc_get? XI I c.mb c.ga c.gn hf ?_;exact Ez (class_get (s:={s with toks:=s.toks+1}) (ox:=ox) (od:=od) XI I c.mo (handed_on rfl k))
end L2
namespace L2
open PySem PySem.Spec PyProof.Rows
theorem ze2:∀(names:List (Str×NameKind)) (cs:List (Str×Addr)),(∀x∈names,x.2=.free->∃c,env.cells.lookup x.1=some c)->(∀x c,cs.lookup x=some c->env.cells.lookup x=some c)->
  ∃cl,(forIn names cs λx r=>(do
    if x.2==.free then
     let a <-cellOf env x.1
     pure (ForInStep.yield ((x.1,a)::r))
    else pure (ForInStep.yield r)):Sem (List (Str×Addr)))=pure cl/\(∀x c,cl.lookup x=some c->env.cells.lookup x=some c)/\(∀x c,cs.lookup x=some c->cl.lookup x=some c)/\∀x∈names,x.2=.free->∃c,cl.lookup x.1=some c:=by
 intro names
 induction names with
 |nil=>intro cs _ h;exact⟨cs,rfl,h,λ_ _ q=>q,λx z=>nomatch z⟩
 |cons y r ih=>
  intro cs h1 h2;obtain⟨n,k⟩:=y;by_cases hk:k=.free
  ·subst hk;obtain⟨c,hc⟩:=h1 (n,.free) lQ rfl;have hc:env.cells.lookup n=some c:=hc;have h3:∀x d,((n,c)::cs).lookup x=some d->env.cells.lookup x=some d:=λx d q=>by
    rw[pK] at q;by_cases z:x=n
    ·subst z;simp at q;subst q;exact hc
    ·have z':(x==n)=false:=by simpa using z
     rw[z'] at q;exact h2 x d q
   obtain⟨cl,e,a,b,d⟩:=ih ((n,c)::cs) (λx z=>h1 x (iG _ z)) h3;have hco:cellOf env n=pure c:=by
    unfold cellOf;rw[hc]
   refine⟨cl,?_,a,λx q z=>?_,λx z q=>?_⟩
   ·rw[Eu];simp only[Em,if_true,hco];exact e
   ·by_cases y:x=n
    ·subst y;have z1:=h2 x q z;rw[hc] at z1;cases z1;exact b x c (by simp)
    ·have y':(x==n)=false:=by simpa using y
     exact b x q (by rw[pK,y'];exact z)
   ·rcases iY.mp z with z|z
    ·subst z;exact⟨c,b n c (by simp)⟩
    ·exact d x z q
  ·have hb:(k==NameKind.free)=false:=by simpa using hk
   obtain⟨cl,e,a,b,d⟩:=ih cs (λx z=>h1 x (iG _ z)) h2;refine⟨cl,?_,a,b,λx z q=>?_⟩
   ·rw[Eu];simp only[hb,rH,nY];exact e
   ·rcases iY.mp z with z|z
    ·subst z;exact absurd q hk
    ·exact d x z q
theorem zfn(h:∀x∈scope.names,x.2=.free->∃c,env.cells.lookup x.1=some c):∃cl,closureFor scope env=pure cl/\(∀x c,cl.lookup x=some c->env.cells.lookup x=some c)/\∀x∈scope.names,x.2=.free->∃c,cl.lookup x.1=some c:=by
 obtain⟨cl,e,a,_,d⟩:=ze2 scope.names [] h (λx c q=>by cases q);refine⟨cl,?_,a,d⟩;unfold closureFor;have e':=e;simp only[pure_bind,bind_pure] at e' ⊢;exact e'
theorem Rg{env:Env}{k:NameKind}:∀{names:List (Str×NameKind)} {x:Str},(names.map λ(n,k)=>if (k==NameKind.free&&env.scope.kind==.function&&env.kindOf n==some .cell) then (n,NameKind.cell) else (n,k)).lookup x=some k->
  names.lookup x=some k\/(k=.cell/\names.lookup x=some .free)
 |[],x,h=>by simp at h
 |(n,q)::r,x,h=>by
  rw[jo,pK] at h;rw[pK];have hd:∀c:Bool,(if c=true then (n,NameKind.cell) else (n,q)).1=n:=λc=>by cases c<;>rfl
  rw[hd] at h;by_cases z:x=n
  ·subst z;simp only[Em] at h ⊢;split at h
   ·rename_i y;simp only[fu,nW] at y;cases h;exact .inr ⟨rfl,by rw[y.1.1]⟩
   ·cases h;exact .inl rfl
  ·have z':(x==n)=false:=by simpa using z
   simp only[z'] at h ⊢;exact Rg h
theorem MP{env:Env}:∀{names:List (Str×NameKind)} {x:Str},names.lookup x=some .free->
  (names.map λ(n,k)=>if (k==NameKind.free&&env.scope.kind==.function&&env.kindOf n==some .cell) then (n,NameKind.cell) else (n,k)).lookup x=some .cell \/
  (names.map λ(n,k)=>if (k==NameKind.free&&env.scope.kind==.function&&env.kindOf n==some .cell) then (n,NameKind.cell) else (n,k)).lookup x=some .free
 |[],x,h=>by simp at h
 |(n,q)::r,x,h=>by
  rw[pK] at h;rw[jo,pK];have hd:∀c:Bool,(if c=true then (n,NameKind.cell) else (n,q)).1=n:=λc=>by cases c<;>rfl
  rw[hd];by_cases z:x=n
  ·subst z;simp only[Em] at h ⊢;cases h
   split
   ·exact .inl rfl
   ·exact .inr rfl
  ·have z':(x==n)=false:=by simpa using z
   simp only[z'] at h ⊢;exact MP h
structure oH(n:Nat)(h1:Heap)(names:List (Str×NameKind))(cl fO:List (Str×Addr)):Prop where
 d1:∀x c,fO.lookup x=some c->(cl.lookup x=some c/\(x,NameKind.cell)∉names)\/((x,NameKind.cell)∈names/\n<c/\h1.IsCell c none)
 d2:∀x y c,n<c->fO.lookup x=some c->fO.lookup y=some c->x=y
 d3:∀x,names.lookup x=some .cell->∃c,fO.lookup x=some c
 d4:∀x c,(x,NameKind.cell)∉names->cl.lookup x=some c->fO.lookup x=some c
theorem cc:(NameKind.cell==NameKind.cell)=true:=by decide
theorem Iz:∀(names:List (Str×NameKind)) (h:Heap) (b:Addr) (o:Obj),h.get? b=some o->(pushCells h names).get? b=some o
 |[],h,b,o,e=>e
 |(x,k)::r,h,b,o,e=>by
  rw[pushCells]
  split
  ·exact Iz r _ b o (cG _ e)
  ·exact Iz r h b o e
theorem Rh:∀(names:List (Str×NameKind)) (h:Heap) (acc:List (Str×Addr)) (x:Str) (c:Addr),(cellsFrom h.objs.size names acc).lookup x=some c->
  (acc.lookup x=some c/\(x,NameKind.cell)∉names)\/((x,NameKind.cell)∈names/\h.objs.size<=c/\(pushCells h names).IsCell c none)
 |[],h,acc,x,c,e=>.inl ⟨e,by simp⟩
 |(y,k)::r,h,acc,x,c,e=>by
  rw[cellsFrom] at e;rw[pushCells];by_cases hk:k=.cell
  ·subst hk;rw[if_pos cc] at e ⊢;have sz:(h.push {cls:=Value.type "cell",data:=Data.cell none}).objs.size=h.objs.size+1:=by unfold Heap.push;simp
   rw[<-sz] at e;rcases Rh r _ _ x c e with ⟨a,b⟩|⟨a,b,d⟩
   ·rw[pK] at a;by_cases z:x=y
    ·subst z;simp at a;subst a;exact .inr ⟨lQ,cD _,_,Iz r _ _ _ (eE _ rfl),rfl⟩
    ·have z':(x==y)=false:=by simpa using z
     rw[z'] at a;exact .inl ⟨a,by simp[z,b]⟩
   ·exact .inr ⟨iG _ a,by lia,d⟩
  ·have hb:(k==NameKind.cell)=false:=by simpa using hk
   rw[if_neg (by rw[hb];decide)] at e ⊢;rcases Rh r _ _ x c e with ⟨a,b⟩|⟨a,b,d⟩
   ·exact .inl ⟨a,by simp[b];intro _ q;exact hk q.symm⟩
   ·exact .inr ⟨iG _ a,b,d⟩
theorem Ri:∀(names:List (Str×NameKind)) (n:Nat) (acc:List (Str×Addr)) (x y:Str) (c:Addr),(∀u v,acc.lookup u=some c->acc.lookup v=some c->u=v)->(∀u a,acc.lookup u=some a->a<n\/a≠c)->(cellsFrom n names acc).lookup x=some c->(cellsFrom n names acc).lookup y=some c->x=y
 |[],n,acc,x,y,c,h,_,e1,e2=>h x y e1 e2
 |(z,k)::r,n,acc,x,y,c,h,hl,e1,e2=>by
  rw[cellsFrom] at e1 e2;by_cases hk:k=.cell
  ·subst hk;rw[if_pos cc] at e1 e2;refine Ri r (n+1) _ x y c (λu v a b=>?_) (λu a q=>?_) e1 e2
   ·rw[pK] at a b;by_cases u1:u=z
    ·by_cases v1:v=z
     ·rw[u1,v1]
     ·have v':(v==z)=false:=by simpa using v1
      subst u1;simp at a;rw[v'] at b;subst a;have b:acc.lookup v=some n:=b;rcases hl v n b with q|q
      ·exact absurd q (pN _)
      ·exact absurd rfl q
    ·have u':(u==z)=false:=by simpa using u1
     rw[u'] at a;have a:acc.lookup u=some c:=a;by_cases v1:v=z
     ·subst v1;simp at b;subst b;rcases hl u n a with q|q
      ·exact absurd q (pN _)
      ·exact absurd rfl q
     ·have v':(v==z)=false:=by simpa using v1
      rw[v'] at b;exact h u v a b
   ·rw[pK] at q;by_cases u1:u=z
    ·subst u1;simp at q;subst q;exact .inl (Aq _)
    ·have u':(u==z)=false:=by simpa using u1
     rw[u'] at q;exact(hl u a q).imp (λq=>qG q) id
  ·have hb:(k==NameKind.cell)=false:=by simpa using hk
   rw[if_neg (by rw[hb];decide)] at e1 e2;exact Ri r n acc x y c h hl e1 e2
theorem Rj:∀(names:List (Str×NameKind)) (n:Nat) (acc:List (Str×Addr)) (x:Str) (c:Addr),(x,NameKind.cell)∉names->acc.lookup x=some c->(cellsFrom n names acc).lookup x=some c
 |[],n,acc,x,c,_,e=>e
 |(z,k)::r,n,acc,x,c,h,e=>by
  rw[cellsFrom];have hr:(x,NameKind.cell)∉r:=λq=>h (iG _ q);by_cases hk:k=.cell
  ·subst hk;rw[if_pos cc];refine Rj r (n+1) _ x c hr ?_;have:x≠z:=λq=>h (by rw[q];exact lQ);have z':(x==z)=false:=by simpa using this
   rw[pK,z'];exact e
  ·have hb:(k==NameKind.cell)=false:=by simpa using hk
   rw[if_neg (by rw[hb];decide)];exact Rj r n acc x c hr e
theorem Rm:∀(names:List (Str×NameKind)) (acc:List (Str×Addr)) (s:Shared) (Q:List (Str×Addr)->Shared->Prop),
  Q (cellsFrom s.heap.objs.size names acc) {s with heap:=pushCells s.heap names}->
  wpAny M A (forIn names acc λx (cells:List (Str×Addr))=>match x with
   |(name,kind)=>if (kind==NameKind.cell)=true then do
     let a <-alloc {cls:=Value.type "cell",data:=Data.cell none}
     pure (ForInStep.yield ((name,a)::cells))
    else pure (ForInStep.yield cells)) Q E s
 |[],acc,s,Q,h=>by
  rw[LR];exact aM h
 |(z,k)::r,acc,s,Q,h=>by
  rw[Eu];rw[cellsFrom,pushCells] at h;by_cases hk:k=.cell
  ·subst hk;rw[if_pos cc,if_pos cc] at h;refine aB ?_;dsimp only;rw[if_pos cc];refine aB (wpAny_alloc (aM ?_));refine Rm r _ _ Q ?_;have sz:(s.heap.push {cls:=Value.type "cell",data:=Data.cell none}).objs.size=s.heap.objs.size+1:=by unfold Heap.push;simp
   rw[sz];exact h
  ·have hb:(k==NameKind.cell)=false:=by simpa using hk
   rw[if_neg (by rw[hb];decide),if_neg (by rw[hb];decide)] at h;refine aB ?_;dsimp only;rw[if_neg (by rw[hb];decide)];exact aM (Rm r _ _ Q h)
theorem Yy(old:∀x c,cl.lookup x=some c->c<s.heap.objs.size)(inj:∀x y c,cl.lookup x=some c->cl.lookup y=some c->x=y)
  (h:∀h1 fO,h1.Ns s.heap.objs.size (λ_=>none)->(∀b o,s.heap.get? b=some o->h1.get? b=some o)->oH s.heap.objs.size h1 scope.names cl fO->Q {scope:=scope,locals:=s.heap.objs.size,globals:=globals,cells:=fO,qual:=qual,func:=none,code:=env.code,frame:=env.frame,builtins:=env.builtins} {s with heap:=h1}) :
  wpAny M A (newFunctionEnv scope globals cl [] qual none .none (some env)) Q E s:=by
 unfold newFunctionEnv;refine aB (wpAny_alloc ?_);refine aB ?_;refine Rm scope.names cl _ _ ?_;dsimp only;rw[LR];refine aB (aM (aM ?_));have sz:(s.heap.push {cls:=Value.type (if (some env).isSome=true then "dict" else "frame"),data:=Data.dict #[]}).objs.size=s.heap.objs.size+1:=by unfold Heap.push;simp
 refine h _ _ ?_ (λb o e=>Iz _ _ _ _ (cG _ e)) ⟨λx c e=>?_,λx y c hc e1 e2=>?_,λx e=>?_,λx c hx e=>Rj _ _ _ x c hx e⟩
 ·refine⟨_,#[],_,Iz _ _ _ _ (eE _ rfl),rfl,?_,λ_=>rfl⟩;intro e he;simp at he
 ·rcases Rh _ _ _ x c e with ⟨a,b⟩|⟨a,b,d⟩
  ·exact .inl ⟨a,b⟩
  ·rw[sz] at b;exact .inr ⟨a,by lia,d⟩
 ·exact Ri _ _ _ x y c (λu v a b=>inj u v c a b) (λu a q=>.inl (by rw[sz];exact qG (old u a q))) e1 e2
 ·have:=Lg scope.names (s.heap.push {cls:=Value.type (if (some env).isSome=true then "dict" else "frame"),data:=Data.dict #[]}).objs.size cl (.inl e);exact O_.mp this
noncomputable def Cx.blk(X:Cx)(scope:Scope)(cl:List (Str×Addr))(N:List Str)(C:Addr)(s3:Shared)(H3:Hp)(fp:List Addr)(ao:List (Addr×Obj)):Cx where
 prog:=X.prog
 w:=X.w
 K:=X.K
 mg:=X.mg
 base:=X.base
 A:=X.A
 N:=N
 s₀:=s3
 H₀:=H3
 env:=compEnvC scope cl C X.env
 outer:=X.stack
 stack:=X.stack
 ex:=fp
 fn:=λx=>scope.names.lookup x==some .cell
 aj:=X.aj
 pn:=X.pn++ao
 xe:=λ_ _=>False
structure cV(sc scope:Scope):Prop where
 kind:scope.kind=.function
 Yz:∀y∈scope.names,y.2=.cell->scope.names.lookup y.1=some .cell
 free:∀y∈scope.names,y.2=.free->sc.names.lookup y.1=some .cell\/sc.names.lookup y.1=some .free
 loc:∀y∈scope.names,y.2=.local->scope.names.lookup y.1=some .local
section
variable {X:Cx}{ao:List (Addr×Obj)}{Z:St}{H:Hp}{s:Shared}{scope:Scope}{cl:List (Str×Addr)}{N:List Str}{fp:List Addr}{ZY:St}
theorem YB{h1:Heap}{t:Nat}{fO:List (Str×Addr)}(I:Inv X ao Z H s)(B:cV X.env.scope scope)(c1:∀x c,cl.lookup x=some c->X.env.cells.lookup x=some c)(c2:∀x∈scope.names,x.2=.free->∃c,cl.lookup x.1=some c)
  (f:∀b∈fp,fV X ao H b) (fo:∀b∈fp,∃o,s.heap.get? b=some o) (hn:h1.Ns s.heap.objs.size (λ_=>none)) (kp:∀b o,s.heap.get? b=some o->h1.get? b=some o) (CN:oH s.heap.objs.size h1 scope.names cl fO)
  (hl:ZY.length=N.length) (hZ:∀(i:Nat) (x:Str) (v:V),N[i]?=some x->ZY[i]?=some (some v)->scope.names.lookup x=some .free/\∃j:Nat,X.N[j]?=some x/\Z[j]?=some (some v)) :
  Inv (X.blk scope fO N s.heap.objs.size s H fp ao) [] ZY H {s with heap:=h1,toks:=t}:=by
 have lt:∀b o,s.heap.get? b=some o->b≠s.heap.objs.size:=λb o q=>c7 (bQ q);have YC:∀b,b≠X.env.locals->b∉X.fs->b∉frs X.stack:=λb a c z=>(iY.mp (I.jX b z)).elim a c;have mem_of:∀x k,scope.names.lookup x=some k->(x,k)∈scope.names:=λx k q=>Ef q;have old:∀x c,cl.lookup x=some c->c<s.heap.objs.size:=λx c q=>by
  obtain⟨v,o,q1,q2⟩:=I.cell x c (c1 x c q);exact bQ q1
 have YD:∀x,scope.names.lookup x=some .free->(x,NameKind.cell)∉scope.names:=λx q z=>by
  have:=B.Yz _ z rfl;have this:scope.names.lookup x=some .cell:=this;rw[q] at this;cases this
 refine⟨⟨I.ok.mod,B.kind,I.ok.glob,I.ok.blt,cD _,λx y c a b=>?_,λx hx=>?_,λx c z q=>?_,I.ok.hd,I.ok.frames,.inl rfl,λb hb=>?_,I.bs,jO I.ok.wX I.sz,λb o q hb=>?_,λb hb=>YC b (f b hb).2.1 (f b hb).2.2.1,I.stack,⟨I.mX,I.Bj⟩⟩,
  rfl,I.bare,Un.kept kp,⟨_,hn,λi x v e1 e2 e3=>?_⟩,λx c q=>?_,I.hok.fresh (cD _),λx c q=>?_,λp hp=>?_,I.hok.kept kp,hl⟩
 ·by_cases hc:s.heap.objs.size<c
  ·exact CN.d2 x y c hc a b
  ·rcases CN.d1 x c a with ⟨a1,_⟩|⟨_,a1,_⟩
   ·rcases CN.d1 y c b with ⟨b1,_⟩|⟨_,b1,_⟩
    ·exact I.ok.inj x y c (c1 x c a1) (c1 y c b1)
    ·exact absurd b1 hc
   ·exact absurd a1 hc
 ·have hx:(relabel scope X.env).names.lookup x=some .cell\/(relabel scope X.env).names.lookup x=some .free:=hx;have fr:scope.names.lookup x=some .cell\/scope.names.lookup x=some .free:=by
   rcases hx with hx|hx
   ·rcases Rg hx with z|⟨_,z⟩
    ·exact .inl z
    ·exact .inr z
   ·rcases Rg hx with z|⟨z,_⟩
    ·exact .inr z
    ·cases z
  rcases fr with fr|fr
  ·exact CN.d3 x fr
  ·obtain⟨c,hc⟩:=c2 (x,.free) (mem_of x _ fr) rfl;exact⟨c,CN.d4 x c (YD x fr) hc⟩
 ·rcases CN.d1 x c q with ⟨_,q1⟩|⟨_,q1,_⟩
  ·have z:(scope.names.lookup x==some NameKind.cell)=true:=z;exact absurd (mem_of x _ (by simpa using z)) q1
  ·exact rO q1
 ·obtain⟨o,q⟩:=fo b hb;refine⟨lt b o q,λx c z=>?_⟩;rcases CN.d1 x c z with ⟨q1,_⟩|⟨_,q1,_⟩
  ·exact(f b hb).2.2.2.2.1 x c (c1 x c q1)
  ·exact λe=>absurd (bQ q) (by rw[<-e];exact EY.mpr (rO q1))
 ·obtain⟨_,_,_,z,_⟩:=f b hb;rcases z with z|z
  ·exact I.ok.uo b o q z
  ·exact absurd (gb (bQ q) (jO I.ok.wX z)) (pN _)
 ·obtain⟨fr,j,hj,hv⟩:=hZ i x v e1 e2;have hk:=B.free (x,.free) (mem_of x _ fr) rfl;obtain⟨m,hm,hlk⟩:=I.loc;obtain⟨u,r,l⟩:=hlk j x v hj hv (hk.elim (λz=>.inr (.inl z)) λz=>.inr (.inr z));obtain⟨c',lG⟩:=c2 (x,.free) (mem_of x _ fr) rfl;have lG:cl.lookup x=some c':=lG;refine⟨u,r,.inr ⟨MP fr,c',CN.d4 x c' (YD x fr) lG,?_⟩⟩;rcases l with ⟨k1,_⟩|⟨_,c,k2,oc,k3,k4⟩
  ·have k1:X.env.scope.names.lookup x=some .local:=k1;rcases hk with hk|hk
   ·have hk:X.env.scope.names.lookup x=some .cell:=hk;rw[k1] at hk;cases hk
   ·have hk:X.env.scope.names.lookup x=some .free:=hk;rw[k1] at hk;cases hk
  ·have e:=c1 x c' lG;rw[k2] at e;cases e;exact⟨oc,kp _ oc k3,k4⟩
 ·rcases CN.d1 x c q with ⟨q1,_⟩|⟨_,_,q1⟩
  ·obtain⟨v,o,q1,q2⟩:=I.cell x c (c1 x c q1);exact⟨v,o,kp c o q1,q2⟩
  ·exact⟨none,q1⟩
 ·rcases CN.d1 x c q with ⟨q1,_⟩|⟨_,q1,_⟩
  ·exact I.gq x c (c1 x c q1)
  ·exact I.hok.fresh (rO q1)
 ·have hp:p∈X.pn++ao:=by
   have z:p∈(X.pn++ao)++[]:=hp;simpa using z
  obtain⟨a1,a2,a3,a4,a5⟩:=I.pin p hp;exact⟨kp _ _ a1,a2,lt _ _ a1,YC _ a3 a4,a5⟩
theorem YF(I:Inv X ao Z H s)(f:∀b∈fp,fV X ao H b)(bf:Inv (X.blk scope cl N s.heap.objs.size s H fp ao) [] Z' H' s'):Inv X ao Z H' s':=
 I.call' (ch:=fp) bf.os bf.base bf.hok bf.bare λb hb=>by
  obtain⟨_,a2,_,a4,a5,a6⟩:=f b hb;exact⟨a4.imp id λz=>DY z,a2,a5,a6⟩
theorem Rn{Z':St}{H':Hp}{s':Shared}{h2:Heap}{C:Addr}(bf:Inv X ao Z H' s')(hC:X.s₀.heap.objs.size<=C)(n1:H' C=none)(n2:C≠X.env.locals)(n3:∀x c,X.env.cells.lookup x=some c->c≠C)(n4:∀p∈X.pn++ao,p.1≠C)
  (sb:Heap.SameBut C s'.heap h2):Inv X ao Z H' {s' with heap:=h2}:=
 bf.turned (t':=s'.toks) (λb o z q=>(sb.2 b z).trans q) n1 n2 (.inr hC) n3 n4
end
noncomputable abbrev jQ(ifs:List Expr)(env:Env):Sem Bool:=forIn ifs true λc r=>if r=true then do let ok <-isTrue c env (eval c env);pure (ForInStep.yield ok) else pure (ForInStep.yield r)
theorem zgF{prog:Program}{w:World}{A:Around}{R:Result->Shared->Prop}{s:Shared}{elt target iter:Expr}{ifs:List Expr}{scope:Scope}{pos:Pos}{it acc:Value}{env:Env}(V:Nat->Shared->Prop)
  (turn:∀n s,V n s->wpAny (model prog w) A (pyNext it) (λr s₁=>match r with
   |none=>R (.ok .next) s₁
   |some v=>wpAny (model prog w) A (letOwnedTupleGo target it v) (λ_ s₂=>wpAny (model prog w) A (assign target env v) (λ_ s₃=>
     wpAny (model prog w) A (jQ ifs env) (λok s₄=>
      if ok=true then wpAny (model prog w) A (eval elt env) (λx s₅=>wpAny (model prog w) A (call (.builtin "list.append") [acc,x]) (λ_ s₆=>∃m,m<n/\V m s₆) (λ_ _=>False) s₅) (λ_ _=>False) s₄
      else ∃m,m<n/\V m s₄) (λ_ _=>False) s₃) (λ_ _=>False) s₂) (λ_ _=>False) s₁) (λ_ _=>False) s)
  (n:Nat) (h:V n s):codeAny (model prog w) A (.compLoop (.ListComp elt [⟨target,iter,ifs,0⟩] scope pos) 0 it acc env) R s:=by
 refine codeAny_loop rfl V (λn s hV=>?_) n h;show wpAny _ A ((compTurn (.ListComp elt [⟨target,iter,ifs,0⟩] scope pos) 0 it acc env).onRaise (λx=>do noteFrame x env;theTreesLotGoes x)) _ _ s;refine wpAny_noted ?_;rw[compTurn_list];refine aB (t_ (aB (gj (turn n s hV) (λr s₁ h₁=>?_) λ_ _ z=>z.elim)));cases r with
 |none=>exact aM h₁
 |some v=>
  refine aB (gj h₁ (λ_ s₂ h₂=>?_) λ_ _ z=>z.elim);refine aB (gj h₂ (λ_ s₃ h₃=>aB (gj h₃ (λok s₄ h₄=>?_) λ_ _ z=>z.elim)) λ_ _ z=>z.elim);cases ok with
  |true=>
   simp only[if_true] at h₄ ⊢;exact aB (aB (gj h₄ (λx s₅ h₅=>aB (gj h₅ (λ_ s₆ h₆=>aM (aM ⟨rfl,h₆⟩)) λ_ _ z=>z.elim)) λ_ _ z=>z.elim))
  |false=>
   simp only[rH,nY] at h₄ ⊢;exact aM ⟨rfl,h₄⟩
def Fq(X:Cx)(ifs:List Expr)(t:TT):Prop:=
 ∀(ao:List (Addr×Obj)) (s:Shared) (Z:St) (H:Hp) (Q:Bool->Hp->Prop),Inv X ao Z H s->t Z H Q->wpAny (model X.prog X.w) X.A (jQ ifs X.env) (TP X ao Z Q) X.xe s
noncomputable def Ro:TT:=λ_ H Q=>Q true H
theorem zj0:Fq X [] Ro:=λ_ _ _ H _ I h=>wpAny_tests_nil ⟨H,I,h⟩
theorem zkc(h:PT X c t):Fq X [c] t:=λao s Z H Q I hq=>wpAny_tests_one (h ao s Z H Q I hq)
def IK(ZY:St->St)(g:TG)(tt:TT)(te:TE)(bf:It)(Z:St)(H:Hp)(Q:VK):Prop:=∀D,H D=none->∃W:Nat->Nat->St->Hp->Prop,(∃m,W 0 m (ZY Z) (upd H D (.lst [])))/\∀i m Z' H',W i m Z' H'->
 (bf.stop i H'/\Q (.ref D) H')\/(bf.go i H'/\∃N:St->Hp->Prop,(∀Z2 H2,N Z2 H2->∃m',m'<m/\W (i+1) m' Z2 H2)/\∀x H2,bf.ux i H' x H2->g x Z' H2 λZ3 H3=>tt Z3 H3 λok H4=>
  if ok=true then te Z3 H4 λy H5=>∃ys,H5 D=some (.lst ys)/\ys.length<sizeLine/\N Z3 (upd H5 D (.lst (ys++[y]))) else N Z3 H4)
section
variable {X:Cx}{elt tg iter:Expr}{ifs:List Expr}{scope:Scope}{pos:Pos}{N:List Str}{ZY:St->St}{wi:TI}{g:TG}{tt:TT}{te:TE}
structure Parts(X:Cx)(elt tg:Expr)(ifs:List Expr)(scope:Scope)(N:List Str)(g:TG)(tt:TT)(te:TE):Prop where
 tgt:∀cl C s3 H3 fp ao,PG (X.blk scope cl N C s3 H3 fp ao) tg g
 IV:∀cl C s3 H3 fp ao,Fq (X.blk scope cl N C s3 H3 fp ao) ifs tt
 el:∀cl C s3 H3 fp ao,PE (X.blk scope cl N C s3 H3 fp ao) elt te
theorem YG(hc:X.aj=true)(B:cV X.env.scope scope)(P:Parts X elt tg ifs scope N g tt te)(hl:∀Z,(ZY Z).length=N.length)
  (hZ:∀(Z:St) (i:Nat) (x:Str) (v:V),N[i]?=some x->(ZY Z)[i]?=some (some v)->scope.names.lookup x=some .free/\∃j:Nat,X.N[j]?=some x/\Z[j]?=some (some v))
  {ao:List (Addr×Obj)} {s:Shared} {Z:St} {H:Hp} {Q:VK} {it:Addr} {fp:List Addr} {tn:Nat->Heap->Prop} {bf:It} (I:Inv X ao Z H s) (T:Turn X.prog X.w X.K tg bf fp it tn) (st:tn 0 s.heap) (f:∀b∈fp,fV X ao H b) (h:IK ZY g tt te bf Z H Q)
  {cl:List (Str×Addr)} (c1:∀x c,cl.lookup x=some c->X.env.cells.lookup x=some c) (c2:∀x∈scope.names,x.2=.free->∃c,cl.lookup x.1=some c) {R:Value->Addr->Result->Shared->Prop} {E:Value->Shared->Prop}
  (k:∀D C s' H',Inv X ao Z H' s'->X.s₀.heap.objs.size<=C->H' C=none->C≠X.env.locals->(∀x c,X.env.cells.lookup x=some c->c≠C)->(∀p∈X.pn++ao,p.1≠C)->(∃m,s'.heap.Ns C m)->Q (.ref D) H'->R (.ref D) C (.ok .next) s') :
  wpAny (model X.prog X.w) X.A (newList []) (λacc s₃=>wpAny (model X.prog X.w) X.A (newFunctionEnv scope X.env.globals cl [] X.env.qual none .none (some X.env)) (λcenv s₄=>
   codeAny (model X.prog X.w) X.A (.compStart (.ListComp elt [⟨tg,iter,ifs,0⟩] scope pos) 0 (.ref it) acc {cenv with scope:=relabel scope X.env}) (R acc cenv.locals) s₄) E s₃) E s:=by
 refine pD ?_;have hD:H s.heap.objs.size=none:=I.hok.fresh (cD _);have I3:Inv X ao Z (upd H s.heap.objs.size (.lst [])) {s with heap:=s.heap.push {cls:=.type "list",dict:=none,data:=.seq ([]:List Value).toArray}}:=
  I.laid (t':=s.toks) (λb u q=>cG _ q) (cD _) ⟨rP _,[],0,.nil,eE _ rfl⟩
 have f3:∀b∈fp,fV X ao (upd H s.heap.objs.size (.lst [])) b:=λb hb=>by
  obtain⟨a1,a2⟩:=f b hb;obtain⟨o,q,_⟩:=T.obj 0 _ st b hb;exact⟨by rw[bZ (c7 (bQ q))];exact a1,a2⟩
 have st3:tn 0 (s.heap.push {cls:=.type "list",dict:=none,data:=.seq ([]:List Value).toArray}):=T.keep _ _ _ st λb hb o q=>cG _ q;obtain⟨W,⟨m0,w0⟩,turn⟩:=h s.heap.objs.size hD;generalize Rp:({s with heap:=s.heap.push {cls:=.type "list",dict:=none,data:=.seq ([]:List Value).toArray}}:Shared)=s3 at *;have p8:tn 0 s3.heap:=by rw[<-Rp];exact st3
 generalize hH3:upd H s.heap.objs.size (.lst [])=H3 at *;refine Yy (λx c q=>by obtain⟨v,o,q1,_⟩:=I3.cell x c (c1 x c q);exact bQ q1) (λx y c a b=>I3.ok.inj x y c (c1 x c a) (c1 y c b)) λh1 fO hn kp CN=>?_;have B_:Inv (X.blk scope fO N s3.heap.objs.size s3 H3 fp ao) [] (ZY Z) H3 {s3 with heap:=h1}:=
  YB (t:=s3.toks) I3 B c1 c2 f3 (λb hb=>let ⟨o,q,_⟩:=T.obj 0 _ p8 b hb;⟨o,q⟩) hn kp CN (hl Z) (hZ Z)
 have IW:tn 0 h1:=T.keep _ _ _ p8 λb hb o q=>kp b o q;have fY:∀{H':Hp},(∀b∈fp,H' b=none)->∀b∈fp,fV (X.blk scope fO N s3.heap.objs.size s3 H3 fp ao) [] H' b:=λ{H'} z b hb=>by
  obtain⟨a1,a2,a3,a4,a5,a6⟩:=f3 b hb;obtain⟨o,q,_⟩:=T.obj 0 _ p8 b hb;refine⟨z b hb,c7 (bQ q),λy=>(iY.mp (I3.jX b y)).elim a2 a3,.inl hb,λx c y=>?_,λp hp=>a6 p ?_⟩
  ·rcases CN.d1 x c y with ⟨q1,_⟩|⟨_,q1,_⟩
   ·exact a5 x c (c1 x c q1)
   ·exact λe=>absurd (bQ q) (by rw[<-e];exact EY.mpr (rO q1))
  have y:p∈(X.pn++ao)++[]:=hp;simpa using y
 have loop:codeAny (model X.prog X.w) X.A (.compLoop (.ListComp elt [⟨tg,iter,ifs,0⟩] scope pos) 0 (.ref it) (.ref s.heap.objs.size) (compEnvC scope fO s3.heap.objs.size X.env)) (R (.ref s.heap.objs.size) s3.heap.objs.size) {s3 with heap:=h1}:=by
  refine zgF (λn s'=>∃i Z' H',Inv (X.blk scope fO N s3.heap.objs.size s3 H3 fp ao) [] Z' H' s'/\tn i s'.heap/\(∀b∈fp,H' b=none)/\W i n Z' H') ?_ m0 ⟨0,ZY Z,H3,B_,IW,λb hb=>(f3 b hb).1,w0⟩;rintro n s5 ⟨i,Z5,H5,jF,tQ,vV,w5⟩;rcases turn i n Z5 H5 w5 with ⟨stop,q⟩|⟨go,Nx,hN,step⟩
  ·refine aV (T.done (X.blk scope fO N s3.heap.objs.size s3 H3 fp ao) rfl rfl rfl hc i [] s5 Z5 H5 _ jF (fY vV) tQ stop) λr s6 ⟨hr,m5⟩=>?_;subst hr;have JX:=YF I3 f3 m5;refine k s.heap.objs.size s3.heap.objs.size s6 H5 JX I3.sz m5.free (pO I3.lt) (λx c y z=>?_) (λp hp z=>?_) ?_ q
   ·obtain⟨v,qc⟩:=I3.cell x c y;exact absurd qc.lt (by rw[z];exact pN _)
   ·exact absurd (bQ (I3.pin p hp).1) (by rw[z];exact pN _)
   ·obtain⟨m,hm,_⟩:=m5.loc;exact⟨m,hm⟩
  ·refine aV (T.item (X.blk scope fO N s3.heap.objs.size s3 H3 fp ao) rfl rfl rfl hc i [] s5 Z5 H5 _ jF (fY vV) tQ go) λr s6 hx=>vR hx λu hr h6=>?_;subst hr;refine aV h6 λ_ s7 ⟨x,H7,uF,r7,y7,uG,I8⟩=>?_;have oJ:=uF.pinned (fY I8) (T.obj _ _ uG);refine aV (P.tgt fO s3.heap.objs.size s3 H3 fp ao _ s7 Z5 H7 x u _ oJ r7 (step x H7 y7)) λ_ s8 ⟨Z8,H8,uH,q8⟩=>?_;refine aV (P.IV fO s3.heap.objs.size s3 H3 fp ao _ s8 Z8 H8 _ uH q8) λok s9 hx=>vR hx λH9 uI q9=>?_;have again:∀{H':Hp} {s':Shared},Inv (X.blk scope fO N s3.heap.objs.size s3 H3 fp ao) ([]++je fp s7.heap) Z8 H' s'->Nx Z8 H'->∃m,m<n/\∃i Z' H',Inv (X.blk scope fO N s3.heap.objs.size s3 H3 fp ao) [] Z' H' s'/\tn i s'.heap/\(∀b∈fp,H' b=none)/\W i m Z' H':=λ{H' s'} gA n'=>by
    obtain⟨m',hm,w'⟩:=hN Z8 H' n';refine⟨m',hm,i+1,Z8,H',gA.cH,T.keep _ _ _ uG λb hb o e=>(gA.pin (b,o) (k_ _ (k_ _ (zE hb e)))).1,λb hb=>?_,w'⟩;obtain⟨o,e,d⟩:=T.obj _ _ uG b hb;exact(gA.pin (b,o) (k_ _ (k_ _ (zE hb e)))).2.1
   cases ok with
   |false=>
    rw[if_neg (by decide)] at q9 ⊢;exact again uI q9
   |true=>
    rw[if_pos rfl] at q9 ⊢;refine aV (P.el fO s3.heap.objs.size s3 H3 fp ao _ s9 Z8 H9 _ uI q9) λv M4 ⟨y,Rq,uJ,r10,ys,Ca,hz,Rr⟩=>?_;refine aV (Q9 (X:=(X.blk scope fO N s3.heap.objs.size s3 H3 fp ao)) _ M4 Z8 Rq (.ref s.heap.objs.size) [y] (.ref s.heap.objs.size) [v] (λ_ H'=>Nx Z8 H') uJ rfl (.cons r10 .nil) ⟨s.heap.objs.size,ys,y,rfl,rfl,Ca,hz,Rr⟩) λ_ YH hx=>fH hx λ_ YJ oM _ Rt=>again oM Rt
 exact codeAny_compStart_list loop (T.self _ 0 _ _ _ IW loop)
end
noncomputable def uK(wi:TI)(ZY:St->St)(g:TG)(tt:TT)(te:TE):TE:=λZ H Q=>wi Z H λbf H1=>IK ZY g tt te bf Z H1 Q
section
variable {X:Cx}{elt tg iter:Expr}{ifs:List Expr}{scope:Scope}{pos spos py:Pos}{N:List Str}{ZY:St->St}{wi:TI}{g:TG}{tt:TT}{te:TE}{i:Nat}{y:Str}
theorem Ru(I:Inv X ao Z H s)(B:cV X.env.scope scope):∃cl,closureFor scope X.env=pure cl/\(∀x c,cl.lookup x=some c->X.env.cells.lookup x=some c)/\∀x∈scope.names,x.2=.free->∃c,cl.lookup x.1=some c:=
 zfn λx hx hf=>I.ok.has x.1 (B.free x hx hf)
theorem zi5(hc:X.aj=true)(B:cV X.env.scope scope)(hi:PI X tg iter wi)(P:Parts X elt tg ifs scope N g tt te)(hl:∀Z,(ZY Z).length=N.length)
  (hZ:∀(Z:St) (i:Nat) (x:Str) (v:V),N[i]?=some x->(ZY Z)[i]?=some (some v)->scope.names.lookup x=some .free/\∃j:Nat,X.N[j]?=some x/\Z[j]?=some (some v))
  (hs:∀x,foldedSetIterable iter X.env x=pure x:=by intro _;rfl):PE X (.ListComp elt [⟨tg,iter,ifs,0⟩] scope pos) (uK wi ZY g tt te):=by
 intro ao s Z H Q I h;obtain⟨cl,qb,c1,c2⟩:=Ru I B;rw[eval_ListComp];refine Pb (use:=none) rfl hs qb B.kind B.loc (aV (hi ao s Z H _ I h) λxv s1 h1=>aV h1 λitv s2 h2=>?_);obtain⟨it,fp,tn,bf,H2,e,I2,T,st2,f2,hq⟩:=h2;subst e;exact YG hc B P hl hZ I2 T st2 f2 hq c1 c2 (R:=λacc C=>compPost (model X.prog X.w) X.A X.xe none (EP X ao Z Q) acc C) λD C s' H' gA a b c d e ⟨m,hm⟩ q=>⟨m,hm,λh' sb=>⟨.ref D,H',Rn (Z':=Z) gA a b c d e sb,rfl,q⟩⟩
theorem zfi(hc:X.aj=true)(hN:X.N.Nodup)(sE:X.N[i]?=some y)(hx:Loc X.env.scope y)(hf:X.fn y=true\/X.env.scope.names.lookup y=some .local)(B:cV X.env.scope scope)(hi:PI X tg iter wi)(P:Parts X elt tg ifs scope N g tt te)(hl:∀Z,(ZY Z).length=N.length)
  (hZ:∀(Z:St) (i:Nat) (x:Str) (v:V),N[i]?=some x->(ZY Z)[i]?=some (some v)->scope.names.lookup x=some .free/\∃j:Nat,X.N[j]?=some x/\Z[j]?=some (some v))
  (uL:swapsWith (.ListComp elt [⟨tg,iter,ifs,0⟩] scope pos) (some (.Name y py)) spos.line X.env=pure true) (hs:∀x,foldedSetIterable iter X.env x=pure x:=by intro _;rfl) :
  PS X (.Assign [.Name y py] (.ListComp elt [⟨tg,iter,ifs,0⟩] scope pos) spos) (w6 (uK wi ZY g tt te) (dW i)):=by
 intro ao s Z H D I h;obtain⟨cl,qb,c1,c2⟩:=Ru I B;rw[exec_Assign_Name_used _ _ _ _ uL];refine aB (t_ (aB ?_));show wpAny _ X.A (do let _ <-comprehension (.ListComp elt [⟨tg,iter,ifs,0⟩] scope pos) scope X.env _ (newList []) false (eval iter X.env) (some (assign (.Name y py) X.env))) _ _ s;refine aB (Pb (use:=some (assign (.Name y py) X.env)) rfl hs qb B.kind B.loc (aV (hi ao s Z H _ I h) λxv s1 h1=>aV h1 λitv s2 h2=>?_));obtain⟨it,fp,tn,bf,H2,e,I2,T,st2,f2,hq⟩:=h2;subst e;refine YG hc B P hl hZ I2 T st2 f2 hq c1 c2 (R:=λacc C=>compPost (model X.prog X.w) X.A X.xe (some (assign (.Name y py) X.env)) _ acc C) λD' C s' H' gA a b c d e ⟨m,hm⟩ q=>?_;show wpAny _ _ (assign (.Name y py) X.env (.ref D')) _ _ s';refine wpAny_assign_Name (Qf (v:=.ref D') gA hN sE hx rfl (λs5 jF ⟨ad,sb,Rw⟩=>?_) hf);have nC:C≠ad:=by
  rcases Rw with z|z
  ·rw[z];exact c
  ·exact(d y ad z).symm
 obtain⟨ol,es,ep,e1,r1⟩:=hm;refine⟨m,⟨ol,es,ep,(sb.2 C nC).trans e1,r1⟩,λh' Rx=>aM (aM ⟨_,H',Rn (Z':=Z) jF a b c d e Rx,q⟩)⟩
end
theorem zdY(elt target iter:Expr)(ifs:List Expr)(g₁:Comprehension)(scope:Scope)(pos:Pos)(it acc:Value)(env:Env) :
  compTurn (.ListComp elt [g₁,⟨target,iter,ifs,0⟩] scope pos) 1 it acc env=(do
   standAt iter.pos
   match <-pyNext it with
   |none=>pure (.done .next)
   |some v=>
    letOwnedTupleGo target it v
    assign target env v
    let mut ok:=true
    for c in ifs do
     if ok then ok <-isTrue c env (eval c env)
    if ok then
     (do let _ <-call (.builtin "list.append") [acc,<-eval elt env])
    again (.compLoop (.ListComp elt [g₁,⟨target,iter,ifs,0⟩] scope pos) 1 it acc env)):=by rfl
theorem zdx(elt target iter target₂ iter₂:Expr)(ifs ifs₂:List Expr)(scope:Scope)(pos:Pos)(it acc:Value)(env:Env) :
  compTurn (.ListComp elt [⟨target,iter,ifs,0⟩,⟨target₂,iter₂,ifs₂,0⟩] scope pos) 0 it acc env=(do
   standAt iter.pos
   match <-pyNext it with
   |none=>pure (.done .next)
   |some v=>
    letOwnedTupleGo target it v
    assign target env v
    let mut ok:=true
    for c in ifs do
     if ok then ok <-isTrue c env (eval c env)
    if ok then
     let x <-eval iter₂ env
     standAt iter₂.pos
     let x <-foldedSetIterable iter₂ env x
     let _ <-runOwn (.compStart (.ListComp elt [⟨target,iter,ifs,0⟩,⟨target₂,iter₂,ifs₂,0⟩] scope pos) 1 (<-holding [x] (pyIter x)) acc env) env
     again (.compLoop (.ListComp elt [⟨target,iter,ifs,0⟩,⟨target₂,iter₂,ifs₂,0⟩] scope pos) 0 it acc env)
    else
     again (.compLoop (.ListComp elt [⟨target,iter,ifs,0⟩,⟨target₂,iter₂,ifs₂,0⟩] scope pos) 0 it acc env)):=by rfl
theorem zi9(V:Nat->Shared->Prop)
  (turn:∀n s,V n s->wpAny (model prog w) A (pyNext it) (λr s₁=>match r with
   |none=>R (.ok .next) s₁
   |some v=>wpAny (model prog w) A (letOwnedTupleGo target it v) (λ_ s₂=>wpAny (model prog w) A (assign target env v) (λ_ s₃=>
     wpAny (model prog w) A (jQ ifs env) (λok s₄=>
      if ok=true then wpAny (model prog w) A (eval elt env) (λx s₅=>wpAny (model prog w) A (call (.builtin "list.append") [acc,x]) (λ_ s₆=>∃m,m<n/\V m s₆) (λ_ _=>False) s₅) (λ_ _=>False) s₄
      else ∃m,m<n/\V m s₄) (λ_ _=>False) s₃) (λ_ _=>False) s₂) (λ_ _=>False) s₁) (λ_ _=>False) s)
  (n:Nat) (h:V n s):codeAny (model prog w) A (.compLoop (.ListComp elt [g₁,⟨target,iter,ifs,0⟩] scope pos) 1 it acc env) R s:=by
 refine codeAny_loop rfl V (λn s hV=>?_) n h;show wpAny _ A ((compTurn (.ListComp elt [g₁,⟨target,iter,ifs,0⟩] scope pos) 1 it acc env).onRaise (λx=>do noteFrame x env;theTreesLotGoes x)) _ _ s;refine wpAny_noted ?_;rw[zdY];refine aB (t_ (aB (gj (turn n s hV) (λr s₁ h₁=>?_) λ_ _ z=>z.elim)));cases r with
 |none=>exact aM h₁
 |some v=>
  refine aB (gj h₁ (λ_ s₂ h₂=>?_) λ_ _ z=>z.elim);refine aB (gj h₂ (λ_ s₃ h₃=>aB (gj h₃ (λok s₄ h₄=>?_) λ_ _ z=>z.elim)) λ_ _ z=>z.elim);cases ok with
  |true=>
   simp only[if_true] at h₄ ⊢;exact aB (aB (gj h₄ (λx s₅ h₅=>aB (gj h₅ (λ_ s₆ h₆=>aM (aM ⟨rfl,h₆⟩)) λ_ _ z=>z.elim)) λ_ _ z=>z.elim))
  |false=>
   simp only[rH,nY] at h₄ ⊢;exact aM ⟨rfl,h₄⟩
theorem zhL{prog:Program}{w:World}{A:Around}{R:Result->Shared->Prop}{s:Shared}{elt target iter target₂ iter₂:Expr}{ifs ifs₂:List Expr}{scope:Scope}{pos:Pos}{it acc:Value}{env:Env}(V:Nat->Shared->Prop)(hs:∀x,foldedSetIterable iter₂ env x=pure x)
  (turn:∀n s,V n s->wpAny (model prog w) A (pyNext it) (λr s₁=>match r with
   |none=>R (.ok .next) s₁
   |some v=>wpAny (model prog w) A (letOwnedTupleGo target it v) (λ_ s₂=>wpAny (model prog w) A (assign target env v) (λ_ s₃=>
     wpAny (model prog w) A (jQ ifs env) (λok s₄=>
      if ok=true then wpAny (model prog w) A (eval iter₂ env) (λx s₅=>wpAny (model prog w) A (pyIter x) (λit₂ s₆=>codeAny (model prog w) A (.compStart (.ListComp elt [⟨target,iter,ifs,0⟩,⟨target₂,iter₂,ifs₂,0⟩] scope pos) 1 it₂ acc env) (λr s₇=>r=.ok .next/\∃m,m<n/\V m s₇) s₆) (λ_ _=>False) s₅) (λ_ _=>False) s₄
      else ∃m,m<n/\V m s₄) (λ_ _=>False) s₃) (λ_ _=>False) s₂) (λ_ _=>False) s₁) (λ_ _=>False) s)
  (n:Nat) (h:V n s):codeAny (model prog w) A (.compLoop (.ListComp elt [⟨target,iter,ifs,0⟩,⟨target₂,iter₂,ifs₂,0⟩] scope pos) 0 it acc env) R s:=by
 refine codeAny_loop rfl V (λn s hV=>?_) n h;show wpAny _ A ((compTurn (.ListComp elt [⟨target,iter,ifs,0⟩,⟨target₂,iter₂,ifs₂,0⟩] scope pos) 0 it acc env).onRaise (λx=>do noteFrame x env;theTreesLotGoes x)) _ _ s;refine wpAny_noted ?_;rw[zdx];refine aB (t_ (aB (gj (turn n s hV) (λr s₁ h₁=>?_) λ_ _ z=>z.elim)));cases r with
 |none=>exact aM h₁
 |some v=>
  refine aB (gj h₁ (λ_ s₂ h₂=>?_) λ_ _ z=>z.elim);refine aB (gj h₂ (λ_ s₃ h₃=>aB (gj h₃ (λok s₄ h₄=>?_) λ_ _ z=>z.elim)) λ_ _ z=>z.elim);cases ok with
  |true=>
   simp only[if_true] at h₄ ⊢;refine aB (gj h₄ (λx s₅ h₅=>aB (t_ (aB (Ey (hs x) (aB (pF (gj h₅ (λit₂ s₆ h₆=>aB (wpAny_runOwn (zc h₆ λr s₇ h₇=>?_))) λ_ _ z=>z.elim))))))) λ_ _ z=>z.elim);obtain⟨rfl,h₇⟩:=h₇;exact aM ⟨rfl,h₇⟩
  |false=>
   simp only[rH,nY] at h₄ ⊢;exact aM ⟨rfl,h₄⟩
theorem za1
  (h0:codeAny (model prog w) A (.compLoop (.ListComp elt [g₁,⟨target,iter,ifs,0⟩] scope pos) 1 it acc env) R s)
  (h:wpAny (model prog w) A (pyIter it) (λit' s'=>codeAny (model prog w) A (.compLoop (.ListComp elt [g₁,⟨target,iter,ifs,0⟩] scope pos) 1 it' acc env) R s') (λ_ _=>False) s) :
  codeAny (model prog w) A (.compStart (.ListComp elt [g₁,⟨target,iter,ifs,0⟩] scope pos) 1 it acc env) R s:=by
 refine codeAny_of_tree ?_;show wpAny _ _ ((compStart (.ListComp elt [g₁,⟨target,iter,ifs,0⟩] scope pos) 1 it acc env).onRaise (λx=>do noteFrame x env;standAt theWindowsPlace)) _ _ s;refine wpAny_notedAt ?_;unfold compStart;show wpAny _ _ (ask >>= _) _ _ s;refine aB (wpAny_askSetting (wpAny_ite ?_))
 split
 ·first
   |exact aB (aM (aM (And.intro rfl h0)))
   |exact aM (And.intro rfl h0)
 ·first
   |exact aB (zm (aB (t_ (aB (gj h (λit' s' h'=>aM (And.intro rfl h')) λ_ _ x=>x.elim)))))
   |(refine aB (zm ?_);show wpAny _ _ (standAt iter.pos >>= _) _ _ s;exact aB (t_ (aB (gj h (λit' s' h'=>aM (And.intro rfl h')) λ_ _ x=>x.elim))))
def Ry(g:TG)(tt:TT)(te:TE)(D:Addr)(bf:It)(Z:St)(H:Hp)(Nx:St->Hp->Prop):Prop:=∃W:Nat->Nat->St->Hp->Prop,(∃m,W 0 m Z H)/\∀i m Z' H',W i m Z' H'->
 (bf.stop i H'/\Nx Z' H')\/(bf.go i H'/\∃N:St->Hp->Prop,(∀Z2 H2,N Z2 H2->∃m',m'<m/\W (i+1) m' Z2 H2)/\∀x H2,bf.ux i H' x H2->g x Z' H2 λZ3 H3=>tt Z3 H3 λok H4=>
  if ok=true then te Z3 H4 λy H5=>∃ys,H5 D=some (.lst ys)/\ys.length<sizeLine/\N Z3 (upd H5 D (.lst (ys++[y]))) else N Z3 H4)
theorem zjJ{Y:Cx}{elt tg iter:Expr}{ifs:List Expr}{g₁:Comprehension}{scope:Scope}{pos:Pos}{g:TG}{tt:TT}{te:TE}(hc:Y.aj=true)(M5:Y.xe=λ_ _=>False)(tgt:PG Y tg g)(IV:Fq Y ifs tt)(el:PE Y elt te)
  {ao:List (Addr×Obj)} {s:Shared} {Z:St} {H:Hp} {D it:Addr} {fp:List Addr} {tn:Nat->Heap->Prop} {bf:It} {Nx:St->Hp->Prop} (I:Inv Y ao Z H s) (T:Turn Y.prog Y.w Y.K tg bf fp it tn) (st:tn 0 s.heap) (f:∀b∈fp,fV Y ao H b) (h:Ry g tt te D bf Z H Nx)
  {R:Result->Shared->Prop} (k:∀s' Z' H',Inv Y ao Z' H' s'->Nx Z' H'->R (.ok .next) s') :
  codeAny (model Y.prog Y.w) Y.A (.compStart (.ListComp elt [g₁,⟨tg,iter,ifs,0⟩] scope pos) 1 (.ref it) (.ref D) Y.env) R s:=by
 obtain⟨W,⟨m0,w0⟩,turn⟩:=h;have fY:∀{H':Hp},(∀b∈fp,H' b=none)->∀b∈fp,fV Y ao H' b:=λ{H'} z b hb=>⟨z b hb,(f b hb).2⟩;have loop:codeAny (model Y.prog Y.w) Y.A (.compLoop (.ListComp elt [g₁,⟨tg,iter,ifs,0⟩] scope pos) 1 (.ref it) (.ref D) Y.env) R s:=by
  refine zi9 (λn s'=>∃i Z' H',Inv Y ao Z' H' s'/\tn i s'.heap/\(∀b∈fp,H' b=none)/\W i n Z' H') ?_ m0 ⟨0,Z,H,I,st,λb hb=>(f b hb).1,w0⟩;rintro n s5 ⟨i,Z5,H5,jF,tQ,vV,w5⟩;rcases turn i n Z5 H5 w5 with ⟨stop,q⟩|⟨go,Nn,hN,step⟩
  ·refine aV (T.done Y rfl rfl rfl hc i ao s5 Z5 H5 _ jF (fY vV) tQ stop) λr s6 ⟨hr,m5⟩=>?_;subst hr;exact k s6 Z5 H5 m5 q
  ·refine aV (T.item Y rfl rfl rfl hc i ao s5 Z5 H5 _ jF (fY vV) tQ go) λr s6 ⟨u,hr,h6⟩=>?_;subst hr;refine aV h6 λ_ s7 ⟨x,H7,uF,r7,y7,uG,I8⟩=>?_;have oJ:=uF.pinned (fY I8) (T.obj _ _ uG);have a1:=tgt _ s7 Z5 H7 x u _ oJ r7 (step x H7 y7);rw[M5] at a1;refine aV a1 λ_ s8 ⟨Z8,H8,uH,q8⟩=>?_;have a2:=IV _ s8 Z8 H8 _ uH q8;rw[M5] at a2;refine aV a2 λok s9 ⟨H9,uI,q9⟩=>?_;have again:∀{H':Hp} {s':Shared},Inv Y (ao++je fp s7.heap) Z8 H' s'->Nn Z8 H'->∃m,m<n/\∃i Z' H',Inv Y ao Z' H' s'/\tn i s'.heap/\(∀b∈fp,H' b=none)/\W i m Z' H':=λ{H' s'} gA n'=>by
    obtain⟨m',hm,w'⟩:=hN Z8 H' n';refine⟨m',hm,i+1,Z8,H',gA.cH,T.keep _ _ _ uG λb hb o e=>(gA.pin (b,o) (k_ _ (k_ _ (zE hb e)))).1,λb hb=>?_,w'⟩;obtain⟨o,e,d⟩:=T.obj _ _ uG b hb;exact(gA.pin (b,o) (k_ _ (k_ _ (zE hb e)))).2.1
   cases ok with
   |false=>
    rw[if_neg (by decide)] at q9 ⊢;exact again uI q9
   |true=>
    rw[if_pos rfl] at q9 ⊢;have a3:=el _ s9 Z8 H9 _ uI q9;rw[M5] at a3;refine aV a3 λv M4 ⟨y,Rq,uJ,r10,ys,Ca,hz,Rr⟩=>?_;have a4:=Q9 (X:=Y) _ M4 Z8 Rq (.ref D) [y] (.ref D) [v] (λ_ H'=>Nn Z8 H') uJ rfl (.cons r10 .nil) ⟨D,ys,y,rfl,rfl,Ca,hz,Rr⟩;rw[M5] at a4;exact aV a4 λ_ YH ⟨_,YJ,oM,_,Rt⟩=>again oM Rt
 exact za1 loop (T.self _ 0 _ _ _ st loop)
def zG(ZY:St->St)(g₁:TG)(wi₂:TI)(g:TG)(tt:TT)(te:TE)(bf:It)(Z:St)(H:Hp)(Q:VK):Prop:=∀D,H D=none->∃W:Nat->Nat->St->Hp->Prop,(∃m,W 0 m (ZY Z) (upd H D (.lst [])))/\∀i m Z' H',W i m Z' H'->
 (bf.stop i H'/\Q (.ref D) H')\/(bf.go i H'/\∃N:St->Hp->Prop,(∀Z2 H2,N Z2 H2->∃m',m'<m/\W (i+1) m' Z2 H2)/\∀x H2,bf.ux i H' x H2->g₁ x Z' H2 λZ3 H3=>wi₂ Z3 H3 λbf₂ H5=>Ry g tt te D bf₂ Z3 H5 N)
section
variable {X:Cx}{elt tg iter tg₂ iter₂:Expr}{ifs₂:List Expr}{scope:Scope}{pos spos py:Pos}{N:List Str}{ZY:St->St}{wi wi₂:TI}{g g₁:TG}{tt:TT}{te:TE}{i:Nat}{y:Str}
structure qd(X:Cx)(elt tg tg₂ iter₂:Expr)(ifs₂:List Expr)(scope:Scope)(N:List Str)(g₁:TG)(wi₂:TI)(g:TG)(tt:TT)(te:TE):Prop where
 tgt₁:∀cl C s3 H3 fp ao,PG (X.blk scope cl N C s3 H3 fp ao) tg g₁
 it:∀cl C s3 H3 fp ao,PI (X.blk scope cl N C s3 H3 fp ao) tg₂ iter₂ wi₂
 tgt:∀cl C s3 H3 fp ao,PG (X.blk scope cl N C s3 H3 fp ao) tg₂ g
 IV:∀cl C s3 H3 fp ao,Fq (X.blk scope cl N C s3 H3 fp ao) ifs₂ tt
 el:∀cl C s3 H3 fp ao,PE (X.blk scope cl N C s3 H3 fp ao) elt te
theorem zfa(hc:X.aj=true)(B:cV X.env.scope scope)(P:qd X elt tg tg₂ iter₂ ifs₂ scope N g₁ wi₂ g tt te)(hs₂:∀env x,foldedSetIterable iter₂ env x=pure x)(hl:∀Z,(ZY Z).length=N.length)
  (hZ:∀(Z:St) (i:Nat) (x:Str) (v:V),N[i]?=some x->(ZY Z)[i]?=some (some v)->scope.names.lookup x=some .free/\∃j:Nat,X.N[j]?=some x/\Z[j]?=some (some v))
  {ao:List (Addr×Obj)} {s:Shared} {Z:St} {H:Hp} {Q:VK} {it:Addr} {fp:List Addr} {tn:Nat->Heap->Prop} {bf:It} (I:Inv X ao Z H s) (T:Turn X.prog X.w X.K tg bf fp it tn) (st:tn 0 s.heap) (f:∀b∈fp,fV X ao H b) (h:zG ZY g₁ wi₂ g tt te bf Z H Q)
  {cl:List (Str×Addr)} (c1:∀x c,cl.lookup x=some c->X.env.cells.lookup x=some c) (c2:∀x∈scope.names,x.2=.free->∃c,cl.lookup x.1=some c) {R:Value->Addr->Result->Shared->Prop} {E:Value->Shared->Prop}
  (k:∀D C s' H',Inv X ao Z H' s'->X.s₀.heap.objs.size<=C->H' C=none->C≠X.env.locals->(∀x c,X.env.cells.lookup x=some c->c≠C)->(∀p∈X.pn++ao,p.1≠C)->(∃m,s'.heap.Ns C m)->Q (.ref D) H'->R (.ref D) C (.ok .next) s') :
  wpAny (model X.prog X.w) X.A (newList []) (λacc s₃=>wpAny (model X.prog X.w) X.A (newFunctionEnv scope X.env.globals cl [] X.env.qual none .none (some X.env)) (λcenv s₄=>
   codeAny (model X.prog X.w) X.A (.compStart (.ListComp elt [⟨tg,iter,[],0⟩,⟨tg₂,iter₂,ifs₂,0⟩] scope pos) 0 (.ref it) acc {cenv with scope:=relabel scope X.env}) (R acc cenv.locals) s₄) E s₃) E s:=by
 refine pD ?_;have hD:H s.heap.objs.size=none:=I.hok.fresh (cD _);have I3:Inv X ao Z (upd H s.heap.objs.size (.lst [])) {s with heap:=s.heap.push {cls:=.type "list",dict:=none,data:=.seq ([]:List Value).toArray}}:=
  I.laid (t':=s.toks) (λb u q=>cG _ q) (cD _) ⟨rP _,[],0,.nil,eE _ rfl⟩
 have f3:∀b∈fp,fV X ao (upd H s.heap.objs.size (.lst [])) b:=λb hb=>by
  obtain⟨a1,a2⟩:=f b hb;obtain⟨o,q,_⟩:=T.obj 0 _ st b hb;exact⟨by rw[bZ (c7 (bQ q))];exact a1,a2⟩
 have st3:tn 0 (s.heap.push {cls:=.type "list",dict:=none,data:=.seq ([]:List Value).toArray}):=T.keep _ _ _ st λb hb o q=>cG _ q;obtain⟨W,⟨m0,w0⟩,turn⟩:=h s.heap.objs.size hD;generalize Rp:({s with heap:=s.heap.push {cls:=.type "list",dict:=none,data:=.seq ([]:List Value).toArray}}:Shared)=s3 at *;have p8:tn 0 s3.heap:=by rw[<-Rp];exact st3
 generalize hH3:upd H s.heap.objs.size (.lst [])=H3 at *;refine Yy (λx c q=>by obtain⟨v,o,q1,_⟩:=I3.cell x c (c1 x c q);exact bQ q1) (λx y c a b=>I3.ok.inj x y c (c1 x c a) (c1 y c b)) λh1 fO hn kp CN=>?_;have B_:Inv (X.blk scope fO N s3.heap.objs.size s3 H3 fp ao) [] (ZY Z) H3 {s3 with heap:=h1}:=
  YB (t:=s3.toks) I3 B c1 c2 f3 (λb hb=>let ⟨o,q,_⟩:=T.obj 0 _ p8 b hb;⟨o,q⟩) hn kp CN (hl Z) (hZ Z)
 have IW:tn 0 h1:=T.keep _ _ _ p8 λb hb o q=>kp b o q;have fY:∀{H':Hp},(∀b∈fp,H' b=none)->∀b∈fp,fV (X.blk scope fO N s3.heap.objs.size s3 H3 fp ao) [] H' b:=λ{H'} z b hb=>by
  obtain⟨a1,a2,a3,a4,a5,a6⟩:=f3 b hb;obtain⟨o,q,_⟩:=T.obj 0 _ p8 b hb;refine⟨z b hb,c7 (bQ q),λy=>(iY.mp (I3.jX b y)).elim a2 a3,.inl hb,λx c y=>?_,λp hp=>a6 p ?_⟩
  ·rcases CN.d1 x c y with ⟨q1,_⟩|⟨_,q1,_⟩
   ·exact a5 x c (c1 x c q1)
   ·exact λe=>absurd (bQ q) (by rw[<-e];exact EY.mpr (rO q1))
  have y:p∈(X.pn++ao)++[]:=hp;simpa using y
 have loop:codeAny (model X.prog X.w) X.A (.compLoop (.ListComp elt [⟨tg,iter,[],0⟩,⟨tg₂,iter₂,ifs₂,0⟩] scope pos) 0 (.ref it) (.ref s.heap.objs.size) (compEnvC scope fO s3.heap.objs.size X.env)) (R (.ref s.heap.objs.size) s3.heap.objs.size) {s3 with heap:=h1}:=by
  refine zhL (λn s'=>∃i Z' H',Inv (X.blk scope fO N s3.heap.objs.size s3 H3 fp ao) [] Z' H' s'/\tn i s'.heap/\(∀b∈fp,H' b=none)/\W i n Z' H') (hs₂ _) ?_ m0 ⟨0,ZY Z,H3,B_,IW,λb hb=>(f3 b hb).1,w0⟩;rintro n s5 ⟨i,Z5,H5,jF,tQ,vV,w5⟩;rcases turn i n Z5 H5 w5 with ⟨stop,q⟩|⟨go,Nx,hN,step⟩
  ·refine aV (T.done (X.blk scope fO N s3.heap.objs.size s3 H3 fp ao) rfl rfl rfl hc i [] s5 Z5 H5 _ jF (fY vV) tQ stop) λr s6 ⟨hr,m5⟩=>?_;subst hr;have JX:=YF I3 f3 m5;refine k s.heap.objs.size s3.heap.objs.size s6 H5 JX I3.sz m5.free (pO I3.lt) (λx c y z=>?_) (λp hp z=>?_) ?_ q
   ·obtain⟨v,qc⟩:=I3.cell x c y;exact absurd qc.lt (by rw[z];exact pN _)
   ·exact absurd (bQ (I3.pin p hp).1) (by rw[z];exact pN _)
   ·obtain⟨m,hm,_⟩:=m5.loc;exact⟨m,hm⟩
  ·refine aV (T.item (X.blk scope fO N s3.heap.objs.size s3 H3 fp ao) rfl rfl rfl hc i [] s5 Z5 H5 _ jF (fY vV) tQ go) λr s6 ⟨u,hr,h6⟩=>?_;subst hr;refine aV h6 λ_ s7 ⟨x,H7,uF,r7,y7,uG,I8⟩=>?_;have oJ:=uF.pinned (fY I8) (T.obj _ _ uG);refine aV (P.tgt₁ fO s3.heap.objs.size s3 H3 fp ao _ s7 Z5 H7 x u _ oJ r7 (step x H7 y7)) λ_ s8 ⟨Z8,H8,uH,q8⟩=>?_;refine aV (wpAny_tests_nil (env:=compEnvC scope fO s3.heap.objs.size X.env) (Q:=λok s'=>ok=true/\s'=s8) ⟨rfl,rfl⟩) λok s9 ⟨e9,e9'⟩=>?_;subst e9 e9';rw[if_pos rfl];refine aV (P.it fO s3.heap.objs.size s3 H3 fp ao _ s9 Z8 H8 _ uH q8) λxv M4 YK=>aV YK λitv YH YL=>?_;obtain⟨it₂,fp₂,tn₂,bf₂,YJ,RB,oM,T₂,st₂,f₂,hq⟩:=YL;subst RB;refine zjJ (Y:=X.blk scope fO N s3.heap.objs.size s3 H3 fp ao) hc rfl (P.tgt fO s3.heap.objs.size s3 H3 fp ao) (P.IV fO s3.heap.objs.size s3 H3 fp ao) (P.el fO s3.heap.objs.size s3 H3 fp ao) oM T₂ st₂ f₂ hq λs' Z' H' gA n'=>⟨rfl,?_⟩;obtain⟨m',hm,w'⟩:=hN Z' H' n';refine⟨m',hm,i+1,Z',H',gA.cH,T.keep _ _ _ uG λb hb o e=>(gA.pin (b,o) (k_ _ (k_ _ (zE hb e)))).1,λb hb=>?_,w'⟩;obtain⟨o,e,d⟩:=T.obj _ _ uG b hb;exact(gA.pin (b,o) (k_ _ (k_ _ (zE hb e)))).2.1
 exact codeAny_compStart_list loop (T.self _ 0 _ _ _ IW loop)
noncomputable def uM(wi:TI)(ZY:St->St)(g₁:TG)(wi₂:TI)(g:TG)(tt:TT)(te:TE):TE:=λZ H Q=>wi Z H λbf H1=>zG ZY g₁ wi₂ g tt te bf Z H1 Q
theorem zd3(hc:X.aj=true)(hN:X.N.Nodup)(sE:X.N[i]?=some y)(hx:Loc X.env.scope y)(hf:X.fn y=true\/X.env.scope.names.lookup y=some .local)(B:cV X.env.scope scope)(hi:PI X tg iter wi)(P:qd X elt tg tg₂ iter₂ ifs₂ scope N g₁ wi₂ g tt te)(hs₂:∀env x,foldedSetIterable iter₂ env x=pure x)(hl:∀Z,(ZY Z).length=N.length)
  (hZ:∀(Z:St) (i:Nat) (x:Str) (v:V),N[i]?=some x->(ZY Z)[i]?=some (some v)->scope.names.lookup x=some .free/\∃j:Nat,X.N[j]?=some x/\Z[j]?=some (some v))
  (uL:swapsWith (.ListComp elt [⟨tg,iter,[],0⟩,⟨tg₂,iter₂,ifs₂,0⟩] scope pos) (some (.Name y py)) spos.line X.env=pure true) (hs:∀x,foldedSetIterable iter X.env x=pure x:=by intro _;rfl) :
  PS X (.Assign [.Name y py] (.ListComp elt [⟨tg,iter,[],0⟩,⟨tg₂,iter₂,ifs₂,0⟩] scope pos) spos) (w6 (uM wi ZY g₁ wi₂ g tt te) (dW i)):=by
 intro ao s Z H D I h;obtain⟨cl,qb,c1,c2⟩:=Ru I B;rw[exec_Assign_Name_used _ _ _ _ uL];refine aB (t_ (aB ?_));show wpAny _ X.A (do let _ <-comprehension (.ListComp elt [⟨tg,iter,[],0⟩,⟨tg₂,iter₂,ifs₂,0⟩] scope pos) scope X.env _ (newList []) false (eval iter X.env) (some (assign (.Name y py) X.env))) _ _ s;refine aB (Pb (use:=some (assign (.Name y py) X.env)) rfl hs qb B.kind B.loc (aV (hi ao s Z H _ I h) λxv s1 h1=>aV h1 λitv s2 h2=>?_));obtain⟨it,fp,tn,bf,H2,e,I2,T,st2,f2,hq⟩:=h2;subst e;refine zfa hc B P hs₂ hl hZ I2 T st2 f2 hq c1 c2 (R:=λacc C=>compPost (model X.prog X.w) X.A X.xe (some (assign (.Name y py) X.env)) _ acc C) λD' C s' H' gA a b c d e ⟨m,hm⟩ q=>?_;show wpAny _ _ (assign (.Name y py) X.env (.ref D')) _ _ s';refine wpAny_assign_Name (Qf (v:=.ref D') gA hN sE hx rfl (λs5 jF ⟨ad,sb,Rw⟩=>?_) hf);have nC:C≠ad:=by
  rcases Rw with z|z
  ·rw[z];exact c
  ·exact(d y ad z).symm
 obtain⟨ol,es,ep,e1,r1⟩:=hm;refine⟨m,⟨ol,es,ep,(sb.2 C nC).trans e1,r1⟩,λh' Rx=>aM (aM ⟨_,H',Rn (Z':=Z) jF a b c d e Rx,q⟩)⟩
end
end L2
namespace L2
open PySem PySem.Spec PyProof.Rows PySem.W
noncomputable def bF{α:Type}(lt:Nat->Nat->Option Bool):KasT α->Option α
 |.ret a=>some a
 |.ask i j k=>match lt i j with
  |some b=>bF lt (k b)
  |none=>none
theorem RD{α:Type}{lt:Nat->Nat->Option Bool}{cmp:Nat->Nat->(Bool->Shared->Prop)->Shared->Prop}{Q:α->Shared->Prop}{s:Shared}(hc:∀i j b C,lt i j=some b->C b s->cmp i j C s){a:α}(q:Q a s):∀{t:KasT α},bF lt t=some a->t.kasWp cmp Q s
 |.ret a',h=>by
  unfold bF at h;cases h;exact q
 |.ask i j k,h=>by
  unfold bF at h;cases e:lt i j with
  |none=>rw[e] at h;cases h
  |some b=>
   rw[e] at h;exact hc i j b _ e (RD hc q h)
noncomputable def dO(vs:List Value)(p:Array Nat):Array Value:=if vs.length<2 then vs.toArray else List.toArray (p.toList.map λi=>vs.getD i Value.none)
section
variable {prog:Program}{w:World}{A:Around}{E:Value->Shared->Prop}{s:Shared}{κ:SortKind}{lt:Nat->Nat->Option Bool}{p:Array Nat}
theorem zcy{a:Addr}{vs:List Value}{n:Nat}{P:PySem.Fin->Shared->Prop}(ho:s.heap.get? a=some (seqObj "list" vs.toArray n))(nO:vs.length<64)
  (hk:2<=vs.length->∀(s':Shared) (Q:SortKind->Shared->Prop),(∀b o,b≠a->s.heap.get? b=some o->s'.heap.get? b=some o)->Q κ s'->wpAny (model prog w) A (keyKind' vs.toArray) Q E s')
  (cF:2<=vs.length->∀(s':Shared) i j b C,(∀b o,b≠a->s.heap.get? b=some o->s'.heap.get? b=some o)->lt i j=some b->C b s'->kas_ask prog w A κ vs i j C s') (hr:2<=vs.length->bF lt (kas_sort vs.length)=some p) (I9:2<=vs.length->p.size=vs.length)
  (h:P (.done (.ret .none)) {s with heap:=sortedHeap s.heap a vs (dO vs p)}) :
  wpAny (model prog w) A (Builtin.«list.sort» ⟨[.ref a],[]⟩) P E s:=by
 rw[list_sort_plain];have ha:a<s.heap.objs.size:=bQ ho;refine aB (listItems_at ho rfl ?_);refine aB (A_ ho rfl ?_ (by rw[fj,vP];lia) (rP _));obtain⟨e1,Cd⟩ : ∃e1,(s.heap.update a (Obj.mapSeq λ_=>#[])).get? a=some (seqObj "list" #[] e1):=⟨_,get?_update_seq ho (λ_=>#[])⟩;refine aB (seqEpoch_at Cd rfl ?_);refine aB (wpAny_newTuple ?_ (by show vs.length<=_;rw[vP];lia));refine aB (GR ?_ (rP _));refine pF ?_;have keep:∀b o,b≠a->s.heap.get? b=some o->(((s.heap.update a (Obj.mapSeq λ_=>(#[]:Array Value))).push (seqObj "tuple" vs.toArray 0)).push (seqObj "list" #[] 0)).get? b=some o:=λb o nb e=>
  cG _ (cG _ ((yV _ _ _ _ nb).trans e))
 have M6:(((s.heap.update a (Obj.mapSeq λ_=>(#[]:Array Value))).push (seqObj "tuple" vs.toArray 0)).push (seqObj "list" #[] 0)).get? a=some (seqObj "list" #[] e1):=by
  rw[El _ _ _ (by rw[size_push',GK];exact c7 (qG ha)),El _ _ _ (by rw[GK];exact c7 ha)];exact Cd
 show wpAny (model prog w) A _ P E {s with heap:=((s.heap.update a (Obj.mapSeq λ_=>#[])).push (seqObj "tuple" vs.toArray 0)).push (seqObj "list" #[] 0)};dsimp only;have hsz:vs.toArray.size=vs.length:=by simp
 by_cases h2:vs.toArray.size<2
 ·rw[if_pos h2,if_pos h2];refine aB (aM ?_);rw[StateT.run_pure];refine aB (aM ?_);dsimp only;refine aB (seqEpoch_at M6 rfl ?_);refine aB (A_ M6 rfl ?_ (rP _) (by rw[Array.size_map];show (pairsOf vs).size<=_;rw[pairsOf_size,vP];lia));simp only[PL,rH,nY];have e:((vs.toArray.zip vs.toArray).map (·.2))=dO vs p:=by
   unfold dO;rw[if_pos (by rw[hsz] at h2;exact h2)];apply Array.toList_inj.mp;simp[List.map_snd_zip]
  refine aM ?_;have h':=h;rw[<-e] at h';exact h'
 ·rw[if_neg h2,if_neg h2];have lY:2<=vs.length:=by lia
  refine aB (hk lY _ _ keep ?_);refine aB (gj (kat_run (κ:=κ) (ks:=vs) (vs:=vs) (G:=λp' s'=>p'=p/\s'={s with heap:=((s.heap.update a (Obj.mapSeq λ_=>#[])).push (seqObj "tuple" vs.toArray 0)).push (seqObj "list" #[] 0)})
   (Q:=λst' s'=>arrOf st'=p.map (kas_item (vs.toArray.zip vs.toArray))/\failedOf st'=none/\s'={s with heap:=((s.heap.update a (Obj.mapSeq λ_=>#[])).push (seqObj "tuple" vs.toArray 0)).push (seqObj "list" #[] 0)})
   rfl lY nO (λp' st' s' a1 a2 a3 a4=>⟨by rw[a2,a4.1],a3,a4.2⟩) (RD (λi j b C hl hC=>cF lY _ i j b C keep hl hC) ⟨rfl,rfl⟩ (hr lY))) ?_ λ_ _ e=>e)
  rintro⟨⟨⟩,st'⟩ s' ⟨Ft,hf,rfl⟩;dsimp only;have hout:=kat_snds (ks:=vs) (vs:=vs) rfl Ft;have e:List.toArray (p.toList.map λi=>vs.getD i Value.none)=dO vs p:=by
   unfold dO;rw[if_neg (by lia)]
  rw[hout,e];have YM:(dO vs p).size=vs.length:=by rw[<-e,fj,eY,nU,I9 lY]
  refine aB (seqEpoch_at M6 rfl ?_);refine aB (A_ M6 rfl ?_ (rP _) (by rw[YM,vP];lia));rw[hf];simp only[PL,rH,nY];exact aM h
theorem RG(hl:s.heap.IsList l vs.toArray)(nO:vs.length<64)
  (hk:2<=vs.length->∀(s':Shared) (Q:SortKind->Shared->Prop) E,(∀b o,s.heap.get? b=some o->s'.heap.get? b=some o)->Q κ s'->wpAny (model prog w) A.in1.in1 (keyKind' vs.toArray) Q E s')
  (cF:2<=vs.length->∀(s':Shared) i j b C,(∀b o,s.heap.get? b=some o->s'.heap.get? b=some o)->lt i j=some b->C b s'->kas_ask prog w A.in1.in1 κ vs i j C s') (hr:2<=vs.length->bF lt (kas_sort vs.length)=some p) (I9:2<=vs.length->p.size=vs.length)
  (h:Q (.ref (s.heap.objs.size+1)) {s with heap:=sortedAll s.heap vs (dO vs p)}) :
  wpAny (model prog w) A (call (.builtin "sorted") [.ref l]) Q E s:=by
 refine Calls.call_function_entry kind_sorted plain_sorted entry_sorted (args_sorted1 _) ?_;unfold Builtin.«sorted»;refine aB (m:=checkCount "sorted" 1 1 _) (aM ?_);refine aB (collect_list hl ?_ (by rw[vP];lia));refine aB (GR ?_ (by rw[vP];lia));have hsz:((s.heap.push (seqObj "list" #[] 0)).update s.heap.objs.size (Obj.mapSeq (·++vs.toArray))).objs.size=s.heap.objs.size+1:=by
  rw[GK,size_push']
 have Bl:(((s.heap.push (seqObj "list" #[] 0)).update s.heap.objs.size (Obj.mapSeq (·++vs.toArray))).push (seqObj "list" vs.toArray 0)).get? (s.heap.objs.size+1)=some (seqObj "list" vs.toArray 0):=by
  rw[<-hsz];exact eE _ rfl
 have keep:∀b o,s.heap.get? b=some o->(((s.heap.push (seqObj "list" #[] 0)).update s.heap.objs.size (Obj.mapSeq (·++vs.toArray))).push (seqObj "list" vs.toArray 0)).get? b=some o:=λb o q=>by
  have cF:b<s.heap.objs.size:=bQ q;rw[El _ _ _ (by rw[hsz];exact c7 (qG cF)),yV _ _ _ _ (c7 cF),El _ _ _ (c7 cF)];exact q
 show wpAny _ _ _ _ _ {s with heap:=((s.heap.push (seqObj "list" #[] 0)).update s.heap.objs.size (Obj.mapSeq (·++vs.toArray))).push (seqObj "list" vs.toArray 0)};rw[hsz];have nn:∀b o,s.heap.get? b=some o->b≠s.heap.objs.size+1:=λb o e=>c7 (qG (bQ e));refine aB (pF (wK slot_list_sort ⟨_,Bl,rfl⟩ entry_list_sort (zcy (κ:=κ) (lt:=lt) (p:=p) Bl nO (λh2 s' Q' k q=>hk h2 s' Q' _ (λb o e=>k b o (nn b o e) (keep b o e)) q) (λh2 s' i j b C k e q=>cF h2 s' i j b C (λb o e=>k b o (nn b o e) (keep b o e)) e q) hr I9 ⟨_,rfl,?_⟩) (args_list_sort _)));exact aM ⟨_,rfl,h⟩
end
noncomputable def lJ:List V->List V->Option Bool
 |[],ys=>some (decide (0<ys.length))
 |_::_,[]=>some false
 |.int x::xs,.int y::ys=>if x=y then lJ xs ys else some (decide (x<y))
 |_::_,_::_=>none
theorem zll{prog:Program}{w:World}{A:Around}{s:Shared}{fin:Bool}{C:Bool->Shared->Prop}{b:Bool}:∀{us ws:List V} {its jts:List Value} {i:Nat},Vals us its->Vals ws jts->lJ us ws=some b->fin=decide (us.length<ws.length)->C b s->KatLex prog w A true fin C (its.zip jts) i s:=by
 intro us ws its jts i r1
 induction r1 generalizing ws jts i with
 |nil=>
  intro _ h hf hc;rw[List.zip_nil_left];unfold lJ at h;cases h;rw[hf];exact kat_nil hc
 |@cons x u us its rx ri ih=>
  intro r2 h hf hc;cases r2 with
  |nil=>
   rw[List.zip_nil_right];unfold lJ at h;cases h;rw[hf];exact kat_nil (by simpa using hc)
  |@cons y v ws jts ry rj=>
   rw[GD];cases x with
   |int a=>
    cases y with
    |int c=>
     obtain⟨t,rfl⟩:=rx;obtain⟨t',rfl⟩:=ry;unfold lJ at h;refine kat_cons (wpAny_eqBool_int ?_);by_cases e:a=c
     ·rw[if_pos e] at h;subst e;rw[Em];exact kat_yes (ih rj h (by rw[hf];simp) hc)
     ·rw[if_neg e] at h;cases h;rw[show (a==c)=false by simpa using e];refine kat_no ?_;by_cases hi:i=0
      ·subst hi;exact oneLt_int hc
      ·rw[show (true&&i==0)=false by simpa using hi];exact kat_one _ _ (wpAny_lt_int hc)
    |_=>cases h
   |_=>cases y<;>cases h
def uN(K:W.Frag)(H:Hp)(ys:List V)(lt:Nat->Nat->Option Bool):Prop:=
 ((∀v∈ys,∃i,v=V.int i)/\∀i j b,lt i j=some b->∃x y,ys[i]?=some (.int x)/\ys[j]?=some (.int y)/\b=decide (x<y)) \/
 ((∀v∈ys,∃a i r,v=.ref a/\gw K H a (.int i::r))/\∀i j b,lt i j=some b->∃a c us ws,ys[i]?=some (.ref a)/\ys[j]?=some (.ref c)/\gw K H a us/\gw K H c ws/\lJ us ws=some b)
noncomputable def fX(ys:List V)(p:Array Nat):List V:=if ys.length<2 then ys else p.toList.map λi=>ys.getD i .non
theorem YQ(r:Vals ys its):∀l:List Nat,Vals (l.map λi=>ys.getD i .non) (l.map λi=>its.getD i Value.none)
 |[]=>.nil
 |i::l=>by
  refine .cons ?_ (YQ r l);cases e:ys[i]? with
  |some y=>
   obtain⟨u,e1,e2⟩:=r.get e;show RelV (ys.getD i .non) (its.getD i Value.none);rw[lE,lE,e,e1];exact e2
  |none=>
   have e1:its[i]?=none:=by rw[qD] at e ⊢;rw[<-r.length];exact e
   show RelV (ys.getD i .non) (its.getD i Value.none);rw[lE,lE,e,e1];rfl
theorem YS{ys:List V}{its:List Value}(r:Vals ys its)(p:Array Nat):Vals (fX ys p) (dO its p).toList:=by
 unfold fX dO;rw[r.length];by_cases h:its.length<2
 ·rw[if_pos h,if_pos h];exact r
 ·rw[if_neg h,if_neg h];exact YQ r p.toList
theorem zg0{ys:List V}{its:List Value}(r:Vals ys its):∀u∈its,∃v∈ys,RelV v u:=by
 induction r with
 |nil=>intro u hu;cases hu
 |cons h t ih=>
  intro u hu;rcases iY.mp hu with rfl|hu
  ·exact⟨_,lQ,h⟩
  ·obtain⟨v,a,b⟩:=ih u hu;exact⟨v,iG _ a,b⟩
section
variable {X:Cx}
theorem YT{prog:Program}{w:World}{A:Around}{E:Value->Shared->Prop}{s:Shared}{its:List Value}{Q:SortKind->Shared->Prop}(h2:2<=its.length)(hi:∀u∈its,∃i t,u=Value.int i t)(q:Q oneType' s):wpAny (model prog w) A (keyKind' its.toArray) Q E s:=
 kas_kind (T:=.type "int") h2 (λv hv=>by obtain⟨i,t,rfl⟩:=hi v hv;exact .of_pure rfl) (by decide) (by decide) q
theorem zjH{K:W.Frag}{ao:List (Addr×Obj)}{s:Shared}{Z:St}{H:Hp}(I:Inv X ao Z H s){h':Heap}(k:∀b o,s.heap.get? b=some o->h'.get? b=some o):∀{ys:List V} {its:List Value},Vals ys its->(∀v∈ys,∃a i r,v=.ref a/\gw X.K H a (.int i::r))->∃fs:List Value,fs.length=its.length/\(∀f∈fs,∃i t,f=Value.int i t)/\KatTups h' its fs:=by
 intro ys its r0
 induction r0 with
 |nil=>exact λ_=>⟨[],rfl,(λf hf=>by cases hf),trivial⟩
 |@cons v u ys its r rs ih=>
  intro h;obtain⟨a,i,r',rfl,hq⟩:=h _ lQ;obtain⟨fs,l,hf,kt⟩:=ih λv hv=>h v (iG _ hv);obtain⟨its',rv,⟨o,ho,hc,n,hd⟩,_⟩:=I.tuple hq;cases (show u=Value.ref a from r);cases rv with
  |cons ri rr=>
   obtain⟨t,rfl⟩:=ri;refine⟨Value.int i t::fs,by simp[l],λf hf'=>?_,KatTups.cons (k _ _ ho) hc hd (by simp) kt⟩;rcases iY.mp hf' with rfl|z
   ·exact⟨i,t,rfl⟩
   ·exact hf f z
theorem zgf{prog:Program}{w:World}{A:Around}{E:Value->Shared->Prop}{s:Shared}{its fs:List Value}{Q:SortKind->Shared->Prop}(h2:2<=its.length)(hl:fs.length=its.length)(hi:∀u∈fs,∃i t,u=Value.int i t)(kt:KatTups s.heap its fs)(q:Q (tuples' true) s):wpAny (model prog w) A (keyKind' its.toArray) Q E s:=
 kat_kind (T:=.type "int") kt (by lia) (λv hv=>by obtain⟨i,t,rfl⟩:=hi v hv;exact .of_pure rfl) (by decide) q
theorem Fw{its:List Value}{i:Nat}{u:Value}(h:its[i]?=some u):its.getD i Value.none=u:=by rw[lE,h];rfl
theorem zdJ:dB X (.builtin "sorted") (λxs H Q=>∃l ys lt p,xs=[.ref l]/\dj X.K H l ys/\ys.length<64/\(2<=ys.length->uN X.K H ys lt/\bF lt (kas_sort ys.length)=some p/\p.size=ys.length)/\∀r,H r=none->Q (.ref r) (upd H r (.lst (fX ys p)))):=by
 intro ao s Z H xs us Q I r h;obtain⟨l,ys,lt,p,rfl,hq,nO,hs,q⟩:=h;obtain⟨u,rfl,rx⟩:=vals1 r;cases rx;obtain⟨its,rv,pl,hz⟩:=I.list hq;have hlen:=rv.length;have fin:EP X ao Z Q (.ref (s.heap.objs.size+1)) {s with heap:=sortedAll s.heap its (dO its p)}:=by
  obtain⟨e,he⟩:=sortedAll_at s.heap its (dO its p);have hn:H (s.heap.objs.size+1)=none:=I.hok.fresh (uc _);refine⟨.ref (s.heap.objs.size+1),_,I.laid (t':=s.toks) (λb u q=>sortedAll_old q) (uc _) (show bI X.prog X.w _ _ _ (.lst (fX ys p)) from ⟨?_,(dO its p).toList,e,YS rv p,by rw[Li];exact he⟩),rfl,q _ hn⟩;unfold fX;by_cases h2:ys.length<2
  ·rw[if_pos h2];exact hz
  ·rw[if_neg h2,eY,nU,(hs (by lia)).2.2];exact hz
 by_cases h2:2<=ys.length
 ·obtain⟨hS,hr,hp⟩:=hs h2;rcases hS with ⟨hI,cF⟩|⟨hT,cF⟩
  ·refine RG (κ:=oneType') (lt:=lt) (p:=p) pl.isList (by lia) (λlY s' Q' E' k q'=>YT lY (λu hu=>?_) q') (λ_ s' i j b C k e hC=>?_) (λ_=>by rw[<-hlen];exact hr) (λ_=>by lia) fin
   ·obtain⟨v,hv,rr⟩:=zg0 rv u hu;obtain⟨i,rfl⟩:=hI v hv;obtain⟨t,rfl⟩:=rr;exact⟨i,t,rfl⟩
   ·obtain⟨x,y,e1,e2,rfl⟩:=cF i j b e;obtain⟨u1,f1,g1⟩:=rv.get e1;obtain⟨u2,f2,g2⟩:=rv.get e2;obtain⟨t1,rfl⟩:=g1;obtain⟨t2,rfl⟩:=g2;show wpAny _ _ (keyLt' oneType' (its.getD i Value.none) (its.getD j Value.none)) C _ s';rw[Fw f1,Fw f2];exact kat_lt_int hC
  ·refine RG (κ:=tuples' true) (lt:=lt) (p:=p) pl.isList (by lia) (λlY s' Q' E' k q'=>?_) (λ_ s' i j b C k e hC=>?_) (λ_=>by rw[<-hlen];exact hr) (λ_=>by lia) fin
   ·obtain⟨fs,l1,hf,kt⟩:=zjH (K:=X.K) I k rv hT;exact zgf lY l1 hf kt q'
   ·obtain⟨a,c,us,ws,e1,e2,q1,q2,e3⟩:=cF i j b e;obtain⟨u1,f1,g1⟩:=rv.get e1;obtain⟨u2,f2,g2⟩:=rv.get e2;cases (show u1=Value.ref a from g1);cases (show u2=Value.ref c from g2);obtain⟨i1,r1,⟨o1,Cd,hc1,n1,hd1⟩,_⟩:=I.tuple q1;obtain⟨i2,r2,⟨o2,pX,nM,n2,hd2⟩,_⟩:=I.tuple q2;show wpAny _ _ (keyLt' (tuples' true) (its.getD i Value.none) (its.getD j Value.none)) C _ s';rw[Fw f1,Fw f2];refine kat_lt (k _ _ Cd) hd1 (k _ _ pX) hd2 (zll r1 r2 e3 ?_ hC);rw[r1.length,r2.length];simp
 ·exact RG (κ:=oneType') (lt:=lt) (p:=p) pl.isList (by lia) (λlY=>absurd lY (by lia)) (λlY=>absurd lY (by lia)) (λlY=>absurd lY (by lia)) (λlY=>absurd lY (by lia)) fin
end
end L2
namespace L2
open PySem PySem.Spec PyProof.Rows PySem.W PySem.Calls PySem.Builtin PySem.Builtin.ObjectAttr
section
variable {prog:Program}{w:World}{A:Around}{R:Result->Shared->Prop}{E:Value->Shared->Prop}{s:Shared}{K:W.Frag}{x C:Addr}{ox:Obj}{cd:ClassData}{name:Str}{v:Value}{mA:Str->Option Value}{ns:List Str}
end
end L2
namespace L2
open PySem PySem.Spec PyProof.Rows PySem.W PySem.Calls
section
variable {prog:Program}{w:World}{K:W.Frag}{C e:Addr}{cd:ClassData}{env:Env}{m:Str->Option Value}{A:Around}{E:Value->Shared->Prop}{sf:Str}
end
end L2
namespace PySem
open Sem (wp)
section
variable {prog:Program}{w:World}{A:Around}{E:Value->Shared->Prop}{h:Heap}{g:Array GenState}{d:Drawn}{t:Nat}{os:OsState}
variable {nm q:Str}{C N:Addr}{bs bm bmB:List Value}{RJ:Bool}{sn:List Str}{aq:List Value}{ab:Bool}{col:Option Bool}{dd:Option Addr}{k0 k1 k2 k3 k5:Option Value}{B Bn newId nid initId inN:String}{bmN:List Value}
end
section
variable {prog:Program}{w:World}{A:Around}{E:Value->Shared->Prop}{s:Shared}{env:Env}
variable {nm q:Str}{C N:Addr}{bs bm bmB:List Value}{RJ:Bool}{sn:List Str}{aq:List Value}{ab:Bool}{col:Option Bool}{dd:Option Addr}{k0 k1 k2 k3 k5:Option Value}{B Bn newId nid initId inN:String}{bmN:List Value}
end
end PySem
namespace L2
open PySem PySem.Spec PyProof.Rows PySem.W PySem.Calls
theorem YW{α:Type}:∀{l:List (Str×α)} {f:Str} {u:α},(l.map (·.1)).Nodup->(f,u)∈l->l.lookup f=some u
 |(g,v)::r,f,u,hn,hm=>by
  rw[jo,wN] at hn;rw[pK];rcases iY.mp hm with e|hm
  ·cases e;simp
  ·have:f≠g:=λz=>hn.1 (by rw[<-z];exact qH.mpr ⟨(f,u),hm,rfl⟩);rw[show (f==g)=false by simpa using this];exact YW hn.2 hm
theorem zjv{α:Type}{fs:List Str}{us:List α}{i:Nat}{f:Str}{u:α}(h1:fs[i]?=some f)(h2:us[i]?=some u):(f,u)∈fs.zip us:=by
 refine gU (i:=i) ?_;exact(List.getElem?_zip_eq_some (z:=(f,u))).mpr ⟨h1,h2⟩
section
variable {X:Cx}{EX:XS}{C:Addr}{ar:Arguments}{bd:List Stmt}{sc:Scope}{fs:List Str}{t:TA}{x:Str}{p apos pos:Pos}{e:Expr}{es:List Expr}
end
section
variable {prog:Program}{w:World}{A:Around}{E:Value->Shared->Prop}{s:Shared}{K:Frag}{x C:Addr}{ox:Obj}{od:Option Obj}{name:Str}
end
structure XF(K:Frag)(C:Addr)(f:Str):Prop where
 ga:findIn K (.ref C) "__getattribute__"=some (some (.builtin "BaseException.__getattribute__"))
 gn:findIn K (.ref C) "__getattr__"=some none
 mb:mroIn K C (.type "BaseException")=some true
 no:findIn K (.ref C) f=some none
 hd:hasDictIn K C=true
section
variable {X:Cx}{e:Expr}{f:Str}{pos:Pos}{ta:TE}
end
end L2
namespace L2
open PySem PySem.Spec PyProof.Rows
section
variable {X:Cx}{ao:List (Addr×Obj)}{Z:St}{H:Hp}{s:Shared}{h':Heap}
theorem Inv.lZ{t':Nat}{ch:List Addr}{a:Addr}{o:HO}(I:Inv X ao Z H s)(k:∀b u,b∉ch->s.heap.get? b=some u->h'.get? b=some u)(hf:∀b∈ch,fV X ao H b)(ha:s.heap.objs.size<=a)(new:bI X.prog X.w (upd H a o) h' a o) :
  Inv X ao Z (upd H a o) {s with heap:=h',toks:=t'}:=by
 have zA:∀b u,H b=some u->b∉ch:=λb u e z=>by rw[(hf b z).1] at e;cases e
 have hn:H a=none:=I.hok.fresh ha;have na:∀b u,H b=some u->b≠a:=λb u e z=>by rw[z,hn] at e;cases e
 have la:∀b u,s.heap.get? b=some u->b≠a:=λb u e=>c7 (gb (bQ e) ha);refine I.step (g':=s.gens) (d':=s.drawn) (ch:=ch) (λb hb=>?_) (λb o _ _ hc e _=>k b o hc e) (λb o _ _ hc e _=>⟨o.slots,k b o hc e⟩) (λb o' _ e n=>by rw[bZ (la b o' e)];exact n)
  (λb o hc e=>⟨o,k b o hc e⟩) (λb xs e=>by rw[bZ (na b _ e)];exact e) (λb o u e=>by rw[bZ (na b _ e)];exact e) (λb ps e=>⟨#[],by rw[bZ (na b _ e),e];simp,.nil⟩) (λm hm=>?_) (λb u e=>?_) I.bare
 ·obtain⟨f0,f1,f2,f3,f4,f5⟩:=hf b hb;exact⟨f3.imp id λz=>DY z,f1,f4,f5⟩
 ·obtain⟨o,es,ep,ho,r⟩:=hm;exact⟨o,es,ep,k _ o (λz=>(hf _ z).2.1 rfl) ho,r⟩
 ·by_cases z:b=a
  ·subst z;rw[iH] at e;cases e;exact new
  ·rw[bZ z] at e;refine(I.hok b u e).stay (λc v hc q=>k c v ?_ q) (λc q=>by rw[bZ (na c _ q)];exact q) λc _ q=>by rw[bZ (na c _ q)];exact q
   rcases hc with y|y
   ·rw[y];exact zA b u e
   ·exact zA c _ y
theorem Inv.qR{t':Nat}{ch:List Addr}(I:Inv X ao Z H s)(k:∀b u,b∉ch->s.heap.get? b=some u->h'.get? b=some u)(hf:∀b∈ch,fV X ao H b):Inv X ao Z H {s with heap:=h',toks:=t'}:=by
 have zA:∀b u,H b=some u->b∉ch:=λb u e z=>by rw[(hf b z).1] at e;cases e
 refine I.step (g':=s.gens) (d':=s.drawn) (ch:=ch) (λb hb=>?_) (λb o _ _ hc e _=>k b o hc e) (λb o _ _ hc e _=>⟨o.slots,k b o hc e⟩) (λ_ _ _ _ n=>n)
  (λb o hc e=>⟨o,k b o hc e⟩) (λ_ _ e=>e) (λ_ _ _ e=>e) (λb ps e=>⟨#[],by rw[e];simp,.nil⟩) (λm hm=>?_) (λb u e=>?_) I.bare
 ·obtain⟨f0,f1,f2,f3,f4,f5⟩:=hf b hb;exact⟨f3.imp id λz=>DY z,f1,f4,f5⟩
 ·obtain⟨o,es,ep,ho,r⟩:=hm;exact⟨o,es,ep,k _ o (λz=>(hf _ z).2.1 rfl) ho,r⟩
 ·refine(I.hok b u e).stay (λc v hc q=>k c v ?_ q) (λ_ q=>q) λ_ _ q=>q;rcases hc with y|y
  ·rw[y];exact zA b u e
  ·exact zA c _ y
end
structure mj(prog:Program)(w:World)(it src:Addr)(st:Nat->Heap->Prop)(its:Array Value):Prop where
 item:∀(A:Around) (E:Value->Shared->Prop) (s:Shared) (i:Nat) (x:Value) (Q:Value->Shared->Prop),st i s.heap->its[i]?=some x->(∀h',st (i+1) h'->Heap.SameBut it s.heap h'->Q x {s with heap:=h'})->wpAny (model prog w) A (Builtin.SmallTypes.nextOf (.ref it)) Q E s
 fin:∀(A:Around) (E:Value->Shared->Prop) (s:Shared) (i:Nat) (Q:Value->Shared->Prop),A.handled=none->st i s.heap->its[i]?=none->(∀h' e,Heap.ExtBut it s.heap h'->(∃o,h'.get? e=some o/\o.cls=.type "StopIteration")->E (.ref e) {s with heap:=h'})->wpAny (model prog w) A (Builtin.SmallTypes.nextOf (.ref it)) Q E s
 keep:∀i h h',st i h->(∀b o,b=it\/b=src->h.get? b=some o->h'.get? b=some o)->st i h'
theorem mj.list(tR:l≠it):mj prog w it l (λi h=>h.IsListIter it l i/\h.IsList l its) its where
 item:=λA E s i x Q ⟨h1,h2⟩ hx q=>wpAny_nextOf_list_item h1 h2 hx λh' a sb=>q h' ⟨a,h2.at λo e=>(sb.2 l tR).trans e⟩ sb
 fin:=λA E s i Q hh ⟨h1,h2⟩ hx q=>wpAny_nextOf_list_end hh h1 h2 hx q
 keep:=λi h h' ⟨h1,h2⟩ k=>⟨h1.at λo e=>k it o (.inl rfl) e,h2.at λo e=>k l o (.inr rfl) e⟩
theorem YX(l:Addr):¬((Value.ref l==Value.none)=true):=λz=>by cases (show false=true from z)
theorem IsTupleIter.at'{h h':Heap}{it l:Addr}{i:Nat}(x:h.IsTupleIter it l i)(k:∀o,h.get? it=some o->h'.get? it=some o):h'.IsTupleIter it l i:=by
 obtain⟨o,e,r⟩:=x;exact⟨o,k o e,r⟩
theorem IsTuple.at'{h h':Heap}{l:Addr}{xs:Array Value}(x:h.IsTuple l xs)(k:∀o,h.get? l=some o->h'.get? l=some o):h'.IsTuple l xs:=by
 obtain⟨o,e,r⟩:=x;exact⟨o,k o e,r⟩
section
variable {prog:Program}{w:World}{A:Around}{E:Value->Shared->Prop}{s:Shared}{it l:Addr}{i:Nat}{its:Array Value}
theorem zfb{x:Value}{Q:Value->Shared->Prop}(hi:s.heap.IsTupleIter it l i)(hl:s.heap.IsTuple l its)(hx:its[i]?=some x)(q:∀h',h'.IsTupleIter it l (i+1)->Heap.SameBut it s.heap h'->Q x {s with heap:=h'}) :
  wpAny (model prog w) A (Builtin.SmallTypes.nextOf (.ref it)) Q E s:=by
 obtain⟨oi,ei,ci,di⟩:=id hi;obtain⟨ol,el,_,nl,dl⟩:=hl;unfold Builtin.SmallTypes.nextOf;refine aB (yR (name:=Str.ofString "__next__") hi.typeIs Lb (wK Lb hi.typeIs F.entry_tuple_iterator_next ?_ (F.args_tuple_iterator_next_1 _)));show wpAny _ A.in1 (field (.ref it) 0 >>= _) _ E s;refine aB (lg ei di (x:=.ref l) rfl ?_);show wpAny _ A.in1 (if (Value.ref l==Value.none)=true then _ else _) _ E s;rw[if_neg (YX l)];show wpAny _ A.in1 (field (.ref it) 1 >>= _) _ E s;refine aB (lg ei di (x:=.int i 0) rfl ?_);show wpAny _ A.in1 (seqItems? (.ref l) >>= _) _ E s;refine aB (rN el dl ?_);simp only[rK,hx];refine aB (GQ ei di (by simp) (aM ⟨x,rfl,aM (q _ ⟨_,Ao _ ei (Lh (yX di _)),(Obj.cls_mapFields ..).trans ci,?_⟩ (Heap.SameBut.update ..))⟩));rw[yX di];simp[rawInt]
theorem zgy{Q:Value->Shared->Prop}(hh:A.handled=none)(hi:s.heap.IsTupleIter it l i)(hl:s.heap.IsTuple l its)(hx:its[i]?=none)(q:∀h' e,Heap.ExtBut it s.heap h'->(∃o,h'.get? e=some o/\o.cls=.type "StopIteration")->E (.ref e) {s with heap:=h'}) :
  wpAny (model prog w) A (Builtin.SmallTypes.nextOf (.ref it)) Q E s:=by
 obtain⟨oi,ei,ci,di⟩:=id hi;obtain⟨ol,el,_,nl,dl⟩:=hl;unfold Builtin.SmallTypes.nextOf;refine aB (yR (name:=Str.ofString "__next__") hi.typeIs Lb (wK Lb hi.typeIs F.entry_tuple_iterator_next ?_ (F.args_tuple_iterator_next_1 _)));show wpAny _ A.in1 (field (.ref it) 0 >>= _) _ E s;refine aB (lg ei di (x:=.ref l) rfl ?_);show wpAny _ A.in1 (if (Value.ref l==Value.none)=true then _ else _) _ E s;rw[if_neg (YX l)];show wpAny _ A.in1 (field (.ref it) 1 >>= _) _ E s;refine aB (lg ei di (x:=.int i 0) rfl ?_);show wpAny _ A.in1 (seqItems? (.ref l) >>= _) _ E s;refine aB (rN el dl ?_);simp only[rK,hx];refine aB (zm (aB (GQ ei di (by simp) ?_)));show wpAny _ A.in1 (newExc (.type "StopIteration") [] >>= _) _ E _;refine aB ?_;simp only[newExc,newTuple];refine aB (pD (aB (m:=firstArgMember _ _) (Ey (a:=Value.none) (by first|rfl|(simp only[firstArgMember];rfl)) (pD ?_ (by size_fits)))) (by size_fits));simp only[raiseNew];refine aB (wpAny_handled ?_);rw[show A.in1.handled=none from hh];exact aB (aM (wpAny_throw (q _ _ (((Heap.SameBut.update ..).extBut.push _).push _) ⟨_,eE _ rfl,rfl⟩)))
end
theorem mj.tuple{prog:Program}{w:World}{it l:Addr}{its:Array Value}(tR:l≠it):mj prog w it l (λi h=>h.IsTupleIter it l i/\h.IsTuple l its) its where
 item:=λA E s i x Q ⟨h1,h2⟩ hx q=>zfb h1 h2 hx λh' a sb=>q h' ⟨a,IsTuple.at' h2 λo e=>(sb.2 l tR).trans e⟩ sb
 fin:=λA E s i Q hh ⟨h1,h2⟩ hx q=>zgy hh h1 h2 hx q
 keep:=λi h h' ⟨h1,h2⟩ k=>⟨IsTupleIter.at' h1 λo e=>k it o (.inl rfl) e,IsTuple.at' h2 λo e=>k l o (.inr rfl) e⟩
structure m6(z TI TO i1 i2 l1 l2:Addr):Prop where
 zs:z≠TI/\z≠TO/\z≠i1/\z≠i2/\z≠l1/\z≠l2
 os:TO≠TI/\TO≠i1/\TO≠i2/\TO≠l1/\TO≠l2
 is:TI≠i1/\TI≠i2/\i1≠i2/\i1≠l1/\i1≠l2/\i2≠l1/\i2≠l2
section
variable {prog:Program}{w:World}{A:Around}{E:Value->Shared->Prop}{s:Shared}{z TI TO i1 i2 l1 l2:Addr}{st1 st2:Nat->Heap->Prop}{xs ys:Array Value}{k:Nat}{a b:Value}
theorem zhx(N1:mj prog w i1 l1 st1 xs)(N2:mj prog w i2 l2 st2 ys)(D:m6 z TI TO i1 i2 l1 l2)(hz:IsZip s.heap z TI TO .none)(RK:IsPair s.heap TI (.ref i1) (.ref i2))(RL:IsPair s.heap TO a b)
  (h1:st1 k s.heap) (h2:st2 k s.heap) (hx:xs[k]?=some x) (hy:ys[k]?=some y)
  (q:∀h',IsZip h' z TI TO (rawInt s.heap.objs.size)->IsPair h' TO x y->st1 (k+1) h'->st2 (k+1) h'->IsPair h' s.heap.objs.size x y->h'.objs.size=s.heap.objs.size+1->(∀c o,c≠z->c≠TO->c≠i1->c≠i2->s.heap.get? c=some o->h'.get? c=some o)->Q (some (.ref s.heap.objs.size)) {s with heap:=h'}) :
  wpAny (model prog w) A (pyNext (.ref z)) Q E s:=by
 obtain⟨⟨z1,z2,z3,z4,z5,z6⟩,⟨t1,t2,t3,t4,t5⟩,⟨j1,j2,j3,j4,j5,j6,j7⟩⟩:=D;have hT:s.TypeIs (.ref z) "zip":=⟨_,hz,rfl⟩;unfold pyNext;refine aB (Ew (yR (name:=Str.ofString "__next__") hT Lz (wK Lz hT F.entry_zip_next ?_ (F.args_zip_next_1 _))));show wpAny _ A.in1 (field (.ref z) 2 >>= _) _ _ s;refine aB (lg hz rfl (x:=.bool false) rfl ?_);show wpAny _ A.in1 (field (.ref z) 3 >>= _) _ _ s;refine aB (lg hz rfl (x:=.ref TI) rfl (aB (rN RK rfl ?_)));show wpAny _ A.in1 (Builtin.SmallTypes.ownedTupleIsFree (.ref z) >>= _) _ _ s;refine aB ?_;unfold Builtin.SmallTypes.ownedTupleIsFree;refine aB (lg hz rfl (x:=.none) rfl (aM ?_));simp only[if_true];refine aB (zm (aB (lg hz rfl (x:=.ref TO) rfl (aB (Eh hz (by simp) λha za sa=>aB ?_)))))
 replace za:IsZip ha z TI TO .ellipsis:=za
 simp only[List.zipIdx_cons,List.zipIdx_nil,Eu,LR];refine aB (aB (wpAny_onRaise ?_));show wpAny _ A.in1 (Builtin.SmallTypes.nextOf (.ref i1) >>= _) _ _ _;refine aB (N1.item _ _ {s with heap:=ha} k x _ (N1.keep _ _ _ h1 λc o hc e=>sa.extBut c o (by rcases hc with rfl|rfl;exact z3.symm;exact z5.symm) e) hx λhb YZ sb=>aM ?_);have tb:IsPair hb TO a b:=sb.extBut _ _ t2 (sa.extBut _ _ z2.symm RL);refine aB (rN tb rfl (aB (Pz tb λhc tc sc=>aB (zj (aM ?_)))))
 replace tc:IsPair hc TO x b:=tc
 refine aB (aB (wpAny_onRaise ?_));show wpAny _ A.in1 (Builtin.SmallTypes.nextOf (.ref i2) >>= _) _ _ _;have k2:st2 k hc:=N2.keep _ _ _ h2 λc o lG e=>by
  rcases lG with rfl|rfl
  ·exact sc.extBut _ _ t3.symm (sb.extBut _ _ j3.symm (sa.extBut _ _ z4.symm e))
  ·exact sc.extBut _ _ t5.symm (sb.extBut _ _ j5.symm (sa.extBut _ _ z6.symm e))
 have k1:st1 (k+1) hc:=N1.keep _ _ _ YZ λc o lG e=>by
  rcases lG with rfl|rfl
  ·exact sc.extBut _ _ t2.symm e
  ·exact sc.extBut _ _ t4.symm e
 refine aB (N2.item _ _ {s with heap:=hc} k y _ k2 hy λhd sd2 sd=>aM ?_);have td:IsPair hd TO x b:=sd.extBut _ _ t3 tc;refine aB (rN td rfl (aB (Pz td λhe te se=>aB (zj (aM (aM ?_))))))
 replace te:IsPair he TO x y:=te
 refine aB (rN te rfl (aB (wpAny_newTuple ?_)));have size:he.objs.size=s.heap.objs.size:=by rw[se.1,sd.1,sc.1,sb.1,sa.1]
 have ze:IsZip he z TI TO .ellipsis:=se.extBut _ _ z2 (sd.extBut _ _ z4 (sc.extBut _ _ z2 (sb.extBut _ _ z3 za)));have kept:∀c o,c≠z->c≠TO->c≠i1->c≠i2->s.heap.get? c=some o->he.get? c=some o:=λc o c1 c2 c3 c4 e=>se.extBut _ _ c2 (sd.extBut _ _ c4 (sc.extBut _ _ c2 (sb.extBut _ _ c3 (sa.extBut _ _ c1 e))));have e1:st1 (k+1) he:=N1.keep _ _ _ k1 λc o lG e=>by
  rcases lG with rfl|rfl
  ·exact se.extBut _ _ t2.symm (sd.extBut _ _ j3 e)
  ·exact se.extBut _ _ t4.symm (sd.extBut _ _ j6.symm e)
 have e2:st2 (k+1) he:=N2.keep _ _ _ sd2 λc o lG e=>by
  rcases lG with rfl|rfl
  ·exact se.extBut _ _ t3.symm e
  ·exact se.extBut _ _ t5.symm e
 show wpAny _ A.in1 (Builtin.SmallTypes.ownedTupleHandOut (.ref z) (.ref he.objs.size) >>= _) _ _ _;refine aB ?_;unfold Builtin.SmallTypes.ownedTupleHandOut;have zf:IsZip (he.push {cls:=.type "tuple",data:=.seq #[x,y]}) z TI TO .ellipsis:=cG _ ze;refine aB (Eh zf (by simp) λhg zg sg=>Eh zg (by simp) λhh zh sh=>aM ⟨_,rfl,aM ?_⟩)
 replace zh:IsZip hh z TI TO (rawInt he.objs.size):=zh
 have up:∀c o,c≠z->he.get? c=some o->hh.get? c=some o:=λc o c1 e=>sh.extBut _ _ c1 (sg.extBut _ _ c1 (cG _ e));have lz:z<he.objs.size:=bQ ze;have tn:IsPair hh he.objs.size x y:=sh.extBut _ _ (pO lz) (sg.extBut _ _ (pO lz) (eE _ rfl));have sz:hh.objs.size=he.objs.size+1:=by rw[sh.1,sg.1,rM]
 rw[size] at zh tn sz;show Q (some (.ref he.objs.size)) _;rw[size];exact q hh zh (up _ _ z2.symm te) (N1.keep _ _ _ e1 λc o lG e=>up c o (by rcases lG with rfl|rfl;exact z3.symm;exact z5.symm) e) (N2.keep _ _ _ e2 λc o lG e=>up c o (by rcases lG with rfl|rfl;exact z4.symm;exact z6.symm) e) tn sz λc o c1 c2 c3 c4 e=>up c o c1 (kept c o c1 c2 c3 c4 e)
theorem zjr(hn:A.handled=none)(N1:mj prog w i1 l1 st1 xs)(N2:mj prog w i2 l2 st2 ys)(D:m6 z TI TO i1 i2 l1 l2)(hz:IsZip s.heap z TI TO .none)(RK:IsPair s.heap TI (.ref i1) (.ref i2))(RL:IsPair s.heap TO a b)
  (h1:st1 k s.heap) (h2:st2 k s.heap) (hx:xs[k]?=none\/ys[k]?=none) (q:∀h',(∀c o,c≠z->c≠TO->c≠i1->c≠i2->s.heap.get? c=some o->h'.get? c=some o)->Q none {s with heap:=h'}):wpAny (model prog w) A (pyNext (.ref z)) Q E s:=by
 obtain⟨⟨z1,z2,z3,z4,z5,z6⟩,⟨t1,t2,t3,t4,t5⟩,⟨j1,j2,j3,j4,j5,j6,j7⟩⟩:=D;have hT:s.TypeIs (.ref z) "zip":=⟨_,hz,rfl⟩;have stop:∀(h':Heap) (e:Addr),(∀c o,c≠z->c≠TO->c≠i1->c≠i2->s.heap.get? c=some o->h'.get? c=some o)->(∃o,h'.get? e=some o/\o.cls=.type "StopIteration")->
   wpAny (model prog w) A (do if <-isInstance (.ref e) (.type "StopIteration") then pure none else throw (.ref e):Sem (Option Value)) Q E {s with heap:=h'}:=λh' e kp ⟨o,ho,hc⟩=>
  aB (Ly (T:="StopIteration") (b:=true) ⟨o,ho,hc⟩ isSubtype_stop (aM (q h' kp)))
 unfold pyNext;refine aB (Ew (yR (name:=Str.ofString "__next__") hT Lz (wK Lz hT F.entry_zip_next ?_ (F.args_zip_next_1 _))));show wpAny _ A.in1 (field (.ref z) 2 >>= _) _ _ s;refine aB (lg hz rfl (x:=.bool false) rfl ?_);show wpAny _ A.in1 (field (.ref z) 3 >>= _) _ _ s;refine aB (lg hz rfl (x:=.ref TI) rfl (aB (rN RK rfl ?_)));show wpAny _ A.in1 (Builtin.SmallTypes.ownedTupleIsFree (.ref z) >>= _) _ _ s;refine aB ?_;unfold Builtin.SmallTypes.ownedTupleIsFree;refine aB (lg hz rfl (x:=.none) rfl (aM ?_));simp only[if_true];refine aB (zm (aB (lg hz rfl (x:=.ref TO) rfl (aB (Eh hz (by simp) λha za sa=>aB ?_)))))
 replace za:IsZip ha z TI TO .ellipsis:=za
 simp only[List.zipIdx_cons,List.zipIdx_nil,Eu,LR];refine aB (aB (wpAny_onRaise ?_));show wpAny _ A.in1 (Builtin.SmallTypes.nextOf (.ref i1) >>= _) _ _ _;have ka:st1 k ha:=N1.keep _ _ _ h1 λc o hc e=>sa.extBut c o (by rcases hc with rfl|rfl;exact z3.symm;exact z5.symm) e;cases ex:xs[k]? with
 |none=>
  refine aB (N1.fin _ _ {s with heap:=ha} k _ hn ka ex λhb e sb se=>?_);obtain⟨oe,ho,hc⟩:=se;have zb:IsZip hb z TI TO .ellipsis:=sb _ _ z3 za;have ne:e≠z:=λy=>by subst y;rw[zb] at ho;cases ho;simp at hc
  exact Eh zb (by simp) λhd _ sd=>stop hd e (λc o c1 _ c3 _ y=>sd.extBut _ _ c1 (sb _ _ c3 (sa.extBut _ _ c1 y))) ⟨oe,sd.extBut _ _ ne ho,hc⟩
 |some x=>
  have ey:ys[k]?=none:=by
   rcases hx with y|y
   ·rw[ex] at y;cases y
   ·exact y
  refine aB (N1.item _ _ {s with heap:=ha} k x _ ka ex λhb YZ sb=>aM ?_);have tb:IsPair hb TO a b:=sb.extBut _ _ t2 (sa.extBut _ _ z2.symm RL);refine aB (rN tb rfl (aB (Pz tb λhc tc sc=>aB (zj (aM ?_)))));refine aB (aB (wpAny_onRaise ?_));show wpAny _ A.in1 (Builtin.SmallTypes.nextOf (.ref i2) >>= _) _ _ _;have k2:st2 k hc:=N2.keep _ _ _ h2 λc o lG e=>by
   rcases lG with rfl|rfl
   ·exact sc.extBut _ _ t3.symm (sb.extBut _ _ j3.symm (sa.extBut _ _ z4.symm e))
   ·exact sc.extBut _ _ t5.symm (sb.extBut _ _ j5.symm (sa.extBut _ _ z6.symm e))
  refine aB (N2.fin _ _ {s with heap:=hc} k _ hn k2 ey λhd e sd se=>?_);obtain⟨oe,ho,qb⟩:=se;have zd:IsZip hd z TI TO .ellipsis:=sd _ _ z4 (sc.extBut _ _ z2 (sb.extBut _ _ z3 za));have ne:e≠z:=λy=>by subst y;rw[zd] at ho;cases ho;simp at qb
  exact Eh zd (by simp) λhf _ sf=>stop hf e (λc o c1 c2 c3 c4 y=>sf.extBut _ _ c1 (sd _ _ c4 (sc.extBut _ _ c2 (sb.extBut _ _ c3 (sa.extBut _ _ c1 y))))) ⟨oe,sf.extBut _ _ ne ho,qb⟩
end
noncomputable def Ck:Bool->Heap->Addr->Array Value->Prop
 |true,h,l,xs=>h.IsList l xs
 |false,h,l,xs=>h.IsTuple l xs
noncomputable def Rk:Bool->Addr->Addr->Nat->Heap->Prop
 |true,it,l,i,h=>h.IsListIter it l i
 |false,it,l,i,h=>h.IsTupleIter it l i
noncomputable def Sk:Bool->W.Frag->Hp->Addr->List V->Prop
 |true,K,H,l,xs=>dj K H l xs
 |false,K,H,l,xs=>gw K H l xs
noncomputable def gM:Bool->Addr->Obj
 |true,l=>{cls:=.type "list_iterator",data:=.fields #[.ref l,.int 0 0]}
 |false,l=>{cls:=.type "tuple_iterator",data:=.fields #[.ref l,.int 0 0]}
theorem mj.of(kd:Bool)(tR:l≠it):mj prog w it l (λi h=>Rk kd it l i h/\Ck kd h l its) its:=by
 cases kd
 ·exact mj.tuple tR
 ·exact mj.list tR
theorem Ck.keep(x:Ck kd h l xs)(k:∀o,h.get? l=some o->h'.get? l=some o):Ck kd h' l xs:=by
 cases kd
 ·exact IsTuple.at' x k
 ·exact Heap.IsList.at x k
theorem Rk.keep(x:Rk kd it l i h)(k:∀o,h.get? it=some o->h'.get? it=some o):Rk kd it l i h':=by
 cases kd
 ·exact IsTupleIter.at' x k
 ·exact Heap.IsListIter.at x k
theorem Rk.obj(x:Rk kd it l i h):∃o,h.get? it=some o/\∀v,o.data≠.cell v:=by
 cases kd
 ·obtain⟨o,e,c,d⟩:=x;exact⟨o,e,λv z=>by rw[d] at z;cases z⟩
 ·obtain⟨o,e,c,d⟩:=x;exact⟨o,e,λv z=>by rw[d] at z;cases z⟩
theorem Ck.lt(x:Ck kd h l xs):l<h.objs.size:=by
 cases kd
 ·obtain⟨o,e,_⟩:=x;exact bQ e
 ·obtain⟨o,e,_⟩:=x;exact bQ e
section
variable {prog:Program}{w:World}{A:Around}{E:Value->Shared->Prop}{s:Shared}
theorem M7(c:Ck kd s.heap l xs)(q:Q (.ref s.heap.objs.size) {s with heap:=s.heap.push (gM kd l)}):wpAny (model prog w) A (pyIter (.ref l)) Q E s:=by
 cases kd
 ·exact wpAny_pyIter_tuple c q
 ·exact GJ c q
end
noncomputable def zH(h:Heap)(k1 k2:Bool)(l1 l2:Addr):Heap:=((((h.push (gM k1 l1)).push (gM k2 l2)).push {cls:=.type "tuple",data:=.seq #[.ref h.objs.size,.ref (h.push (gM k1 l1)).objs.size]}).push {cls:=.type "tuple",data:=.seq #[.none,.none]}).push
 {cls:=.type "zip",data:=.fields #[.none,.bool false,.bool false,.ref ((h.push (gM k1 l1)).push (gM k2 l2)).objs.size,.ref (((h.push (gM k1 l1)).push (gM k2 l2)).push {cls:=.type "tuple",data:=.seq #[.ref h.objs.size,.ref (h.push (gM k1 l1)).objs.size]}).objs.size]}
theorem zhV(k1 k2:Bool)(l1 l2:Addr)(xs ys:Array Value):Meets (Builtin.«zip.__new__» ⟨[.type "zip",.ref l1,.ref l2],[]⟩) (λ_ R s=>Ck k1 s.heap l1 xs/\Ck k2 s.heap l2 ys /\
   R (.ok (.ret (.ref ((((s.heap.push (gM k1 l1)).push (gM k2 l2)).push {cls:=.type "tuple",data:=.seq #[.ref s.heap.objs.size,.ref (s.heap.push (gM k1 l1)).objs.size]}).push {cls:=.type "tuple",data:=.seq #[.none,.none]}).objs.size))) {s with heap:=zH s.heap k1 k2 l1 l2}):=
 .of_wp λprog w A R s h=>by
  obtain⟨hp,g,d,tk,os⟩:=s;obtain⟨c1,c2,h⟩:=h;have hsub:=sub_zip;have C1:Ck k1 (Shared.heap ⟨hp,g,d,tk,os⟩) l1 xs:=c1;have C2:Ck k2 (Shared.heap ⟨hp.push (gM k1 l1),g,d,tk,os⟩) l2 ys:=c2.keep λo e=>cG _ e
  wp_walk using M7 C1,M7 C2
  exact⟨_,rfl,h⟩
section
variable {prog:Program}{w:World}{A:Around}{E:Value->Shared->Prop}{s:Shared}
theorem zjm(c1:Ck k1 s.heap l1 xs)(c2:Ck k2 s.heap l2 ys)
  (h:∀h',IsZip h' (s.heap.objs.size+4) (s.heap.objs.size+2) (s.heap.objs.size+3) .none->IsPair h' (s.heap.objs.size+2) (.ref s.heap.objs.size) (.ref (s.heap.objs.size+1))->IsPair h' (s.heap.objs.size+3) .none .none->
   Rk k1 s.heap.objs.size l1 0 h'->Rk k2 (s.heap.objs.size+1) l2 0 h'->(∀c o,s.heap.get? c=some o->h'.get? c=some o)->Q (.ref (s.heap.objs.size+4)) {s with heap:=h'}) :
  wpAny (model prog w) A (call (.type "zip") [.ref l1,.ref l2]) Q E s:=by
 refine callType_new F.called_zip (by decide) (F.typeCall_zip_2 _ _) (F.newCall_zip_2 _ _) (λobj=>F.args_object_init_3 obj _ _) F.entry_zip_new (zhV k1 k2 l1 l2 xs ys) ⟨c1,c2,?_⟩;have n1:(s.heap.push (gM k1 l1)).objs.size=s.heap.objs.size+1:=rM ..;have n2:((s.heap.push (gM k1 l1)).push (gM k2 l2)).objs.size=s.heap.objs.size+2:=by rw[rM,n1]
 have fr:∀kd l,(gM kd l).isFreed=false:=λkd l=>by cases kd<;>rfl
 have rk:∀{h:Heap} {a:Addr} {kd:Bool} {l:Addr},h.get? a=some (gM kd l)->Rk kd a l 0 h:=λ{h a kd l} e=>by
  cases kd
  ·exact⟨_,e,rfl,rfl⟩
  ·exact⟨_,e,rfl,rfl⟩
 have o1:(s.heap.push (gM k1 l1)).get? s.heap.objs.size=some (gM k1 l1):=eE _ (fr _ _);have o2:((s.heap.push (gM k1 l1)).push (gM k2 l2)).get? (s.heap.objs.size+1)=some (gM k2 l2):=by
  have:=eE (s.heap.push (gM k1 l1)) (o:=gM k2 l2) (fr _ _);rw[n1] at this;exact this
 generalize hA:(s.heap.push (gM k1 l1)).push (gM k2 l2)=M8 at *;have eH:zH s.heap k1 k2 l1 l2=((M8.push {cls:=.type "tuple",data:=.seq #[.ref s.heap.objs.size,.ref (s.heap.objs.size+1)]}).push {cls:=.type "tuple",data:=.seq #[.none,.none]}).push {cls:=.type "zip",data:=.fields #[.none,.bool false,.bool false,.ref (s.heap.objs.size+2),.ref (s.heap.objs.size+3)]}:=by
  unfold zH;rw[hA,n1,n2,rM,n2]
 have n3:(M8.push {cls:=.type "tuple",data:=.seq #[.ref s.heap.objs.size,.ref (s.heap.objs.size+1)]}).objs.size=s.heap.objs.size+3:=by rw[rM,n2]
 have n4:((M8.push {cls:=.type "tuple",data:=.seq #[.ref s.heap.objs.size,.ref (s.heap.objs.size+1)]}).push {cls:=.type "tuple",data:=.seq #[.none,.none]}).objs.size=s.heap.objs.size+4:=by rw[rM,n3]
 rw[n1,n4];have g5:(zH s.heap k1 k2 l1 l2).get? (s.heap.objs.size+4)=some {cls:=.type "zip",data:=.fields #[.none,.bool false,.bool false,.ref (s.heap.objs.size+2),.ref (s.heap.objs.size+3)]}:=by
  rw[eH,<-n4];exact eE _ rfl
 have g4:(zH s.heap k1 k2 l1 l2).get? (s.heap.objs.size+3)=some {cls:=.type "tuple",data:=.seq #[.none,.none]}:=by
  rw[eH,<-n3];exact cG _ (eE _ rfl)
 have g3:(zH s.heap k1 k2 l1 l2).get? (s.heap.objs.size+2)=some {cls:=.type "tuple",data:=.seq #[.ref s.heap.objs.size,.ref (s.heap.objs.size+1)]}:=by
  rw[eH,<-n2];exact cG _ (cG _ (eE _ rfl))
 have up:∀c o,M8.get? c=some o->(zH s.heap k1 k2 l1 l2).get? c=some o:=λc o e=>by rw[eH];exact cG _ (cG _ (cG _ e))
 refine⟨⟨_,g5,rfl⟩,h _ g5 g3 g4 (rk (up _ _ ?_)) (rk (up _ _ o2)) λc o e=>up _ _ ?_⟩
 ·rw[<-hA];exact cG _ o1
 ·rw[<-hA];exact cG _ (cG _ e)
end
noncomputable def RM(K:W.Frag)(k1 k2:Bool)(l1 l2:Addr):It:=
 ⟨λi H=>∃xs ys x y,Sk k1 K H l1 xs/\Sk k2 K H l2 ys/\xs[i]?=some x/\ys[i]?=some y,
  λi H v H'=>∃a x y,H a=none/\v=.ref a/\H'=upd H a (.tup [x,y])/\(∀xs,Sk k1 K H l1 xs->xs[i]?=some x)/\∀ys,Sk k2 K H l2 ys->ys[i]?=some y,
  λi H=>∃xs ys,Sk k1 K H l1 xs/\Sk k2 K H l2 ys/\(xs.length<=i\/ys.length<=i)⟩
section
variable {X:Cx}{ao:List (Addr×Obj)}{Z:St}{H:Hp}{s:Shared}{kd:Bool}{l:Addr}{xs ys:List V}
theorem Inv.row(I:Inv X ao Z H s)(h:Sk kd X.K H l xs):∃its:List Value,Vals xs its/\Ck kd s.heap l its.toArray:=by
 cases kd
 ·obtain⟨its,rv,p,hz⟩:=I.tuple h;exact⟨its,rv,p⟩
 ·obtain⟨its,rv,p,hz⟩:=I.list h;exact⟨its,rv,p.isList⟩
theorem Inv.m7(I:Inv X ao Z H s)(h:Sk kd X.K H l xs)(h':Sk kd X.K H l ys):xs=ys:=by
 cases kd
 ·exact I.lX h h'
 ·exact I.ou h h'
end
theorem zh4{P:Program}{w:World}{K:W.Frag}{elts:List Expr}{kk:Nat}{pos:Pos}{k1 k2:Bool}{l1 l2 z TI TO i1 i2:Addr}(D:m6 z TI TO i1 i2 l1 l2) :
  Turn P w K (.Tuple elts kk pos) (RM K k1 k2 l1 l2) [z,TI,TO,i1,i2] z (λi h=>IsZip h z TI TO .none/\IsPair h TI (.ref i1) (.ref i2)/\(∃a b,IsPair h TO a b)/\Rk k1 i1 l1 i h/\Rk k2 i2 l2 i h) where
 mem:=by simp
 obj:=λi h ⟨a1,a2,⟨p,q,a3⟩,a4,a5⟩ b hb=>by
  have:b=z\/b=TI\/b=TO\/b=i1\/b=i2:=by simpa using hb
  rcases this with rfl|rfl|rfl|rfl|rfl
  ·exact⟨_,a1,λv y=>by cases y⟩
  ·exact⟨_,a2,λv y=>by cases y⟩
  ·exact⟨_,a3,λv y=>by cases y⟩
  ·exact a4.obj
  ·exact a5.obj
 keep:=λi h h' ⟨a1,a2,⟨p,q,a3⟩,a4,a5⟩ k=>⟨k z (by simp) _ a1,k TI (by simp) _ a2,⟨p,q,k TO (by simp) _ a3⟩,a4.keep λo e=>k i1 (by simp) o e,a5.keep λo e=>k i2 (by simp) o e⟩
 item:=by
  intro X hP hw hK hc i ao s Z H E I hf ⟨a1,a2,⟨p,q,a3⟩,a4,a5⟩ hg;subst hP hw hK;obtain⟨xs,ys,x,y,Fx,Fy,hx,hy⟩:=hg;obtain⟨Y0,M9,c1⟩:=I.row Fx;obtain⟨Ce,M_,c2⟩:=I.row Fy;obtain⟨u,hu,ru⟩:=M9.get hx;obtain⟨v,hv,rv⟩:=M_.get hy;have D':=D;obtain⟨⟨z1,z2,z3,z4,z5,z6⟩,⟨t1,t2,t3,t4,t5⟩,⟨j1,j2,j3,j4,j5,j6,j7⟩⟩:=D';refine zhx (mj.of k1 j4.symm) (mj.of k2 j7.symm) D a1 a2 a3 ⟨a4,c1⟩ ⟨a5,c2⟩ (x:=u) (y:=v) (by simpa using hu) (by simpa using hv) λh1 b1 b2 b3 b4 b5 b6 kp=>?_;refine⟨_,rfl,wpAny_letOwnedTupleGo_zip (s:={s with heap:=h1}) b1 λh2 e2 sb=>?_⟩;have RN:IsPair h2 s.heap.objs.size u v:=(sb.2 _ (pO (bQ a1))).trans b5;have kk:∀b o,b∉[z,TI,TO,i1,i2]->s.heap.get? b=some o->h2.get? b=some o:=λb o hb e=>(sb.2 b λy=>hb (by simp[y])).trans (kp b o (λy=>hb (by simp[y])) (λy=>hb (by simp[y])) (λy=>hb (by simp[y])) (λy=>hb (by simp[y])) e);have I2:=I.lZ (t':=s.toks) (a:=s.heap.objs.size) (o:=.tup [x,y]) kk (λb hb=>hf b hb) (cD _) (show bI X.prog X.w _ h2 _ (.tup [x,y]) from ⟨by show 2<=sizeLine;decide,[u,v],.cons ru (.cons rv .nil),⟨_,RN,rfl,_,rfl⟩⟩);have hn:H s.heap.objs.size=none:=I.hok.fresh (cD _);refine⟨.ref s.heap.objs.size,_,I2,rfl,⟨_,x,y,hn,rfl,rfl,λzs hz=>by rw[I.m7 hz Fx];exact hx,λzs hz=>by rw[I.m7 hz Fy];exact hy⟩,⟨e2,(sb.2 _ z1.symm).trans (kp _ _ z1.symm t1.symm j1 j2 a2),⟨_,_,(sb.2 _ z2.symm).trans b2⟩,b3.1.keep λo e=>(sb.2 _ z3.symm).trans e,b4.1.keep λo e=>(sb.2 _ z4.symm).trans e⟩,λb hb=>?_⟩;have nb:b≠s.heap.objs.size:=by
   have:b=z\/b=TI\/b=TO\/b=i1\/b=i2:=by simpa using hb
   rcases this with rfl|rfl|rfl|rfl|rfl
   ·exact c7 (bQ a1)
   ·exact c7 (bQ a2)
   ·exact c7 (bQ a3)
   ·obtain⟨o,e,_⟩:=a4.obj;exact c7 (bQ e)
   ·obtain⟨o,e,_⟩:=a5.obj;exact c7 (bQ e)
  rw[bZ nb];exact(hf b hb).1
 done:=by
  intro X hP hw hK hc i ao s Z H E I hf ⟨a1,a2,⟨p,q,a3⟩,a4,a5⟩ hg;subst hP hw hK;obtain⟨xs,ys,Fx,Fy,hx⟩:=hg;obtain⟨Y0,M9,c1⟩:=I.row Fx;obtain⟨Ce,M_,c2⟩:=I.row Fy;have n1:=M9.length;have n2:=M_.length;refine zjr (I.ok.hd hc) (mj.of k1 D.is.2.2.2.1.symm) (mj.of k2 D.is.2.2.2.2.2.2.symm) D a1 a2 a3 ⟨a4,c1⟩ ⟨a5,c2⟩ ?_ λh' kp=>⟨rfl,I.qR (t':=s.toks) (ch:=[z,TI,TO,i1,i2]) (λb o hb e=>kp b o (λy=>hb (by simp[y])) (λy=>hb (by simp[y])) (λy=>hb (by simp[y])) (λy=>hb (by simp[y])) e) λb hb=>hf b hb⟩;rcases hx with y|y
  ·exact .inl (by simp;lia)
  ·exact .inr (by simp;lia)
 self:=λ_ _ _ _ _ ⟨a1,_⟩ h=>wpAny_pyIter_zip a1 h
section
variable {X:Cx}
noncomputable def RP(K:W.Frag)(ta:TA):TI:=λZ H R=>ta Z H λvs H1=>∃k1 k2 l1 l2 xs ys,vs=[.ref l1,.ref l2]/\Sk k1 K H1 l1 xs/\Sk k2 K H1 l2 ys/\R (RM K k1 k2 l1 l2) H1
theorem zhj:bootBuiltins "zip"=some (.type "zip"):=by decide +kernel
theorem zmo{a b:Expr}{ta:TA}{p pos tpos:Pos}{elts:List Expr}{kk:Nat}(hg:Gl X "zip")(hm:X.mg "zip"=none)(ha:PA X [a,b] ta)(hs:starEach [a,b] X.env=[(false,eval a X.env),(false,eval b X.env)]:=by rfl)(zB:starEach [b] X.env=[(false,eval b X.env)]:=by rfl) :
  PI X (.Tuple elts kk tpos) (.Call (.Name "zip" p) [a,b] [] pos) (RP X.K ta):=by
 intro ao s Z H R I h;refine Call_ (tO I hg hm zhj (wH (aV (ha pos ao s Z H _ I h) λus s1 ⟨vs,H1,I1,r1,q1⟩=>?_) (by rw[hs,zB]) (by rw[zB];rfl)));obtain⟨k1,k2,l1,l2,xs,ys,e,Fx,Fy,q⟩:=q1;subst e;cases r1 with
 |cons r rr=>
  cases rr with
  |cons r' rr=>
   cases rr;cases r;cases r';obtain⟨Y0,M9,c1⟩:=I1.row Fx;obtain⟨Ce,M_,c2⟩:=I1.row Fy;have m1:=c1.lt;have m2:=c2.lt;refine zjm c1 c2 λh' b1 b2 b3 b4 b5 kp=>?_;refine wpAny_pyIter_zip b1 ?_;have ne:∀{u v:Nat},u<v->u≠v:=λh=>c7 h;have D:m6 (s1.heap.objs.size+4) (s1.heap.objs.size+2) (s1.heap.objs.size+3) s1.heap.objs.size (s1.heap.objs.size+1) l1 l2:=
    ⟨⟨(ne (by lia)).symm,(ne (by lia)).symm,(ne (by lia)).symm,(ne (by lia)).symm,(ne (gb m1 (by lia))).symm,(ne (gb m2 (by lia))).symm⟩,
     ⟨(ne (by lia)).symm,(ne (by lia)).symm,(ne (by lia)).symm,(ne (gb m1 (by lia))).symm,(ne (gb m2 (by lia))).symm⟩,
     ⟨(ne (by lia)).symm,(ne (by lia)).symm,ne (by lia),(ne m1).symm,(ne m2).symm,(ne (gb m1 (by lia))).symm,(ne (gb m2 (by lia))).symm⟩⟩
   refine⟨s1.heap.objs.size+4,[s1.heap.objs.size+4,s1.heap.objs.size+2,s1.heap.objs.size+3,s1.heap.objs.size,s1.heap.objs.size+1],_,_,H1,rfl,I1.kept (t':=s1.toks) kp,zh4 D,⟨b1,b2,⟨_,_,b3⟩,b4,b5⟩,λb hb=>?_,q⟩;have:s1.heap.objs.size<=b:=by
    have:b=s1.heap.objs.size+4\/b=s1.heap.objs.size+2\/b=s1.heap.objs.size+3\/b=s1.heap.objs.size\/b=s1.heap.objs.size+1:=by simpa using hb
    rcases this with rfl|rfl|rfl|rfl|rfl<;>lia
   exact I1.uy this (I1.hok.fresh this)
end
noncomputable def Ite(K:W.Frag)(kd:Bool)(l:Addr):It:=
 ⟨λi H=>∃xs x,Sk kd K H l xs/\xs[i]?=some x,λi H v H'=>∃a x,H a=none/\v=.ref a/\H'=upd H a (.tup [.int i,x])/\∀xs,Sk kd K H l xs->xs[i]?=some x,λi H=>∃xs,Sk kd K H l xs/\xs.length<=i⟩
theorem Cg{prog:Program}{w:World}{A:Around}(hh:A.handled=none)(kd:Bool){it l:Addr}(tR:l≠it)(its:Array Value):Draws prog w A it [it,l] its.size (λi v=>its[i]?=some v) (λi h=>Rk kd it l i h/\Ck kd h l its) where
 live:=λ_ _ st=>let ⟨o,e,_⟩:=st.1.obj;⟨o,e⟩
 frame:=λ_ _ _ st k=>⟨st.1.keep λo e=>k it (by simp) o e,st.2.keep λo e=>k l (by simp) o e⟩
 item:=λi s Q E hi st q=>(mj.of kd tR).item A E s i its[i] Q st (by simp[hi]) λh' a b=>q _ h' s.toks (by simp[hi]) a b
 done:=λs Q E st q=>(mj.of kd tR).fin A E s its.size Q hh st (by simp) q
theorem zhp(kd:Bool)(l:Addr)(xs:Array Value):Meets (Builtin.«enumerate.__new__» ⟨[.type "enumerate",.ref l],[]⟩) (λ_ R s=>Ck kd s.heap l xs /\
   R (.ok (.ret (.ref (s.heap.push (gM kd l)).objs.size))) {s with heap:=(s.heap.push (gM kd l)).push {cls:=.type "enumerate",data:=.fields #[.none,.bool false,.ref s.heap.objs.size,rawInt 0,.none,.none]}}):=
 .of_wp λprog w A R s h=>by
  obtain⟨hp,g,d,tk,os⟩:=s;obtain⟨c1,h⟩:=h;have hsub:=sub_enumerate;have C1:Ck kd (Shared.heap ⟨hp,g,d,tk,os⟩) l xs:=c1;obtain⟨ol,el⟩ : ∃o,hp.get? l=some o:=by
   cases kd
   ·obtain⟨o,e,_⟩:=c1;exact⟨o,e⟩
   ·obtain⟨o,e,_⟩:=c1;exact⟨o,e⟩
  wp_walk using Ld el
  refine wpAny_stack_any λst=>aM ?_
  split
  ·rename_i c _ _ _ _ _;cases (c==Value.type "enumerate")<;>(wp_walk using Ld el,M7 C1;exact⟨_,rfl,h⟩)
  ·wp_walk using Ld el,M7 C1
   exact⟨_,rfl,h⟩
theorem zhI{prog:Program}{w:World}{A:Around}{E:Value->Shared->Prop}{s:Shared}{e it l:Addr}{its:Array Value}{st:Nat->Heap->Prop}{i:Nat}{old:Value}{Q:Option Value->Shared->Prop}(hh:A.handled=none)(N:mj prog w it l st its)(he:IsEnum s.heap e it i old)(Bq:st i s.heap)(hx:its[i]?=none)
  (q:∀h',Heap.ExtBut it s.heap h'->Q none {s with heap:=h'}):wpAny (model prog w) A (pyNext (.ref e)) Q E s:=by
 have ty:s.TypeIs (.ref e) "enumerate":=⟨_,he,rfl⟩;have body:∀{E':Value->Shared->Prop},(∀h' x,Heap.ExtBut it s.heap h'->(∃o,h'.get? x=some o/\o.cls=.type "StopIteration")->E' (.ref x) {s with heap:=h'})->wpAny (model prog w) A.in1 (Builtin.«enumerate.__next__» ⟨[.ref e],[]⟩) (λ_ _=>False) E' s:=λk=>by
  show wpAny _ A.in1 (field (.ref e) 2 >>= _) _ _ _;exact aB (lg he rfl (x:=.ref it) rfl (aB (N.fin A.in1 _ s i _ hh Bq hx k)))
 unfold pyNext;refine aB (Ew (yR (name:=Str.ofString "__next__") ty F.slot_enumerate_next (wK F.slot_enumerate_next ty F.entry_enumerate_next (gj (body λh' x a b=>?_) (λ_ _ z=>z.elim) λ_ _ z=>z) (F.args_enumerate_next_1 _))));obtain⟨o,a1,a2⟩:=b;exact aB (Ly (T:="StopIteration") (b:=true) ⟨o,a1,a2⟩ isSubtype_stop (aM (q h' a)))
theorem zfR{P:Program}{w:World}{K:W.Frag}{elts:List Expr}{kk:Nat}{pos:Pos}{kd:Bool}{l e it:Addr}(RQ:e≠it)(Y4:l≠it)(hle:l≠e) :
  Turn P w K (.Tuple elts kk pos) (Ite K kd l) [e,it] e (λi h=>(∃old,IsEnum h e it i old)/\Rk kd it l i h) where
 mem:=by simp
 obj:=λi h ⟨⟨old,he⟩,st⟩ b hb=>by
  have:b=e\/b=it:=by simpa using hb
  rcases this with rfl|rfl
  ·exact⟨_,he,λv z=>by cases z⟩
  ·exact st.obj
 keep:=λi h h' ⟨⟨old,he⟩,st⟩ k=>⟨⟨old,k e (by simp) _ he⟩,st.keep λo e=>k it (by simp) o e⟩
 item:=by
  intro X hP hw hK hc i ao s Z H E I hf ⟨⟨old,he⟩,st⟩ hg;subst hP hw hK;obtain⟨xs,x,hq,hx⟩:=hg;obtain⟨its,rv,p⟩:=I.row hq;obtain⟨u,hu,ru⟩:=rv.get hx;have cF:i<its.toArray.size:=by simpa using (f9.mp hu).1
  refine wpAny_pyNext_enum_itemD (Cg (A:=X.A.in1) (I.ok.hd hc) kd Y4 its.toArray) he ⟨st,p⟩ cF RQ (by simp[RQ,hle.symm]) λu' h1 tk hP ho RT hT hsz hk=>?_;have eu:u'=u:=by
   have:its[i]?=some u':=by simpa using hP
   rw[hu] at this;cases this;rfl
  subst eu;refine⟨_,rfl,wpAny_letOwnedTupleGo_enum (s:={s with heap:=h1,toks:=tk+1}) ho λh2 he2 sb=>?_⟩;have RN:h2.get? s.heap.objs.size=some {cls:=.type "tuple",data:=.seq #[.int i tk,u']}:=(sb.2 _ (pO (bQ he))).trans hT;have kk:∀b o,b∉[e,it]->s.heap.get? b=some o->h2.get? b=some o:=λb o hb q=>(sb.2 b λz=>hb (by simp[z])).trans (hk b o (λz=>hb (by simp[z])) (λz=>hb (by simp[z])) q);have I2:=I.lZ (t':=tk+1) (a:=s.heap.objs.size) (o:=.tup [.int i,x]) kk (λb hb=>hf b hb) (cD _) (show bI X.prog X.w _ h2 _ (.tup [.int i,x]) from ⟨by show 2<=sizeLine;decide,[.int i tk,u'],.cons ⟨_,rfl⟩ (.cons ru .nil),⟨_,RN,rfl,_,rfl⟩⟩);have hn:H s.heap.objs.size=none:=I.hok.fresh (cD _);refine⟨.ref s.heap.objs.size,_,I2,rfl,⟨_,x,hn,rfl,rfl,λys hy=>by rw[I.m7 hy hq];exact hx⟩,⟨⟨_,by simpa using he2⟩,RT.1.keep λo q=>(sb.2 it RQ.symm).trans q⟩,λb hb=>?_⟩;have nb:b≠s.heap.objs.size:=by
   have:b=e\/b=it:=by simpa using hb
   rcases this with rfl|rfl
   ·exact c7 (bQ he)
   ·obtain⟨o,q,_⟩:=st.obj;exact c7 (bQ q)
  rw[bZ nb];exact(hf b hb).1
 done:=by
  intro X hP hw hK hc i ao s Z H E I hf ⟨⟨old,he⟩,st⟩ hg;subst hP hw hK;obtain⟨xs,hq,hx⟩:=hg;obtain⟨its,rv,p⟩:=I.row hq;have hl:=rv.length;exact zhI (I.ok.hd hc) (mj.of kd Y4) he ⟨st,p⟩ (by simp;lia) λh' eb=>⟨rfl,I.qR (t':=s.toks) (ch:=[e,it]) (λb o hb q=>eb b o (λz=>hb (by simp[z])) q) λb hb=>hf b hb⟩
 self:=λ_ _ _ _ _ ⟨⟨old,he⟩,_⟩ h=>wpAny_pyIter_enum he h
section
variable {X:Cx}
noncomputable def I_(K:W.Frag)(ta:TA):TI:=λZ H R=>ta Z H λvs H1=>∃kd l xs,vs=[.ref l]/\Sk kd K H1 l xs/\R (Ite K kd l) H1
theorem zgR:bootBuiltins "enumerate"=some (.type "enumerate"):=by decide +kernel
theorem zje{a:Expr}{ta:TA}{p pos tpos:Pos}{elts:List Expr}{kk:Nat}(hg:Gl X "enumerate")(hm:X.mg "enumerate"=none)(ha:PA X [a] ta)(hs:starEach [a] X.env=[(false,eval a X.env)]:=by rfl):PI X (.Tuple elts kk tpos) (.Call (.Name "enumerate" p) [a] [] pos) (I_ X.K ta):=by
 intro ao s Z H R I h;refine Call_ (tO I hg hm zgR (wH (aV (ha pos ao s Z H _ I h) λus s1 ⟨vs,H1,I1,r1,q1⟩=>?_) hs rfl));obtain⟨kd,l,xs,e,hq,q⟩:=q1;subst e;cases r1 with
 |cons r rr=>
  cases rr;cases r;obtain⟨its,rv,p⟩:=I1.row hq;have hl:l<s1.heap.objs.size:=p.lt;refine callType_new F.called_enumerate (by decide) (F.typeCall_enumerate_1 _) (F.newCall_enumerate_1 _) (λobj=>F.args_object_init_2 obj _) F.entry_enumerate_new (zhp kd l its.toArray) ⟨p,?_⟩;have n1:(s1.heap.push (gM kd l)).objs.size=s1.heap.objs.size+1:=rM ..;have he:IsEnum ((s1.heap.push (gM kd l)).push {cls:=.type "enumerate",data:=.fields #[.none,.bool false,.ref s1.heap.objs.size,rawInt 0,.none,.none]}) (s1.heap.objs.size+1) s1.heap.objs.size 0 .none:=by
   have:=eE (s1.heap.push (gM kd l)) (o:={cls:=.type "enumerate",data:=.fields #[.none,.bool false,.ref s1.heap.objs.size,rawInt 0,.none,.none]}) rfl;rw[n1] at this;exact this
  show _/\_;rw[n1];refine⟨⟨_,he,rfl⟩,wpAny_pyIter_enum (s:={s1 with heap:=(s1.heap.push (gM kd l)).push {cls:=.type "enumerate",data:=.fields #[.none,.bool false,.ref s1.heap.objs.size,rawInt 0,.none,.none]}}) he ?_⟩;have rk:Rk kd s1.heap.objs.size l 0 ((s1.heap.push (gM kd l)).push {cls:=.type "enumerate",data:=.fields #[.none,.bool false,.ref s1.heap.objs.size,rawInt 0,.none,.none]}):=by
   cases kd
   ·exact⟨_,cG _ (eE _ rfl),rfl,rfl⟩
   ·exact⟨_,cG _ (eE _ rfl),rfl,rfl⟩
  refine⟨s1.heap.objs.size+1,[s1.heap.objs.size+1,s1.heap.objs.size],_,_,H1,rfl,I1.kept (t':=s1.toks) λb o x=>cG _ (cG _ x),zfR (kd:=kd) (l:=l) (Nat.succ_ne_self _) (c7 hl) (c7 (qG hl)),⟨⟨_,he⟩,rk⟩,λb hb=>?_,q⟩;have:s1.heap.objs.size<=b:=by
   have:b=s1.heap.objs.size+1\/b=s1.heap.objs.size:=by simpa using hb
   rcases this with rfl|rfl
   ·exact uc _
   ·exact cD _
  exact I1.uy this (I1.hok.fresh this)
end
end L2
set_option genSizeOf false
set_option genInjectivity false
namespace Mi
open PySem
inductive D where
 |non|bl (b:Bool)|int (i:Int)|str (s:Str)|tup (xs:List D)|fl (xs:List D)|fd (ks vs:List D)|exc (c:Nat) (fs:List D)|ob (c:Nat) (fs:List D)|any
inductive Xv where
 |d (x:D)|l (n:Nat)
inductive Kx where
 |non|int (i:Int)|row (is:List Int)
deriving DecidableEq
inductive SO where
 |lst (xs:List D)
 |dct (kvs:List (List Kx×D))
noncomputable abbrev S:=List SO
inductive Rs (α:Type) where
 |ok (a:α)|er (c:Nat) (fs:List D)
noncomputable abbrev M(α:Type):=S->Option (Rs α×S)
noncomputable def M.ret{α:Type}(a:α):M α:=λs=>some (.ok a,s)
noncomputable def M.bd{α β:Type}(m:M α)(k:α->M β):M β:=λs=>match m s with
 |some (.ok a,s')=>k a s'
 |some (.er c f,s')=>some (.er c f,s')
 |none=>none
noncomputable def M.qt{α:Type}(m:M α):M α:=λs=>match m s with
 |some (.ok a,s')=>some (.ok a,s')
 |_=>none
noncomputable def M.no{α:Type}:M α:=λ_=>none
noncomputable def M.opt{α:Type}:Option α->M α
 |some a=>M.ret a
 |none=>M.no
inductive Rz where
 |dat (d:D)|nw (xs:List D)
inductive Pr where
 |add|aq|mul|fdiv|mod|pow|neg
 |eq|ne|lt|le|gt|ge|inn|nin
 |vY|tU
 |len|abs|max2|min2|xV|Ja|sG|Cj|uO|divmod|all|sum|list|tuple|sorted|qT|Cm|str1
 |ix|rev|Fz|Jc|mult|zJ
 |count|index|repr
inductive Kd where
 |int|bool|str|tuple|list|dict|cls (c:Nat)|sH
mutual
inductive E where
 |c (d:D)
 |v (i:Nat)
 |pr (fz:Bool) (p:Pr) (xs:Es)
 |xW (p q:Pr) (a b c:E)
 |Y5 (p q r:Pr) (a b c d:E)
 |and (a b:E)
 |or (a b:E)
 |not (a:E)
 |ite (c a b:E)
 |tup (xs:Es)
 |lst (fz:Bool) (xs:Es)
 |Cp (k:Str) (i:Int)
 |call (f:Nat) (xs:Es)
 |qe (a:E) (k:Kd)
 |sl (fz:Bool) (a:E) (lo hi:Eo)
 |meth (fz:Bool) (p:Pr) (k:Kd) (o:E) (xs:Es)
 |push (o a:E)
 |pop (o:E)
 |comp (fz:Bool) (elt:E) (tg:List Nat) (it:Wk) (fr:List Nat) (many:Nat) (cond:Eo)
 |mz (fz:Bool) (elt:E) (tg:List Nat) (it:Wk) (RV:List Nat) (Ce:Wk) (fr:List Nat) (many:Nat) (cond:Eo)
 |fld (o:E) (cs:List Nat) (i:Nat)
 |of (o:E) (c i:Nat)
 |mk (c f:Nat) (xs:Es)
 |cm (c f:Nat) (o:E) (xs:Es)
 |qg
 |zK (b:Bool) (k d:E)
 |oN (d k:E)
 |Cq (a:E)
 |oO (fz:Bool) (a:E) (b:E)
 |Y6 (a b:E)
 |ins (o i a:E)
 |no
inductive Wk where
 |seq (e:E)
 |rg (a b:E)
 |zip (a b:E)
 |enum (a:E)
 |Y7 (a:E)
inductive Es where
 |nil
 |cons (a:E) (r:Es)
inductive Eo where
 |no
 |yes (a:E)
end
noncomputable abbrev Ea(a:E):Es:=.cons a .nil
noncomputable abbrev Eb(a b:E):Es:=.cons a (.cons b .nil)
noncomputable abbrev Ec(a b c:E):Es:=.cons a (.cons b (.cons c .nil))
noncomputable abbrev Ei(a b:E):E:=.pr true .ix (.cons a (.cons b .nil))
noncomputable abbrev Ci(i:Int):E:=.c (.int i)
noncomputable def Es.len:Es->Nat
 |.nil=>0
 |.cons _ r=>r.len+1
inductive Tg where
 |nm (i:Nat)
 |tp (is:List Nat)
 |aq (o i:E)
mutual
inductive St where
 |pass
 |ex (e:E)
 |asg (t:Tg) (e:E)
 |par (i j:Nat) (a b:E)
 |aug (i:Nat) (e:E)
 |ret (e:E)
 |rise (c:Nat) (kp:Bool) (xs:Es)
 |iff (c:E) (t e:bR)
 |wh (c:E) (b:bR)
 |fr (t:Tg) (w:Wk) (b:bR)
 |Jd (b:bR) (d:Nat) (i:Nat) (h:bR)
 |dput (d k v:E)
 |no
inductive bR where
 |nil
 |cons (a:St) (r:bR)
end
noncomputable def dZ(eq:D->D->Option Bool):List D->List D->Option Bool
 |[],[]=>some true
 |[],_::_=>some false
 |_::_,[]=>some false
 |x::xs,y::ys=>match eq x y,dZ eq xs ys with
  |some a,some b=>some (a&&b)
  |_,_=>none
noncomputable def kq:D->Option Nat
 |.non=>some 0
 |.bl _=>some 1
 |.int _=>some 1
 |.str _=>some 2
 |.tup _=>some 3
 |.fl _=>some 4
 |_=>none
noncomputable def dM:Nat->D->D->Option Bool
 |n+1,.tup xs,.tup ys=>dZ (dM n) xs ys
 |n+1,.fl xs,.fl ys=>dZ (dM n) xs ys
 |_,.non,.non=>some true
 |_,.bl a,.bl b=>some (a==b)
 |_,.int a,.int b=>some (a==b)
 |_,.str a,.str b=>some (a==b)
 |_,.bl a,.int b=>some ((if a then 1 else 0)==b)
 |_,.int a,.bl b=>some (a==(if b then 1 else 0))
 |_,a,b=>match kq a,kq b with
  |some i,some j=>if i=j then none else some false
  |_,_=>none
noncomputable def cN:List D->Option (List Int)
 |[]=>some []
 |.int i::r=>(cN r).map (i::·)
 |_=>none
noncomputable def ltI:List Int->List Int->Bool
 |_,[]=>false
 |[],_::_=>true
 |x::xs,y::ys=>if x=y then ltI xs ys else decide (x<y)
noncomputable def eG:List D->Option (List Bool)
 |[]=>some []
 |.bl b::r=>(eG r).map (b::·)
 |_=>none
noncomputable def cut{α:Type}(xs:List α)(lo hi:Option Int):List α:=(xs.drop (HT.cC xs.length 0 lo)).take (HT.cC xs.length xs.length hi-HT.cC xs.length 0 lo)
noncomputable def lK:D->Option (List D)
 |.tup xs=>some xs
 |.fl xs=>some xs
 |_=>none
noncomputable def cutD(x:D)(lo hi:Option Int):Option Rz:=match x with
 |.tup xs=>some (.dat (.tup (cut xs lo hi)))
 |.fl xs=>some (.nw (cut xs lo hi))
 |_=>none
noncomputable def memD(d:D):List D->Option Bool
 |[]=>some false
 |x::r=>match dM 50 x d,memD d r with
  |some a,some b=>some (a||b)
  |_,_=>none
noncomputable def Cr:Kd->D->Bool
 |.list,.fl _=>true
 |.str,.str _=>true
 |.dict,.fd _ _=>true
 |_,_=>false
noncomputable def dF(f:Int->Int->Option D):List D->Option Rz
 |[.int i,.int j]=>(f i j).map .dat
 |_=>none
noncomputable def uP(f:Int->D):List D->Option Rz
 |[.int i]=>some (.dat (f i))
 |_=>none
noncomputable def sI(f:List D->Option Rz):List D->Option Rz
 |[a]=>(lK a).bind f
 |_=>none
noncomputable def Cu:List D->Option Rz
 |[.int i,.int j]=>some (.dat (.int (i+j)))
 |[.tup xs,.tup ys]=>if xs.length+ys.length<=sizeLine then some (.dat (.tup (xs++ys))) else none
 |[.fl xs,.fl ys]=>if xs.length+ys.length<=sizeLine then some (.nw (xs++ys)) else none
 |[.str x,.str y]=>if x.length+y.length<=sizeLine then some (.dat (.str (x++y))) else none
 |_=>none
noncomputable def Je:List D->Option Rz
 |[.int i,.int j]=>some (.dat (.bl (decide (i<j))))
 |[.tup xs,.tup ys]=>match cN xs,cN ys with
  |some a,some b=>some (.dat (.bl (ltI a b)))
  |_,_=>none
 |_=>none
noncomputable def Cv(f:Bool->Bool):List D->Option Rz
 |[a,b]=>(dM 50 a b).map λk=>.dat (.bl (f k))
 |_=>none
noncomputable def Cw(f:Bool->Bool):List D->Option Rz
 |[a,b]=>((lK b).bind (memD a)).map λk=>.dat (.bl (f k))
 |_=>none
noncomputable def D.uQ:D->Bool
 |.non=>true
 |_=>false
noncomputable def Cy(f:Bool->Bool):List D->Option Rz
 |[a]=>some (.dat (.bl (f a.uQ)))
 |_=>none
noncomputable def Jf:List D->Option Rz
 |[.int i]=>some (.dat (.int i))
 |[.bl k]=>some (.dat (.int (if k then 1 else 0)))
 |_=>none
noncomputable def Cz:List D->Option Rz
 |[.fl xs]=>(eG xs).map λbs=>.dat (.bl (bs.all id))
 |_=>none
noncomputable def gB:List D->Option (List Int)
 |[]=>some []
 |.int i::r=>(gB r).map (i::·)
 |_=>none
noncomputable def best(bt:Int->Int->Bool)(i:Int)(is:List Int):Int:=is.foldl (λm j=>if bt j m then j else m) i
noncomputable def qU(bt:Int->Int->Bool):Option (List Int)->Option Rz
 |some (i::is)=>some (.dat (.int (best bt i is)))
 |_=>none
noncomputable def qW(bt:Int->Int->Bool):List D->Option Rz
 |[a]=>(lK a).bind λxs=>qU bt (gB xs)
 |_=>none
noncomputable def okR(i j:Int):Bool:=decide (-(2^62)<=i/\i<2^62/\-(2^62)<=j/\j<2^62/\(j-i).toNat<=65536)
noncomputable def Jg(i:Int)(n:Nat):List D:=(List.range n).map λk=>.int (i+(k:Nat))
noncomputable def CG:List D->Option Rz
 |[.int j]=>if okR 0 j then some (.nw (Jg 0 (j-0).toNat)) else none
 |[.int i,.int j]=>if okR i j then some (.nw (Jg i (j-i).toNat)) else none
 |_=>none
noncomputable def CJ:List D->Option Rz
 |[.int j]=>if okR 0 j then some (.dat (.tup (Jg 0 (j-0).toNat))) else none
 |_=>none
noncomputable def qj:List D->Option Rz
 |[a]=>(lK a).map λxs=>.dat (.tup xs)
 |_=>none
noncomputable def RW:List D->Option Rz
 |[a,.int i]=>((lK a).bind λxs=>L2.qO xs i).map .dat
 |_=>none
noncomputable def sJ:List D->List D->Option Bool
 |[],ys=>some (decide (0<ys.length))
 |_::_,[]=>some false
 |.int x::xs,.int y::ys=>if x=y then sJ xs ys else some (decide (x<y))
 |_::_,_::_=>none
noncomputable def zL(xs:List D)(i j:Nat):Option Bool:=match xs[i]?,xs[j]? with
 |some (.int x),some (.int y)=>some (decide (x<y))
 |some (.tup us),some (.tup ws)=>sJ us ws
 |_,_=>none
noncomputable def gC(b:List Int):List (List Int)->List Int
 |[]=>b
 |x::r=>gC (if ltI x b=true then x else b) r
noncomputable def j8:List D->Option (List (List Int))
 |[]=>some []
 |.tup xs::r=>match cN xs,j8 r with
  |some a,some b=>some (a::b)
  |_,_=>none
 |_=>none
noncomputable def oR:List D->Option Rz
 |[.fl xs]=>match j8 xs with
  |some (x::r)=>some (.dat (.tup ((gC x r).map .int)))
  |_=>none
 |_=>none
noncomputable def j9:D->Bool
 |.int _=>true
 |_=>false
noncomputable def jh:D->Bool
 |.tup (.int _::_)=>true
 |_=>false
noncomputable def jr(lt:Nat->Nat->Option Bool)(xs:List D):Option (List D):=if xs.length<2 then some xs else if xs.length<64 then (match L2.bF lt (PySem.W.kas_sort xs.length) with
  |some p=>if p.size=xs.length then some (p.toList.map λi=>xs.getD i .non) else none
  |none=>none) else none
noncomputable def zM(xs:List D):Option (List D):=if xs.all j9||xs.all jh then jr (zL xs) xs else none
noncomputable def m8:List D->Option Rz
 |[.fl xs]=>(zM xs).map .nw
 |_=>none
noncomputable def zN(ks:List Int)(i j:Nat):Option Bool:=match ks[i]?,ks[j]? with
 |some x,some y=>some (decide (x<y))
 |_,_=>none
noncomputable def CK:List D->Option Rz
 |[.tup xs]=>some (.dat (.tup xs.reverse))
 |_=>none
noncomputable def CP:List D->Option Rz
 |[.fl xs,.bl b]=>(eG xs).map λbs=>.dat (.int (bs.count b))
 |_=>none
noncomputable def CQ:List D->Option Rz
 |[.fl xs,.bl b]=>((eG xs).bind λbs=>bs.idxOf? b).map λ(i:Nat)=>.dat (.int i)
 |_=>none
noncomputable def RX:List D->Option Rz
 |[.int i]=>if i.natAbs<2^62 then some (.dat (.str (Str.ofString (toString i)))) else none
 |_=>none
noncomputable def RZ(f:D->Option PyData):List D->Option (List PyData)
 |[]=>some []
 |x::r=>match f x,RZ f r with
  |some a,some b=>some (a::b)
  |_,_=>none
noncomputable def pd:Nat->D->Option PyData
 |n+1,.tup xs=>(RZ (pd n) xs).map .tuple
 |n+1,.fl xs=>(RZ (pd n) xs).map .list
 |_,.non=>some .none
 |_,.bl b=>some (.bool b)
 |_,.int i=>some (.int i)
 |_,.str x=>some (.str x)
 |_,_=>none
noncomputable def pdT:D->Option PyData
 |.fd [.str k] [.int i]=>some (.dict [(.str k,.int i)])
 |x=>pd 40 x
noncomputable def shw(d:PyData):Option Rz:=if d.showable=true/\d.shown.length<=sizeLine then some (.dat (.str d.shown)) else none
noncomputable def Jh:List D->Option Rz
 |[x]=>(pdT x).bind shw
 |_=>none
noncomputable def zO:List (Int×Int):=[(0,1),(0,2),(0,3),(0,4),(0,5),(0,6),(0,7),(1,2),(1,3),(1,4),(1,5),(1,6),(1,7),(2,3),(2,4),(2,5),(2,6),(2,7),(3,4),(3,5),(3,6),(3,7),(4,5),(4,6),(4,7),(5,6),(5,7),(6,7)]
noncomputable def ss(ts:List (Int×Int)):List (Int×Int):=zO.filter λt=>ts.contains t
noncomputable def R0:D->Option (Int×Int)
 |.tup [.int a,.int b]=>if 0<=a/\a<b/\b<8 then some (a,b) else none
 |_=>none
noncomputable def zP:List D->Option (List (Int×Int))
 |[]=>some []
 |x::r=>match R0 x,zP r with
  |some a,some b=>some (a::b)
  |_,_=>none
noncomputable def pSs:List D->Option Rz
 |[.tup xs]=>(zP xs).map λts=>.nw ((ss ts).map λp=>.tup [.int p.1,.int p.2])
 |_=>none
noncomputable def Ji(is:List Int):Bool:=decide (is.length<=1000)&&is.all λi=>decide (-1000000<=i/\i<=1000000)
noncomputable def R3(is:List Int):Option Rz:=match Ji is with
 |true=>some (.dat (.int is.sum))
 |false=>none
noncomputable def R4:List D->Option Rz
 |[a]=>(lK a).bind λxs=>(gB xs).bind R3
 |_=>none
noncomputable def m9:List Int->List Int
 |[]=>[]
 |x::r=>if r.contains x then m9 r else x::m9 r
noncomputable def Jj:List D->Option Rz
 |[.tup xs]=>(gB xs).map λis=>.dat (.int (m9 is).length)
 |_=>none
noncomputable def rep{α:Type}(xs:List α)(n:Nat):List α:=(List.replicate n xs).flatten
noncomputable def Jk:List D->Option Rz
 |[.fl xs,.int n]=>if 0<=n/\n<=1000/\xs.length<=1000 then some (.nw (rep xs n.toNat)) else none
 |_=>none
noncomputable def CT:List D->Option Rz
 |[.tup xs]=>if xs.all j9=true then (zM xs).map .nw else none
 |_=>none
noncomputable def Jl:List D->Option Rz
 |[.tup xs,.int n]=>if 1<=n/\n<=1000/\1<=xs.length/\xs.length<=1000 then some (.dat (.tup (rep xs n.toNat))) else none
 |_=>none
noncomputable def xX:D->Option Bool
 |.non=>some false
 |.bl b=>some b
 |.int i=>some (i != 0)
 |.tup xs=>some (!xs.isEmpty)
 |.fl xs=>some (!xs.isEmpty)
 |_=>none
noncomputable def prim:Pr->List D->Option Rz
 |.add=>Cu
 |.aq=>dF λi j=>some (.int (i-j))
 |.mul=>dF λi j=>if (-(2^64)<i/\i<2^64)\/(-(2^64)<j/\j<2^64) then some (.int (i*j)) else none
 |.fdiv=>dF λi j=>if 0<j/\j<1073741824 then some (.int (i/j)) else none
 |.mod=>dF λi j=>if 0<j then some (.int (i%j)) else none
 |.pow=>dF λi j=>if 0<=j/\j<=1000000/\i.natAbs<2^64 then some (.int (i^j.toNat)) else none
 |.neg=>uP λi=>.int (-i)
 |.eq=>Cv id
 |.ne=>Cv not
 |.lt=>Je
 |.le=>dF λi j=>some (.bl (decide (i<=j)))
 |.gt=>dF λi j=>some (.bl (decide (j<i)))
 |.ge=>dF λi j=>some (.bl (decide (j<=i)))
 |.inn=>Cw id
 |.nin=>Cw not
 |.vY=>Cy id
 |.tU=>Cy not
 |.len=>sI λxs=>some (.dat (.int xs.length))
 |.abs=>uP λi=>.int (if i<0 then -i else i)
 |.max2=>dF λi j=>some (.int (if j>i then j else i))
 |.min2=>dF λi j=>some (.int (if j<i then j else i))
 |.uO=>Jf
 |.divmod=>dF λi j=>if 0<j/\j<1073741824 then some (.tup [.int (i/j),.int (i%j)]) else none
 |.all=>Cz
 |.Fz=>CG
 |.xV=>qW λa b=>decide (a>b)
 |.Ja=>qW λa b=>decide (a<b)
 |.sG=>oR
 |.Cj=>CJ
 |.list=>sI λxs=>some (.nw xs)
 |.tuple=>qj
 |.ix=>RW
 |.rev=>CK
 |.sorted=>m8
 |.qT=>pSs
 |.Jc=>Jk
 |.mult=>Jl
 |.zJ=>CT
 |.sum=>R4
 |.Cm=>Jj
 |.count=>CP
 |.index=>CQ
 |.repr=>Jh
 |.str1=>RX
noncomputable def mC(aq:Nat->Nat->Bool):D->Kd->Option Bool
 |.exc c _,.cls e=>some (aq c e)
 |.exc _ _,.sH=>some true
 |.exc _ _,_=>none
 |.ob _ _,_=>none
 |.any,_=>none
 |_,.cls _=>none
 |_,.sH=>none
 |.bl _,.bool=>some true
 |.bl _,.int=>some true
 |.bl _,_=>some false
 |.int _,.int=>some true
 |.int _,_=>some false
 |.non,_=>some false
 |.str _,.str=>some true
 |.str _,_=>some false
 |.tup _,.tuple=>some true
 |.tup _,_=>some false
 |.fl _,.list=>some true
 |.fl _,_=>some false
 |.fd _ _,.dict=>some true
 |.fd _ _,_=>some false
noncomputable def rd(x:Xv):M D:=λs=>match x with
 |.d v=>some (.ok v,s)
 |.l n=>match s[n]? with
  |some (.lst xs)=>some (.ok (.fl xs),s)
  |_=>none
noncomputable def gW:List Xv->M (List D)
 |[]=>M.ret []
 |x::r=>M.bd (rd x) λd=>M.bd (gW r) λds=>M.ret (d::ds)
noncomputable def dat(x:Xv):M D:=match x with
 |.d v=>M.ret v
 |.l _=>M.no
noncomputable def cP:List Xv->M (List D)
 |[]=>M.ret []
 |x::r=>M.bd (dat x) λd=>M.bd (cP r) λds=>M.ret (d::ds)
noncomputable def bool(x:Xv):M Bool:=match x with
 |.d (.bl b)=>M.ret b
 |_=>M.no
noncomputable def int(x:Xv):M Int:=match x with
 |.d (.int b)=>M.ret b
 |_=>M.no
noncomputable def newL(fz:Bool)(xs:List D):M Xv:=match fz with
 |true=>M.ret (.d (.fl xs))
 |false=>λs=>some (.ok (.l s.length),s++[.lst xs])
noncomputable def cL(fz:Bool)(o:Option Rz):M Xv:=match o with
 |some (.dat d)=>M.ret (.d d)
 |some (.nw xs)=>newL fz xs
 |none=>M.no
noncomputable def dD(x:Xv):M (Nat×List D):=λs=>match x with
 |.l n=>match s[n]? with
  |some (.lst xs)=>some (.ok (n,xs),s)
  |_=>none
 |_=>none
noncomputable def putL(n:Nat)(xs:List D):M Unit:=λs=>some (.ok (),s.set n (.lst xs))
noncomputable def uR:D->Option Kx
 |.non=>some .non
 |.int i=>some (.int i)
 |.tup xs=>(cN xs).map .row
 |_=>none
noncomputable def CV:List D->Option (List Kx)
 |[]=>some []
 |x::r=>match uR x,CV r with
  |some a,some b=>some (a::b)
  |_,_=>none
noncomputable def kOf:D->Option (List Kx)
 |.tup xs=>CV xs
 |_=>none
noncomputable abbrev iW:=List (List Kx×D)
noncomputable def cI(k:List Kx):iW->Option D
 |[]=>none
 |p::r=>if p.1=k then some p.2 else cI k r
noncomputable def jG(k:List Kx)(d:D)(r:iW):iW:=if (cI k r).isSome=true then r.map λp=>if p.1=k then (p.1,d) else p else r++[(k,d)]
noncomputable def gD(x:Xv):M (Nat×iW):=λs=>match x with
 |.l n=>match s[n]? with
  |some (.dct kvs)=>some (.ok (n,kvs),s)
  |_=>none
 |_=>none
noncomputable def putD(n:Nat)(kvs:iW):M Unit:=λs=>some (.ok (),s.set n (.dct kvs))
noncomputable def key(x:Xv):M (List Kx):=match x with
 |.d v=>M.opt (kOf v)
 |.l _=>M.no
noncomputable def enumFrom:Nat->List D->List D
 |_,[]=>[]
 |i,x::r=>.tup [.int i,x]::enumFrom (i+1) r
inductive Src where
 |fix (xs:List D)|live (n:Nat)|mD (n:Nat)
noncomputable def Src.at(c:Src)(i:Nat)(s:S):Option (Option D):=match c with
 |.fix xs=>some xs[i]?
 |.live n=>match s[n]? with
  |some (.lst xs)=>some xs[i]?
  |_=>none
 |.mD n=>match s[n]? with
  |some (.lst xs)=>some (xs[i]?.map λx=>.tup [.int i,x])
  |_=>none
noncomputable def oU(x:Xv):M (Src×Nat):=λs=>match x with
 |.d (.tup xs)=>some (.ok (.fix (enumFrom 0 xs),(enumFrom 0 xs).length),s)
 |.d (.fl xs)=>some (.ok (.fix (enumFrom 0 xs),(enumFrom 0 xs).length),s)
 |.l n=>match s[n]? with
  |some (.lst xs)=>some (.ok (.mD n,xs.length),s)
  |_=>none
 |_=>none
noncomputable def src(x:Xv):M (Src×Nat):=λs=>match x with
 |.d (.tup xs)=>some (.ok (.fix xs,xs.length),s)
 |.d (.fl xs)=>some (.ok (.fix xs,xs.length),s)
 |.l n=>match s[n]? with
  |some (.lst xs)=>some (.ok (.live n,xs.length),s)
  |_=>none
 |_=>none
noncomputable def ql(x:Xv):M (List D):=match x with
 |.d (.tup xs)=>M.ret xs
 |.d (.fl xs)=>M.ret xs
 |_=>M.no
noncomputable def mF(a b:Int):List D:=(List.range (b-a).toNat).map λ(i:Nat)=>.int (a+i)
noncomputable def gF(a:Int):Bool:=decide (-(2^62)<a)&&decide (a<2^62)
noncomputable def walk(c:Src)(f:D->List D->M (List D)):Nat->Nat->List D->M (List D)
 |0,_,_=>M.no
 |k+1,i,acc=>λs=>match c.at i s with
  |none=>none
  |some none=>some (.ok acc,s)
  |some (some x)=>M.bd (f x acc) (λacc'=>walk c f k (i+1) acc') s
noncomputable def gG(f:D->M Xv):List D->Option (List Int)
 |[]=>some []
 |x::r=>match f x [] with
  |some (.ok (.d (.int k)),[])=>(gG f r).map (k::·)
  |_=>none
noncomputable abbrev Vs:=List (Option Xv)
noncomputable abbrev Fn:=Nat->List Xv->M Xv
noncomputable def locs:List Xv->List Nat
 |[]=>[]
 |.d _::r=>locs r
 |.l n::r=>n::locs r
noncomputable def dG:Nat->List Xv->List Xv
 |_,[]=>[]
 |k,.d v::r=>.d v::dG k r
 |k,.l _::r=>.l k::dG (k+1) r
noncomputable def iQ(s:S):List Nat->Option S
 |[]=>some []
 |n::r=>match s[n]?,iQ s r with
  |some o,some q=>some (o::q)
  |_,_=>none
noncomputable def dH(s:S):List Nat->S->S
 |n::r,o::q=>dH (s.set n o) r q
 |_,_=>s
noncomputable def b_(F:List Xv->M Xv)(xs:List Xv):M Xv:=λs=>
 if (locs xs).Nodup then match iQ s (locs xs) with
  |none=>none
  |some s0=>match F (dG 0 xs) s0 with
   |none=>none
   |some (.er c fs,s1)=>some (.er c fs,dH s (locs xs) s1)
   |some (.ok (.d v),s1)=>some (.ok (.d v),dH s (locs xs) s1)
   |some (.ok (.l n),s1)=>match (locs xs)[n]? with
    |some m=>some (.ok (.l m),dH s (locs xs) s1)
    |none=>match s1[n]? with
     |some o=>some (.ok (.l s.length),dH s (locs xs) s1++[o])
     |none=>none
 else none
noncomputable def zQ(F:List Xv->M Xv)(c:Nat)(vs:List Xv):M Xv:=λs=>
 if locs vs=[] then match F (.d .any::vs) [] with
  |some (.ok (.d (.tup ds)),_)=>some (.ok (.d (.ob c ds)),s)
  |_=>none
 else none
noncomputable def sO(c:Nat)(x:Xv):M (List D):=match x with
 |.d (.ob e fs)=>if e=c then M.ret fs else M.no
 |_=>M.no
noncomputable def gH{α:Type}:List Nat->List α->List (Option α)->Option (List (Option α))
 |[],[],J=>some J
 |i::is,d::ds,J=>gH is ds (J.set i (some d))
 |_,_,_=>none
noncomputable def j_:D->Option (List D)
 |.tup xs=>some xs
 |_=>none
noncomputable def fP(tg:List Nat)(x:D)(J:Vs):Option Vs:=match tg with
 |[i]=>some (J.set i (some (.d x)))
 |is=>(j_ x).bind λds=>gH is (ds.map .d) J
noncomputable def blk(many:Nat)(fr:List Nat)(J:Vs):Vs:=List.replicate many none++fr.map λj=>J[j]?.join
section
variable (aq:Nat->Nat->Bool)(aj:Bool)(F:Fn)
mutual
noncomputable def ev:E->Vs->M Xv
 |.c d,_=>M.ret (.d d)
 |.v i,J=>M.opt (J[i]?.join)
 |.pr fz p xs,J=>M.bd (evs xs J) λvs=>M.bd (gW vs) λds=>cL fz (prim p ds)
 |.xW p q a b c,J=>M.bd (ev a J) λx=>M.bd (ev b J) λy=>M.bd (gW [x,y]) λds=>M.bd (cL true (prim p ds)) λt=>M.bd (bool t) λk=>
   if k=true then M.bd (ev c J) λz=>M.bd (gW [y,z]) λds=>cL true (prim q ds) else M.ret (.d (.bl false))
 |.Y5 p q r a b c d,J=>M.bd (ev a J) λx=>M.bd (ev b J) λy=>M.bd (gW [x,y]) λds=>M.bd (cL true (prim p ds)) λt=>M.bd (bool t) λk=>
   if k=true then M.bd (ev c J) λz=>M.bd (gW [y,z]) λds=>M.bd (cL true (prim q ds)) λt=>M.bd (bool t) λk2=>
    if k2=true then M.bd (ev d J) λw=>M.bd (gW [z,w]) λds=>cL true (prim r ds) else M.ret (.d (.bl false))
   else M.ret (.d (.bl false))
 |.and a b,J=>M.bd (ev a J) λx=>M.bd (bool x) λk=>if k=true then ev b J else M.ret (.d (.bl false))
 |.or a b,J=>M.bd (ev a J) λx=>M.bd (bool x) λk=>if k=true then M.ret (.d (.bl true)) else ev b J
 |.not a,J=>M.bd (ev a J) λx=>M.bd (bool x) λk=>M.ret (.d (.bl (!k)))
 |.ite c a b,J=>M.bd (ev c J) λx=>M.bd (bool x) λk=>if k=true then ev a J else ev b J
 |.tup xs,J=>M.bd (evs xs J) λvs=>M.bd (cP vs) λds=>M.ret (.d (.tup ds))
 |.lst fz xs,J=>M.bd (evs xs J) λvs=>M.bd (cP vs) λds=>newL fz ds
 |.Cp k i,_=>M.ret (.d (.fd [.str k] [.int i]))
 |.call f xs,J=>M.bd (evs xs J) λvs=>b_ (F f) vs
 |.qe a k,J=>M.bd (ev a J) λx=>M.bd (rd x) λd=>M.bd (M.opt (mC aq d k)) λb=>M.ret (.d (.bl b))
 |.sl fz a lo hi,J=>M.bd (ev a J) λx=>M.bd (tV lo J) λl=>M.bd (tV hi J) λh=>M.bd (rd x) λd=>cL fz (cutD d l h)
 |.meth fz p k o xs,J=>M.bd (ev o J) λx=>M.bd (rd x) λd=>if Cr k d=true then M.bd (evs xs J) λys=>M.bd (gW (x::ys)) λds=>cL fz (prim p ds) else M.no
 |.push o a,J=>M.bd (ev o J) λx=>M.bd (dD x) λ_=>M.bd (ev a J) λy=>M.bd (dat y) λd=>M.bd (dD x) λnx=>if nx.2.length<sizeLine then M.bd (putL nx.1 (nx.2++[d])) λ_=>M.ret (.d .non) else M.no
 |.pop o,J=>M.bd (ev o J) λx=>M.bd (dD x) λnx=>match nx.2.getLast? with
   |some d=>M.bd (putL nx.1 nx.2.dropLast) λ_=>M.ret (.d d)
   |none=>M.no
 |.comp fz elt tg it fr many cond,J=>if aj=true then M.bd (gO it J) λcn=>
   M.bd (walk cn.1 (λd acc=>M.bd (M.opt (fP tg d (blk many fr J))) λJ'=>M.bd (M.qt (m_ cond J')) λok=>
    if ok=true then M.bd (M.qt (ev elt J')) λy=>M.bd (dat y) λe=>if acc.length<sizeLine then M.ret (acc++[e]) else M.no else M.ret acc) (cn.2+1) 0 []) λxs=>newL fz xs
  else M.no
 |.mz fz elt tg it RV Ce fr many cond,J=>if aj=true then M.bd (gO it J) λcn=>
   M.bd (walk cn.1 (λd acc=>M.bd (M.opt (fP tg d (blk many fr J))) λJ'=>M.bd (M.qt (gO Ce J')) λqm=>
    walk qm.1 (λd2 acc=>M.bd (M.opt (fP RV d2 J')) λJm=>M.bd (M.qt (m_ cond Jm)) λok=>
     if ok=true then M.bd (M.qt (ev elt Jm)) λy=>M.bd (dat y) λe=>if acc.length<sizeLine then M.ret (acc++[e]) else M.no else M.ret acc) (qm.2+1) 0 acc) (cn.2+1) 0 []) λxs=>newL fz xs
  else M.no
 |.fld o cs i,J=>M.bd (ev o J) λx=>match x with
   |.d (.exc c fs)=>if cs.contains c=true then M.opt (fs[i]?.map .d) else M.no
   |_=>M.no
 |.of o c i,J=>M.bd (ev o J) λx=>M.bd (sO c x) λfs=>M.opt (fs[i]?.map .d)
 |.mk c f xs,J=>M.bd (evs xs J) λvs=>zQ (F f) c vs
 |.cm c f o xs,J=>M.bd (ev o J) λx=>M.bd (sO c x) λ_=>M.bd (evs xs J) λvs=>M.qt (b_ (F f) (x::vs))
 |.qg,_=>λs=>some (.ok (.l s.length),s++[.dct []])
 |.zK b k d,J=>M.bd (ev k J) λx=>M.bd (ev d J) λy=>M.bd (key x) λkx=>M.bd (gD y) λnk=>M.ret (.d (.bl ((cI kx nk.2).isSome==b)))
 |.oN d k,J=>M.bd (ev d J) λy=>M.bd (ev k J) λx=>M.bd (key x) λkx=>M.bd (gD y) λnk=>M.opt ((cI kx nk.2).map .d)
 |.Cq a,J=>M.bd (ev a J) λx=>M.bd (rd x) λd=>M.bd (M.opt (xX d)) λk=>M.ret (.d (.bl k))
 |.oO fz a b,J=>if aj=true then M.bd (ev a J) λx=>match x with
   |.d (.fl xs)=>M.bd (M.opt (gG (λd=>ev b [some (.d d)]) xs)) λks=>M.bd (M.opt (jr (zN ks) xs)) λys=>newL fz ys
   |_=>M.no else M.no
 |.Y6 a b,J=>M.bd (ev a J) λx=>M.bd (rd x) λd=>M.bd (M.opt (xX d)) λk=>if k=true then M.ret x else ev b J
 |.ins o i a,J=>M.bd (ev o J) λx=>M.bd (dD x) λ_=>M.bd (ev i J) λz=>M.bd (int z) λj=>M.bd (ev a J) λy=>M.bd (dat y) λd=>M.bd (dD x) λnx=>if 0<=j/\j<=nx.2.length/\nx.2.length<sizeLine then M.bd (putL nx.1 (nx.2.take j.toNat++d::nx.2.drop j.toNat)) λ_=>M.ret (.d .non) else M.no
 |.no,_=>M.no
noncomputable def gO:Wk->Vs->M (Src×Nat)
 |.seq e,J=>M.bd (ev e J) src
 |.rg a b,J=>M.bd (ev a J) λx=>M.bd (ev b J) λy=>M.bd (int x) λi=>M.bd (int y) λj=>if gF i&&gF j then M.ret (.fix (mF i j),(mF i j).length) else M.no
 |.zip a b,J=>M.bd (ev a J) λx=>M.bd (ev b J) λy=>M.bd (ql x) λxs=>M.bd (ql y) λys=>M.ret (.fix (List.zipWith (λp q=>.tup [p,q]) xs ys),(List.zipWith (λ(p q:D)=>D.tup [p,q]) xs ys).length)
 |.enum a,J=>M.bd (ev a J) oU
 |.Y7 a,J=>M.bd (ev a J) λx=>M.bd (int x) λi=>if gF i then M.ret (.fix (mF 0 i).reverse,(mF 0 i).length) else M.no
noncomputable def tV:Eo->Vs->M (Option Int)
 |.no,_=>M.ret none
 |.yes a,J=>M.bd (ev a J) λx=>M.bd (int x) λi=>M.ret (some i)
noncomputable def m_:Eo->Vs->M Bool
 |.no,_=>M.ret true
 |.yes a,J=>M.bd (ev a J) bool
noncomputable def evs:Es->Vs->M (List Xv)
 |.nil,_=>M.ret []
 |.cons a r,J=>M.bd (ev a J) λx=>M.bd (evs r J) λxs=>M.ret (x::xs)
end
end
inductive Out where
 |nx (J:Vs)|rt (x:Xv)|bk (J:Vs)|ct (J:Vs)|er (c:Nat) (fs:List D) (J:Vs)
noncomputable abbrev MS:=S->Option (Out×S)
noncomputable def ofM{α:Type}(m:M α)(J:Vs)(k:α->MS):MS:=λs=>match m s with
 |some (.ok a,s')=>k a s'
 |some (.er c fs,s')=>some (.er c fs J,s')
 |none=>none
noncomputable def bV(m:MS)(k:Vs->MS):MS:=λs=>match m s with
 |some (.nx J,s')=>k J s'
 |r=>r
section
variable (aq:Nat->Nat->Bool)
noncomputable def store(aj:Bool)(F:Fn)(t:Tg)(x:Xv)(J:Vs):MS:=match t with
 |.nm i=>λs=>some (.nx (J.set i (some x)),s)
 |.tp is=>if aj=true then ofM (M.bd (dat x) λd=>M.opt ((j_ d).bind λds=>gH is (ds.map .d) J)) J (λJ' s=>some (.nx J',s)) else λ_=>none
 |.aq o i=>ofM (M.bd (dat x) λd=>M.bd (ev aq aj F o J) λy=>M.bd (ev aq aj F i J) λz=>M.bd (int z) λj=>M.bd (dD y) λnx=>
   match L2.sy nx.2.length j with
   |some q=>putL nx.1 (nx.2.set q d)
   |none=>M.no) J (λ_ s=>some (.nx J,s))
noncomputable def dw(c:Vs->M Bool)(b:Vs->MS):Nat->Vs->MS
 |0,_=>λ_=>none
 |k+1,J=>ofM (c J) J λok=>if ok=true then λs=>match b J s with
   |some (.nx J',s')=>dw c b k J' s'
   |some (.ct J',s')=>dw c b k J' s'
   |some (.bk J',s')=>some (.nx J',s')
   |r=>r
  else λs=>some (.nx J,s)
noncomputable def cQ(c:Src)(b:D->Vs->MS):Nat->Nat->Vs->MS
 |0,_,_=>λ_=>none
 |k+1,i,J=>λs=>match c.at i s with
  |none=>none
  |some none=>some (.nx J,s)
  |some (some d)=>match b d J s with
   |some (.nx J',s')=>cQ c b k (i+1) J' s'
   |some (.ct J',s')=>cQ c b k (i+1) J' s'
   |some (.bk J',s')=>some (.nx J',s')
   |r=>r
noncomputable def goes(i:Nat):Out->Out
 |.nx J=>.nx (J.set i none)
 |.bk J=>.bk (J.set i none)
 |.ct J=>.ct (J.set i none)
 |r=>r
noncomputable def zR:Nat:=1000000000000
mutual
noncomputable def ex(aj:Bool)(F:Bool->Fn):St->Vs->MS
 |.pass,J=>λs=>some (.nx J,s)
 |.ex e,J=>ofM (ev aq aj (F aj) e J) J λ_ s=>some (.nx J,s)
 |.asg t e,J=>ofM (ev aq aj (F aj) e J) J λx=>store aq aj (F aj) t x J
 |.par i j a b,J=>if aj=true then ofM (M.bd (ev aq aj (F aj) a J) λx=>M.bd (ev aq aj (F aj) b J) λy=>M.ret (x,y)) J λxy s=>some (.nx ((J.set i (some xy.1)).set j (some xy.2)),s) else λ_=>none
 |.aug i e,J=>ofM (M.bd (M.opt (J[i]?.join)) λx=>M.bd (ev aq aj (F aj) e J) λy=>M.bd (int x) λp=>M.bd (int y) λq=>M.ret (p+q)) J λr s=>some (.nx (J.set i (some (.d (.int r)))),s)
 |.ret e,J=>ofM (ev aq aj (F aj) e J) J λx s=>some (.rt x,s)
 |.rise c kp xs,J=>if aj=true then ofM (M.bd (evs aq aj (F aj) xs J) cP) J λds s=>some (.er c (if kp=true then ds else []) J,s) else λ_=>none
 |.iff c t e,J=>ofM (M.bd (ev aq aj (F aj) c J) bool) J λb=>if b=true then exs aj F t J else exs aj F e J
 |.wh c b,J=>dw (λJ=>M.bd (ev aq aj (F aj) c J) bool) (λJ=>exs aj F b J) zR J
 |.fr t w b,J=>if aj=true then ofM (gO aq aj (F aj) w J) J λcn=>cQ cn.1 (λd J=>bV (store aq aj (F aj) t (.d d) J) λJ'=>exs aj F b J') (cn.2+1) 0 J else λ_=>none
 |.Jd b d i h,J=>if aj=true then λs=>match exs aj F b J s with
   |some (.er c fs J',s')=>if aq c d=true then (match exs false F h (J'.set i (some (.d (.exc c fs)))) s' with
    |some (r,s'')=>(match r with
     |.er _ _ _=>none
     |r=>some (goes i r,s''))
    |none=>none) else none
   |r=>r
  else λ_=>none
 |.dput d k v,J=>ofM (M.bd (ev aq aj (F aj) v J) λz=>M.bd (dat z) λw=>M.bd (ev aq aj (F aj) d J) λy=>M.bd (ev aq aj (F aj) k J) λx=>M.bd (key x) λkx=>M.bd (gD y) λnk=>if nk.2.length<sizeLine then putD nk.1 (jG kx w nk.2) else M.no) J (λ_ s=>some (.nx J,s))
 |.no,_=>λ_=>none
noncomputable def exs(aj:Bool)(F:Bool->Fn):bR->Vs->MS
 |.nil,J=>λs=>some (.nx J,s)
 |.cons a r,J=>bV (ex aj F a J) λJ'=>exs aj F r J'
end
structure Df where
 many:Nat
 fC:Nat
 body:bR
noncomputable def call(T:Nat->Option Df):Nat->Bool->Fn
 |0,_,_,_=>M.no
 |k+1,aj,f,xs=>match T f with
  |none=>M.no
  |some d=>if xs.length=d.fC then λs=>match exs aq aj (λc=>call T k c) d.body (xs.map some++List.replicate (d.many-d.fC) none) s with
    |some (.nx _,s')=>some (.ok (.d .non),s')
    |some (.rt v,s')=>some (.ok v,s')
    |some (.er c fs _,s')=>some (.er c fs,s')
    |_=>none
   else M.no
end
end Mi
namespace Mi
open PySem L2
structure Ph where
 z:Addr->Prop
 l:List Addr
structure Cl where
 a:Nat->Addr
 f:Nat->List Str
 b:Nat->Addr
 g:Nat->List Str
section
variable (K:W.Frag)(cA:Cl)
def KT(a:Addr)(vs:List V):Prop:=gw K (λ_=>none) a vs
def KL(a:Addr)(vs:List V):Prop:=dj K (λ_=>none) a vs
def TupAt(U:Ph)(H:Hp)(a:Addr)(vs:List V):Prop:=(Rd H a (.tup vs)/\¬U.z a)\/KT K a vs
def LstAt(U:Ph)(H:Hp)(a:Addr)(vs:List V):Prop:=(Rd H a (.lst vs)/\¬U.z a)\/KL K a vs
def ExcAt(U:Ph)(H:Hp)(a:Addr)(c:Nat)(vs:List V):Prop:=¬U.z a/\((cA.f c=[]/\vs=[]/\H a=some (xU a (cA.a c) none))\/∃dx,H a=some (xU a (cA.a c) (some dx))/\¬U.z dx/\H dx=some (.xd ((cA.f c).zip vs))/\(cA.f c).length=vs.length)
def qp(U:Ph)(H:Hp)(a:Addr)(c:Nat)(vs:List V):Prop:=¬U.z a/\∃dx,H a=some (.ins (cA.b c) dx ((cA.g c).zip vs))/\(cA.g c).length=vs.length
mutual
inductive Rep (U:Ph) (H:Hp):D->V->Prop where
 |non:Rep U H .non .non
 |bl (b:Bool):Rep U H (.bl b) (.bl b)
 |int (i:Int):Rep U H (.int i) (.int i)
 |str (x:Str):Rep U H (.str x) (.str x)
 |tup {a:Addr} {xs:List D} {vs:List V} (h:TupAt K U H a vs) (r:aC U H xs vs):Rep U H (.tup xs) (.ref a)
 |fl {a:Addr} {xs:List D} {vs:List V} (h:LstAt K U H a vs) (r:aC U H xs vs):Rep U H (.fl xs) (.ref a)
 |fd {a:Addr} {k:Str} {i:Int} (h:H a=some (.dK [(.inr k,.int i)])) (n:¬U.z a):Rep U H (.fd [.str k] [.int i]) (.ref a)
 |exc {a:Addr} {c:Nat} {xs:List D} {vs:List V} (h:ExcAt cA U H a c vs) (r:aC U H xs vs):Rep U H (.exc c xs) (.ref a)
 |ob {a:Addr} {c:Nat} {xs:List D} {vs:List V} (h:qp cA U H a c vs) (r:aC U H xs vs):Rep U H (.ob c xs) (.ref a)
 |any (a:Addr):Rep U H .any (.ref a)
inductive aC (U:Ph) (H:Hp):List D->List V->Prop where
 |nil:aC U H [] []
 |cons {d:D} {v:V} {ds:List D} {vs:List V} (h:Rep U H d v) (r:aC U H ds vs):aC U H (d::ds) (v::vs)
end
inductive aU (U:Ph) (H:Hp):Xv->V->Prop where
 |d {x:D} {v:V} (h:Rep K cA U H x v):aU U H (.d x) v
 |l {n:Nat} {a:Addr} (h:U.l[n]?=some a):aU U H (.l n) (.ref a)
inductive aQ (U:Ph) (H:Hp):List Xv->List V->Prop where
 |nil:aQ U H [] []
 |cons {d:Xv} {v:V} {ds:List Xv} {vs:List V} (h:aU K cA U H d v) (r:aQ U H ds vs):aQ U H (d::ds) (v::vs)
noncomputable def R5:Kx->Int
 |.non=>reduceHash 0xFCA86420
 |.int i=>hashInt i
 |.row is=>reduceHash (Builtin.Tuple.tupleHashOf (is.map hashInt))
noncomputable def qX(k:List Kx):Int:=reduceHash (Builtin.Tuple.tupleHashOf (k.map R5))
noncomputable def sS:Kx->D
 |.non=>.non
 |.int i=>.int i
 |.row is=>.tup (is.map .int)
noncomputable def ji(k:List Kx):D:=.tup (k.map sS)
noncomputable abbrev nj:=List (List Kx×Addr×Value)
noncomputable def uU(a:Addr)(xs:nj):HO:=.ext λh=>(a==sysModules)=false/\xs.length<=sizeLine/\∃o es ep,h.get? a=some o/\o.ExactDict/\o.data=.dict es ep/\es.toList=xs.map (λx=>⟨qX x.1,.ref x.2.1,x.2.2⟩)/\(xs.map (·.1)).Nodup
inductive jt (U:Ph) (H:Hp):iW->nj->Prop where
 |nil:jt U H [] []
 |cons {k:List Kx} {d:D} {ka:Addr} {u:Value} {v:V} {r:iW} {xs:nj} (hk:Rep K cA U H (ji k) (.ref ka)) (hu:RelV v u) (hv:Rep K cA U H d v) (q:jt U H r xs):jt U H ((k,d)::r) ((k,ka,u)::xs)
noncomputable def lu(U:Ph)(H:Hp)(a:Addr):SO->Prop
 |.lst xs=>∃vs,H a=some (.lst vs)/\aC K cA U H xs vs
 |.dct kvs=>∃xs,H a=some (uU a xs)/\jt K cA U H kvs xs
structure aD(U:Ph)(H:Hp)(s:S):Prop where
 len:U.l.length=s.length
 obj:∀(n:Nat) o a,s[n]?=some o->U.l[n]?=some a->lu K cA U H a o
 uniq:U.l.Nodup
 lz:∀a∈U.l,U.z a
 zt:∀a,U.z a->∃o,H a=some o
noncomputable def NT:HO->Prop
 |.lV _=>False
 |_=>True
structure Ext(U:Ph)(H:Hp)(U':Ph)(H':Hp):Prop where
 more:∃r,U'.l=U.l++r/\∀b∈r,H b=none
 qu:∀a,U.z a->U'.z a
 kh:∀a,U'.z a->U.z a\/H a=none
 frame:∀a o,H a=some o->NT o->a∉U.l->H' a=some o
 stay:∀a o,H a=some o->∃o',H' a=some o'
def aY(U:Ph)(H:Hp)(Z:L2.St)(J:Vs):Prop:=Z.length=J.length/\∀(i:Nat) (x:Xv),J[i]?=some (some x)->∃v,Z[i]?=some (some v)/\aU K cA U H x v
end
section
variable {K:W.Frag}{cA:Cl}{U U' kj:Ph}{H H' nq:Hp}{s:S}{Z:L2.St}{J:Vs}
theorem Ext.refl:Ext U H U H:=⟨⟨[],by simp,by simp⟩,λ_ h=>h,λ_ h=>.inl h,λ_ _ h _ _=>h,λ_ o h=>⟨o,h⟩⟩
theorem Ext.mH(x:Ext U H U' H'){a:Addr}(h:H' a=none):H a=none:=by
 cases e:H a with
 |none=>rfl
 |some o=>obtain⟨o',q⟩:=x.stay a o e;rw[h] at q;cases q
theorem Ext.trans(x:Ext U H U' H')(y:Ext U' H' kj nq):Ext U H kj nq:=by
 obtain⟨r,e,hr⟩:=x.more;obtain⟨r',e',hr'⟩:=y.more;refine⟨⟨r++r',by rw[e',e,Lq],λb hb=>?_⟩,λa h=>y.qu a (x.qu a h),λa h=>?_,λa o h t n=>y.frame a o (x.frame a o h t n) t ?_,λa o h=>?_⟩
 ·rcases nJ.mp hb with z|z
  ·exact hr b z
  ·exact x.mH (hr' b z)
 ·rcases y.kh a h with z|z
  ·exact x.kh a z
  ·exact .inr (x.mH z)
 ·rw[e];intro z;rcases nJ.mp z with z|z
  ·exact n z
  ·rw[hr a z] at h;cases h
 ·obtain⟨o',q⟩:=x.stay a o h;exact y.stay a o' q
theorem Ext.get(x:Ext U H U' H'){n:Nat}{a:Addr}(h:U.l[n]?=some a):U'.l[n]?=some a:=by
 obtain⟨r,e,_⟩:=x.more;rw[e,pB (f9.mp h).1];exact h
theorem Ext.out(x:Ext U H U' H')(hz:∀a∈U.l,U.z a){a:Addr}{o:HO}(h:H a=some o)(n:¬U.z a)(t:NT o:=by exact trivial):H' a=some o/\¬U'.z a:=
 ⟨x.frame a o h t λz=>n (hz a z),λz=>by
  rcases x.kh a z with y|y
  ·exact n y
  ·rw[h] at y;cases y⟩
theorem TupAt.mono(x:Ext U H U' H')(hz:∀a∈U.l,U.z a){a:Addr}{vs:List V}(h:TupAt K U H a vs):TupAt K U' H' a vs:=by
 rcases h with ⟨h|⟨o,h⟩,n⟩|h
 ·obtain⟨p,q⟩:=x.out hz h n;exact .inl ⟨.inl p,q⟩
 ·obtain⟨p,q⟩:=x.out hz h n;exact .inl ⟨.inr ⟨o,p⟩,q⟩
 ·exact .inr h
theorem LstAt.mono(x:Ext U H U' H')(hz:∀a∈U.l,U.z a){a:Addr}{vs:List V}(h:LstAt K U H a vs):LstAt K U' H' a vs:=by
 rcases h with ⟨h|⟨o,h⟩,n⟩|h
 ·obtain⟨p,q⟩:=x.out hz h n;exact .inl ⟨.inl p,q⟩
 ·obtain⟨p,q⟩:=x.out hz h n;exact .inl ⟨.inr ⟨o,p⟩,q⟩
 ·exact .inr h
theorem ExcAt.mono(x:Ext U H U' H')(hz:∀a∈U.l,U.z a){a:Addr}{c:Nat}{vs:List V}(h:ExcAt cA U H a c vs):ExcAt cA U' H' a c vs:=by
 obtain⟨n,⟨e1,e2,h⟩|⟨dx,h,n2,h2,h3⟩⟩:=h
 ·obtain⟨p,q⟩:=x.out hz h n;exact⟨q,.inl ⟨e1,e2,p⟩⟩
 ·obtain⟨p,q⟩:=x.out hz h n;obtain⟨p2,q2⟩:=x.out hz h2 n2;exact⟨q,.inr ⟨dx,p,q2,p2,h3⟩⟩
theorem qp.mono(x:Ext U H U' H')(hz:∀a∈U.l,U.z a){a:Addr}{c:Nat}{vs:List V}(h:qp cA U H a c vs):qp cA U' H' a c vs:=by
 obtain⟨n,dx,h,h3⟩:=h;obtain⟨p,q⟩:=x.out hz h n;exact⟨q,dx,p,h3⟩
theorem Rep.mono(x:Ext U H U' H')(hz:∀a∈U.l,U.z a){d:D}{v:V}(h:Rep K cA U H d v):Rep K cA U' H' d v:=
 Rep.rec (motive_1:=λd v _=>Rep K cA U' H' d v) (motive_2:=λd v _=>aC K cA U' H' d v) .non .bl .int .str (λh _ i=>.tup (h.mono x hz) i) (λh _ i=>.fl (h.mono x hz) i) (λh n=>.fd (x.out hz h n).1 (x.out hz h n).2) (λh _ i=>.exc (h.mono x hz) i) (λh _ i=>.ob (h.mono x hz) i) .any .nil (λ_ _ i j=>.cons i j) h
theorem aC.mono(x:Ext U H U' H')(hz:∀a∈U.l,U.z a){d:List D}{v:List V}(h:aC K cA U H d v):aC K cA U' H' d v:=
 aC.rec (motive_1:=λd v _=>Rep K cA U' H' d v) (motive_2:=λd v _=>aC K cA U' H' d v) .non .bl .int .str (λh _ i=>.tup (h.mono x hz) i) (λh _ i=>.fl (h.mono x hz) i) (λh n=>.fd (x.out hz h n).1 (x.out hz h n).2) (λh _ i=>.exc (h.mono x hz) i) (λh _ i=>.ob (h.mono x hz) i) .any .nil (λ_ _ i j=>.cons i j) h
theorem aC.map(m:∀d v,Rep K cA U H d v->Rep K cA U' H' d v):∀{d:List D} {v:List V},aC K cA U H d v->aC K cA U' H' d v
 |_,_,.nil=>.nil
 |_,_,.cons h r=>.cons (m _ _ h) (aC.map m r)
theorem jt.map(m:∀d v,Rep K cA U H d v->Rep K cA U' H' d v){d:iW}{v:nj}(h:jt K cA U H d v):jt K cA U' H' d v:=by
 induction h with
 |nil=>exact .nil
 |cons a b c _ ih=>exact .cons (m _ _ a) b (m _ _ c) ih
theorem lu.map{a:Addr}{o:SO}(h:lu K cA U H a o)(e:∀u,NT u->H a=some u->H' a=some u)(m:∀d v,Rep K cA U H d v->Rep K cA U' H' d v):lu K cA U' H' a o:=by
 cases o with
 |lst xs=>obtain⟨vs,q,r⟩:=h;exact⟨vs,e _ trivial q,r.map m⟩
 |dct xs=>obtain⟨vs,q,r⟩:=h;exact⟨vs,e _ trivial q,r.map m⟩
theorem aU.mono(x:Ext U H U' H')(hz:∀a∈U.l,U.z a){d:Xv}{v:V}(h:aU K cA U H d v):aU K cA U' H' d v:=by
 cases h with
 |d h=>exact .d (h.mono x hz)
 |l h=>exact .l (x.get h)
theorem aQ.mono(x:Ext U H U' H')(hz:∀a∈U.l,U.z a):∀{ds:List Xv} {vs:List V},aQ K cA U H ds vs->aQ K cA U' H' ds vs
 |_,_,.nil=>.nil
 |_,_,.cons h r=>.cons (h.mono x hz) (aQ.mono x hz r)
theorem aY.mono(x:Ext U H U' H')(hz:∀a∈U.l,U.z a)(h:aY K cA U H Z J):aY K cA U' H' Z J:=⟨h.1,λi d e=>let ⟨v,a,b⟩:=h.2 i d e;⟨v,a,b.mono x hz⟩⟩
theorem aC.len:∀{ds:List D} {vs:List V},aC K cA U H ds vs->ds.length=vs.length
 |_,_,.nil=>rfl
 |_,_,.cons _ r=>by rw[h_,h_,aC.len r]
theorem aQ.len:∀{ds:List Xv} {vs:List V},aQ K cA U H ds vs->ds.length=vs.length
 |_,_,.nil=>rfl
 |_,_,.cons _ r=>by rw[h_,h_,aQ.len r]
theorem aC.get:∀{ds:List D} {vs:List V} {i:Nat} {d:D},aC K cA U H ds vs->ds[i]?=some d->∃v,vs[i]?=some v/\Rep K cA U H d v
 |_,_,_,_,.nil,e=>by simp at e
 |_,_,0,_,.cons h _,e=>by simp at e;subst e;exact⟨_,rfl,h⟩
 |_,_,i+1,d,.cons _ r,e=>by
  obtain⟨v,a,b⟩:=aC.get (i:=i) (d:=d) r (by simpa using e);exact⟨v,by simpa using a,b⟩
theorem aQ.get:∀{ds:List Xv} {vs:List V} {i:Nat} {d:Xv},aQ K cA U H ds vs->ds[i]?=some d->∃v,vs[i]?=some v/\aU K cA U H d v
 |_,_,_,_,.nil,e=>by simp at e
 |_,_,0,_,.cons h _,e=>by simp at e;subst e;exact⟨_,rfl,h⟩
 |_,_,i+1,d,.cons _ r,e=>by
  obtain⟨v,a,b⟩:=aQ.get (i:=i) (d:=d) r (by simpa using e);exact⟨v,by simpa using a,b⟩
theorem aC.none:∀{ds:List D} {vs:List V} {i:Nat},aC K cA U H ds vs->ds[i]?=none->vs[i]?=none:=λ{ds vs i} r e=>by
 have:=r.len;have h2:ds.length<=i:=qD.mp e;exact qD.mpr (by lia)
theorem aC.app:∀{ds es:List D} {vs us:List V},aC K cA U H ds vs->aC K cA U H es us->aC K cA U H (ds++es) (vs++us)
 |_,_,_,_,.nil,s=>s
 |_,_,_,_,.cons h r,s=>.cons h (aC.app r s)
theorem aC.take:∀{ds:List D} {vs:List V} (n:Nat),aC K cA U H ds vs->aC K cA U H (ds.take n) (vs.take n)
 |_,_,0,_=>by simp;exact .nil
 |_,_,n+1,.nil=>by simp;exact .nil
 |_,_,n+1,.cons h r=>by simp only[List.take_succ_cons];exact .cons h (aC.take n r)
theorem aC.drop:∀{ds:List D} {vs:List V} (n:Nat),aC K cA U H ds vs->aC K cA U H (ds.drop n) (vs.drop n)
 |_,_,0,r=>r
 |_,_,n+1,.nil=>by simp;exact .nil
 |_,_,n+1,.cons _ r=>by simp only[List.drop_succ_cons];exact aC.drop n r
theorem aC.set{d:D}{v:V}(h:Rep K cA U H d v):∀{ds:List D} {vs:List V} (i:Nat),aC K cA U H ds vs->aC K cA U H (ds.set i d) (vs.set i v)
 |_,_,_,.nil=>.nil
 |_,_,0,.cons _ r=>.cons h r
 |_,_,i+1,.cons q r=>.cons q (aC.set h i r)
theorem aC.rev:∀{ds:List D} {vs:List V},aC K cA U H ds vs->aC K cA U H ds.reverse vs.reverse
 |_,_,.nil=>.nil
 |_,_,.cons h r=>by rw[Lr,Lr];exact(aC.rev r).app (.cons h .nil)
theorem aC.cut{ds:List D}{vs:List V}{l h:Option Int}(r:aC K cA U H ds vs):aC K cA U H (Mi.cut ds l h) (mY vs l h):=by
 unfold Mi.cut mY;rw[<-r.len];exact(r.drop _).take _
def bG(H H':Hp):Prop:=∀a o,H a=some o->H' a=some o
theorem bG.refl:bG H H:=λ_ _ h=>h
theorem bG.trans(x:bG H H')(y:bG H' nq):bG H nq:=λa o h=>y a o (x a o h)
theorem bG.new{p:Addr}{o:HO}(hp:H p=none):bG H (upd H p o):=λa u h=>by rw[bZ (wW h hp)];exact h
theorem bG.ext(g:bG H H'):Ext U H U H':=⟨⟨[],by simp,by simp⟩,λ_ h=>h,λ_ h=>.inl h,λa o h _ _=>g a o h,λa o h=>⟨o,g a o h⟩⟩
theorem lu.grow{a:Addr}{o:SO}(g:bG H H')(hz:∀a∈U.l,U.z a)(h:lu K cA U H a o):lu K cA U H' a o:=h.map (λu _=>g _ u) λ_ _ r=>r.mono g.ext hz
theorem aD.grow(g:bG H H')(h:aD K cA U H s):aD K cA U H' s:=
 ⟨h.len,λn o a e1 e2=>(h.obj n o a e1 e2).grow g h.lz,h.uniq,h.lz,λa z=>let ⟨o,e⟩:=h.zt a z;⟨o,g _ _ e⟩⟩
theorem aD.nz(h:aD K cA U H s){p:Addr}(hp:H p=none):¬U.z p:=λz=>by obtain⟨o,e⟩:=h.zt p z;rw[hp] at e;cases e
noncomputable def Ph.add(U:Ph)(p:Addr):Ph:=⟨λa=>U.z a\/a=p,U.l++[p]⟩
theorem Ext.add{p:Addr}{o:HO}(hp:H p=none):Ext U H (U.add p) (upd H p o):=
 ⟨⟨[p],rfl,by simpa using hp⟩,λ_ h=>.inl h,λa h=>h.imp id λe=>by rw[e];exact hp,λa u h _ _=>bG.new hp a u h,λa u h=>⟨u,bG.new hp a u h⟩⟩
theorem aD.Jo{p:Addr}{so:SO}{ho:HO}(h:aD K cA U H s)(hp:H p=none)(hr:lu K cA (U.add p) (upd H p ho) p so):aD K cA (U.add p) (upd H p ho) (s++[so]):=by
 have pn:p∉U.l:=λz=>h.nz hp (h.lz p z);refine⟨by show (U.l++[p]).length=_;rw[pC,pC,h.len];rfl,λn o a e1 e2=>?_,?_,λa ha=>?_,λa ha=>?_⟩
 ·have e2:(U.l++[p])[n]?=some a:=e2;by_cases hn:n<s.length
  ·rw[pB hn] at e1;rw[pB (by rw[h.len];exact hn)] at e2;exact(h.obj n o a e1 e2).map (λu _=>bG.new hp _ u) λ_ _ r=>r.mono (Ext.add hp) h.lz
  ·have hl:n=s.length:=by
    have z:=(f9.mp e1).1;rw[pC] at z;simp at z
    lia
   subst hl;rw[pJ (cD _)] at e1;rw[pJ (by rw[h.len];exact cD _)] at e2;simp at e1;simp[h.len] at e2;subst e1 e2;exact hr
 ·show (U.l++[p]).Nodup;rw[Ls];refine⟨h.uniq,by simp,λa ha b hb e=>?_⟩;simp at hb;subst hb e;exact pn ha
 ·have ha:a∈U.l++[p]:=ha;rcases nJ.mp ha with z|z
  ·exact .inl (h.lz a z)
  ·simp at z;exact .inr z
 ·rcases ha with z|z
  ·obtain⟨o,e⟩:=h.zt a z;exact⟨o,bG.new hp _ _ e⟩
  ·subst z;exact⟨_,iH⟩
theorem aD.add{p:Addr}{xs:List D}{vs:List V}(h:aD K cA U H s)(hp:H p=none)(r:aC K cA U H xs vs):aD K cA (U.add p) (upd H p (.lst vs)) (s++[.lst xs]):=h.Jo hp ⟨vs,iH,r.mono (Ext.add hp) h.lz⟩
theorem Ext.write{n:Nat}{p:Addr}{o:HO}(hp:U.l[n]?=some p)(hv:∃u,H p=some u):Ext U H U (upd H p o):=by
 have hm:p∈U.l:=gU hp;refine⟨⟨[],by simp,by simp⟩,λ_ h=>h,λ_ h=>.inl h,λa u h _ n=>by
  have ne:a≠p:=λe=>n (by rw[e];exact hm);rw[bZ ne];exact h,λa u h=>?_⟩
 by_cases e:a=p
 ·subst e;exact⟨o,iH⟩
 ·exact⟨u,by rw[bZ e];exact h⟩
theorem aD.uV{n:Nat}{p:Addr}{so:SO}{ho:HO}(h:aD K cA U H s)(hl:n<s.length)(hp:U.l[n]?=some p)(hr:lu K cA U (upd H p ho) p so):aD K cA U (upd H p ho) (s.set n so):=by
 have hv:=h.zt p (h.lz p (gU hp));have x:Ext U H U (upd H p ho):=Ext.write hp hv;refine⟨by rw[pL];exact h.len,λm o a e1 e2=>?_,h.uniq,h.lz,λa ha=>?_⟩
 ·by_cases hm:n=m
  ·subst hm;rw[yU hl] at e1;cases e1;rw[hp] at e2;cases e2;exact hr
  ·rw[qF hm] at e1;have ne:a≠p:=λy=>by
    subst y;exact hm ((PN (f9.mp hp).1 h.uniq).mp (hp.trans e2.symm))
   exact(h.obj m o a e1 e2).map (λ_ _ q=>by rw[bZ ne];exact q) λ_ _ r=>r.mono x h.lz
 ·obtain⟨o,e⟩:=h.zt a ha;obtain⟨o',e'⟩:=x.stay a o e;exact⟨o',e'⟩
theorem aD.write{n:Nat}{p:Addr}{xs ys:List D}{us:List V}(h:aD K cA U H s)(hn:s[n]?=some (.lst xs))(hp:U.l[n]?=some p)(r:aC K cA U H ys us):aD K cA U (upd H p (.lst us)) (s.set n (.lst ys)):=
 h.uV (f9.mp hn).1 hp ⟨us,iH,r.mono (Ext.write hp (h.zt p (h.lz p (gU hp)))) h.lz⟩
theorem aY.set{i:Nat}{d:Xv}{v:V}(hL:aY K cA U H Z J)(r:aU K cA U H d v):aY K cA U H (Z.set i (some v)) (J.set i (some d)):=by
 refine⟨by rw[pL,pL];exact hL.1,λj e h=>?_⟩;by_cases xq:i=j
 ·subst xq;by_cases hl:i<J.length
  ·rw[yU hl] at h;cases h;exact⟨v,by rw[yU (by rw[hL.1];exact hl)],r⟩
  ·rw[List.getElem?_eq_none (by rw[pL];lia)] at h;cases h
 ·rw[qF xq] at h;obtain⟨u,a,b⟩:=hL.2 j e h;exact⟨u,by rw[qF xq];exact a,b⟩
theorem TupAt.ju{a:Addr}{vs:List V}(h:TupAt K U H a vs):gw K H a vs:=by
 rcases h with ⟨h,_⟩|(h|h)
 ·exact .inl h
 ·rcases h with h|⟨o,h⟩<;>cases h
 ·exact .inr h
theorem LstAt.sU{a:Addr}{vs:List V}(h:LstAt K U H a vs):dj K H a vs:=by
 rcases h with ⟨h,_⟩|(h|h)
 ·exact .inl h
 ·rcases h with h|⟨o,h⟩<;>cases h
 ·exact .inr h
theorem TupAt.new{p:Addr}{vs:List V}(hz:¬U.z p):TupAt K U (upd H p (.tup vs)) p vs:=.inl ⟨.inl iH,hz⟩
theorem LstAt.new{p:Addr}{vs:List V}(hz:¬U.z p):LstAt K U (upd H p (.lst vs)) p vs:=.inl ⟨.inl iH,hz⟩
end
end Mi
namespace Mi
open PySem PySem.Spec PyProof.Rows L2
theorem un{α β γ:Type}{A B C:α->β->γ->Prop}{R:Prop}(h:∃a b c,A a b c/\B a b c/\C a b c)(f:∀a b c,A a b c->B a b c->C a b c->R):R:=by
 obtain⟨a,b,c,x,y,z⟩:=h;exact f a b c x y z
section
variable (K:W.Frag)(cA:Cl)
def Run{α:Type}(m:M α)(U:Ph)(H:Hp)(s:S)(P:α->S->Ph->Hp->Prop)(Ee:Nat->List D->S->Ph->Hp->Prop):Prop:=
 match m s with
 |some (.ok a,s')=>∀U' H',Ext U H U' H'->aD K cA U' H' s'->P a s' U' H'
 |some (.er c f,s')=>∀U' H',Ext U H U' H'->aD K cA U' H' s'->Ee c f s' U' H'
 |none=>False
def kE(U:Ph)(H:Hp)(c:Nat)(fs:List D)(dx:Option Addr):Prop:=
 (cA.f c=[]/\fs=[]/\dx=none)\/∃d vs,dx=some d/\¬U.z d/\H d=some (.xd ((cA.f c).zip vs))/\(cA.f c).length=vs.length/\aC K cA U H fs vs
noncomputable def eX(EX:XS)(Z:L2.St):Nat->List D->S->Ph->Hp->Prop:=λc fs _ U' H'=>∀dx,kE K cA U' H' c fs dx->EX Z (.ref (cA.a c)) dx H'
noncomputable def tE(EX:XS)(m:Vs->M Xv):TE:=λZ H Q=>∃U J s,aY K cA U H Z J/\aD K cA U H s/\Run K cA (m J) U H s (λd _ U' H'=>∀v,aU K cA U' H' d v->Q v H') (eX K cA EX Z)
noncomputable def R6(EX:XS)(m:Vs->M (List Xv)):TA:=λZ H Q=>∃U J s,aY K cA U H Z J/\aD K cA U H s/\Run K cA (m J) U H s (λd _ U' H'=>∀v,aQ K cA U' H' d v->Q v H') (eX K cA EX Z)
noncomputable def qY(EX:XS)(m:Vs->M Bool):TT:=λZ H Q=>∃U J s,aY K cA U H Z J/\aD K cA U H s/\Run K cA (m J) U H s (λd _ U' H'=>Q d H') (eX K cA EX Z)
def Rv(U:Ph)(H:Hp)(d:D)(v:V):Prop:=match d with
 |.fl xs=>∃a vs,v=.ref a/\dj K H a vs/\aC K cA U H xs vs
 |d=>Rep K cA U H d v
inductive xY (U:Ph) (H:Hp):List D->List V->Prop where
 |nil:xY U H [] []
 |cons {d:D} {v:V} {ds:List D} {vs:List V} (h:Rv K cA U H d v) (r:xY U H ds vs):xY U H (d::ds) (v::vs)
def bN(U:Ph)(H:Hp)(o:Option Rz)(Q:VK):Prop:=match o with
 |none=>False
 |some (.dat d)=>∀H' v,bG H H'->Rep K cA U H' d v->Q v H'
 |some (.nw xs)=>∀p vs,H p=none->aC K cA U H xs vs->Q (.ref p) (upd H p (.lst vs))
structure Zt(U:Ph)(H:Hp):Prop where
 lz:∀a∈U.l,U.z a
 zt:∀a,U.z a->∃o,H a=some o
def bH(p:Pr)(r:List V->Hp->VK->Prop):Prop:=∀(U:Ph) (H:Hp) (ds:List D) (vs:List V) (Q:VK),Zt U H->xY K cA U H ds vs->bN K cA U H (prim p ds) Q->r vs H Q
end
section
variable {K:W.Frag}{cA:Cl}{U U':Ph}{H H':Hp}{s:S}{Z:L2.St}{J:Vs}{EX:XS}
theorem aD.zs(h:aD K cA U H s):Zt U H:=⟨h.lz,h.zt⟩
theorem Zt.nz(h:Zt U H)(hp:H p=none):¬U.z p:=λz=>by obtain⟨o,e⟩:=h.zt p z;rw[hp] at e;cases e
theorem Rep.rv{d:D}{v:V}(h:Rep K cA U H d v):Rv K cA U H d v:=by
 cases h with
 |fl h r=>exact⟨_,_,rfl,h.sU,r⟩
 |non=>exact .non
 |bl b=>exact .bl b
 |int b=>exact .int b
 |str b=>exact .str b
 |tup h r=>exact .tup h r
 |fd h n=>exact .fd h n
 |exc h r=>exact .exc h r
 |ob h r=>exact .ob h r
 |any v=>exact .any v
theorem Run.bd{α β:Type}{m:M α}{k:α->M β}{P:β->S->Ph->Hp->Prop}{Ee:Nat->List D->S->Ph->Hp->Prop}(h:Run K cA (M.bd m k) U H s P Ee):Run K cA m U H s (λa s1 U1 H1=>Ext U H U1 H1/\aD K cA U1 H1 s1/\Run K cA (k a) U1 H1 s1 P Ee) Ee:=by
 unfold Run M.bd at *;cases e:m s with
 |none=>rw[e] at h;exact h
 |some r=>
  obtain⟨r,s1⟩:=r;rw[e] at h;cases r with
  |er c f=>exact h
  |ok a=>
   intro U1 H1 x1 r1;refine⟨x1,r1,?_⟩;dsimp only at h ⊢;cases e2:k a s1 with
   |none=>rw[e2] at h;exact h
   |some q=>
    obtain⟨q,s2⟩:=q;rw[e2] at h;cases q with
    |ok b=>exact λU2 H2 x2 r2=>h U2 H2 (x1.trans x2) r2
    |er c f=>exact λU2 H2 x2 r2=>h U2 H2 (x1.trans x2) r2
theorem Run.imp{α:Type}{m:M α}{P P':α->S->Ph->Hp->Prop}{Ee:Nat->List D->S->Ph->Hp->Prop}(h:Run K cA m U H s P Ee)(f:∀a s' U' H',P a s' U' H'->P' a s' U' H'):Run K cA m U H s P' Ee:=by
 unfold Run at *;split at h
 ·exact λU' H' x r=>f _ _ _ _ (h U' H' x r)
 ·exact h
 ·exact h
theorem Run.ext(x:Ext U H U' H')(h:Run K cA m U H s P Ee):Run K cA m U' H' s P Ee:=by
 unfold Run at *;split at h
 ·exact λU2 H2 y r=>h U2 H2 (x.trans y) r
 ·exact λU2 H2 y r=>h U2 H2 (x.trans y) r
 ·exact h.elim
theorem Run.bK{α:Type}{a:α}{P:α->S->Ph->Hp->Prop}{Ee:Nat->List D->S->Ph->Hp->Prop}(r:aD K cA U H s)(h:Run K cA (M.ret a) U H s P Ee):P a s U H:=h U H Ext.refl r
theorem Run.opt{α:Type}{o:Option α}{P:α->S->Ph->Hp->Prop}{Ee:Nat->List D->S->Ph->Hp->Prop}(r:aD K cA U H s)(h:Run K cA (M.opt o) U H s P Ee):∃a,o=some a/\P a s U H:=by
 cases o with
 |none=>exact h.elim
 |some a=>exact⟨a,rfl,h U H Ext.refl r⟩
theorem Run.nu(h:Run K cA (M.bd (M.opt o) k) U H s P Ee):∃a,o=some a/\Run K cA (k a) U H s P Ee:=by
 cases o with
 |none=>exact h.elim
 |some a=>exact⟨a,rfl,h⟩
theorem Jp{β:Type}{x:Xv}{v:V}{k:Bool->M β}{P:β->S->Ph->Hp->Prop}{Ee:Nat->List D->S->Ph->Hp->Prop}(r:aU K cA U H x v)(h:Run K cA (M.bd (bool x) k) U H s P Ee):∃b,x=.d (.bl b)/\v=.bl b/\Run K cA (k b) U H s P Ee:=by
 cases r with
 |l _=>exact h.elim
 |d r=>cases r with
  |bl b=>exact⟨b,rfl,rfl,h⟩
  |_=>exact h.elim
theorem CW(r:aU K cA U H x v)(h:Run K cA (M.bd (int x) k) U H s P Ee):∃b,x=.d (.int b)/\v=.int b/\Run K cA (k b) U H s P Ee:=by
 cases r with
 |l _=>exact h.elim
 |d r=>cases r with
  |int b=>exact⟨b,rfl,rfl,h⟩
  |_=>exact h.elim
theorem Nb(r:aU K cA U H x v)(h:Run K cA (M.bd (dat x) k) U H s P Ee):∃d,x=.d d/\Rep K cA U H d v/\Run K cA (k d) U H s P Ee:=by
 cases r with
 |l _=>exact h.elim
 |d r=>exact⟨_,rfl,r,h⟩
theorem R7:∀{xs:List Xv} {vs:List V} {k:List D->M β} {P:β->S->Ph->Hp->Prop} {Ee:Nat->List D->S->Ph->Hp->Prop},aQ K cA U H xs vs->Run K cA (M.bd (cP xs) k) U H s P Ee->∃ds,xs=ds.map .d/\aC K cA U H ds vs/\Run K cA (k ds) U H s P Ee:=by
 intro xs
 induction xs with
 |nil=>intro vs k P Ee r h;cases r;exact⟨[],rfl,.nil,h⟩
 |cons x xs ih=>
  intro vs k P Ee r h;cases r with
  |cons a r=>
   cases a with
   |l _=>exact h.elim
   |@d y v a=>
    have h2:Run K cA (M.bd (cP xs) λds=>k (y::ds)) U H s P Ee:=by
     unfold Run M.bd cP dat at h;unfold Run M.bd;simp only[M.bd,M.ret] at h;cases e:cP xs s with
     |none=>simp only[e] at h
     |some q=>
      obtain⟨q,s1⟩:=q;simp only[e] at h;cases q with
      |ok ds=>exact h
      |er c f=>exact h
    obtain⟨ds,e,rs,h3⟩:=ih r h2;exact⟨y::ds,by rw[e];rfl,.cons a rs,h3⟩
theorem Nf(hS:aD K cA U H s)(r:aU K cA U H x v)(h:Run K cA (M.bd (rd x) k) U H s P Ee):∃d,Rv K cA U H d v/\Run K cA (k d) U H s P Ee:=by
 cases r with
 |d r=>exact⟨_,r.rv,h⟩
 |@l n a hl=>
  unfold Run M.bd rd at h;dsimp only at h;cases e:s[n]? with
  |none=>rw[e] at h;exact h.elim
  |some o=>
   rw[e] at h;cases o with
   |lst xs=>
    obtain⟨vs,q1,q2⟩:=hS.obj n _ _ e hl;exact⟨.fl xs,⟨a,vs,rfl,dj.of q1,q2⟩,h⟩
   |_=>exact h.elim
theorem gP{α β γ:Type}(m:M α)(f:α->M β)(g:β->M γ):M.bd (M.bd m f) g=M.bd m λx=>M.bd (f x) g:=by
 funext s
 unfold M.bd;cases m s with
 |none=>rfl
 |some r=>
  obtain⟨r,s1⟩:=r;cases r<;>rfl
theorem tW{β:Type}:∀{xs:List Xv} {vs:List V} {k:List D->M β} {P:β->S->Ph->Hp->Prop} {Ee:Nat->List D->S->Ph->Hp->Prop},aD K cA U H s->aQ K cA U H xs vs->Run K cA (M.bd (gW xs) k) U H s P Ee->∃ds,xY K cA U H ds vs/\Run K cA (k ds) U H s P Ee:=by
 intro xs
 induction xs with
 |nil=>intro vs k P Ee hS r h;cases r;exact⟨[],.nil,h⟩
 |cons x xs ih=>
  intro vs k P Ee hS r h;cases r with
  |cons a r=>
   have h2:Run K cA (M.bd (rd x) λd=>M.bd (gW xs) λds=>k (d::ds)) U H s P Ee:=by
    have e:M.bd (gW (x::xs)) k=M.bd (rd x) λd=>M.bd (gW xs) λds=>k (d::ds):=by
     show M.bd (M.bd (rd x) λd=>M.bd (gW xs) λds=>M.ret (d::ds)) k=_;rw[gP]
     congr 1
     funext d
     rw[gP];rfl
    rw[e] at h;exact h
   obtain⟨d,rd,h3⟩:=Nf hS a h2;obtain⟨ds,rs,h4⟩:=ih hS r h3;exact⟨d::ds,.cons rd rs,h4⟩
theorem sV{fz:Bool}{o:Option Rz}{Q:VK}{Ee:Nat->List D->S->Ph->Hp->Prop}(hS:aD K cA U H s)(h:Run K cA (cL fz o) U H s (λx _ U' H'=>∀v,aU K cA U' H' x v->Q v H') Ee):bN K cA U H o Q:=by
 cases o with
 |none=>exact h.elim
 |some z=>
  cases z with
  |dat d=>exact λH' v g r=>h U H' g.ext (hS.grow g) v (.d r)
  |nw xs=>
   intro p vs hp r;cases fz with
   |true=>exact h U _ (bG.new hp).ext (hS.grow (bG.new hp)) _ (.d (.fl (LstAt.new (hS.nz hp)) (r.mono (bG.new hp).ext hS.lz)))
   |false=>exact h (U.add p) _ (Ext.add hp) (hS.add hp r) _ (.l (by show (U.l++[p])[s.length]?=_;rw[<-hS.len];simp))
theorem Y8{fz:Bool}{xs:List D}{Q:VK}{Ee:Nat->List D->S->Ph->Hp->Prop}(hS:aD K cA U H s)(h:Run K cA (newL fz xs) U H s (λx _ U' H'=>∀v,aU K cA U' H' x v->Q v H') Ee):∀p vs,H p=none->aC K cA U H xs vs->Q (.ref p) (upd H p (.lst vs)):=
 sV (o:=some (.nw xs)) hS h
theorem bw{β:Type}{ma:Vs->M Xv}{k:Xv->M β}{P:β->S->Ph->Hp->Prop}(hL:aY K cA U H Z J)(hS:aD K cA U H s)(h:Run K cA (M.bd (ma J) k) U H s P (eX K cA EX Z)){Q:VK}
  (f:∀x H1 U1 d s1,Ext U H U1 H1->aY K cA U1 H1 Z J->aD K cA U1 H1 s1->aU K cA U1 H1 d x->Run K cA (k d) U1 H1 s1 P (eX K cA EX Z)->Q x H1):tE K cA EX ma Z H Q:=
 ⟨U,J,s,hL,hS,h.bd.imp λd s1 U1 H1 ⟨x1,r1,h1⟩ v rv=>f v H1 U1 d s1 x1 (hL.mono x1 hS.lz) r1 rv h1⟩
theorem oV{β:Type}{ma:Vs->M (List Xv)}{k:List Xv->M β}{P:β->S->Ph->Hp->Prop}(hL:aY K cA U H Z J)(hS:aD K cA U H s)(h:Run K cA (M.bd (ma J) k) U H s P (eX K cA EX Z)){Q:List V->Hp->Prop}
  (f:∀x H1 U1 d s1,Ext U H U1 H1->aY K cA U1 H1 Z J->aD K cA U1 H1 s1->aQ K cA U1 H1 d x->Run K cA (k d) U1 H1 s1 P (eX K cA EX Z)->Q x H1):R6 K cA EX ma Z H Q:=
 ⟨U,J,s,hL,hS,h.bd.imp λd s1 U1 H1 ⟨x1,r1,h1⟩ v rv=>f v H1 U1 d s1 x1 (hL.mono x1 hS.lz) r1 rv h1⟩
theorem xZ(hL:aY K cA U H Z J)(hS:aD K cA U H s)(h:Run K cA (M.bd (ma J) k) U H s P (eX K cA EX Z))
  (f:∀b H1 U1 s1,Ext U H U1 H1->aY K cA U1 H1 Z J->aD K cA U1 H1 s1->Run K cA (k b) U1 H1 s1 P (eX K cA EX Z)->Q b H1):qY K cA EX ma Z H Q:=
 ⟨U,J,s,hL,hS,h.bd.imp λd s1 U1 H1 ⟨x1,r1,h1⟩=>f d H1 U1 s1 x1 (hL.mono x1 hS.lz) r1 h1⟩
end
section
variable (X:Cx)(cA:Cl)(aq:Nat->Nat->Bool)(aj:Bool)(F:Fn)(EX:XS)
def SE(e:Expr)(m:E):Prop:=PE X e (tE X.K cA EX (ev aq aj F m))
def SA(es:List Expr)(m:Es):Prop:=PA X es (R6 X.K cA EX (evs aq aj F m))
def ST(e:Expr)(m:E):Prop:=PT X e (qY X.K cA EX (λJ=>M.bd (ev aq aj F m J) bool))
def SW(e:Expr)(m:E):Prop:=PW X e (qY X.K cA EX (λJ=>M.bd (ev aq aj F m J) bool))
end
section
variable {X:Cx}{cA:Cl}{aq:Nat->Nat->Bool}{aj:Bool}{F:Fn}{EX:XS}{a b c d e:Expr}{A B C Dd E':E}{pos:Pos}{es:List Expr}{Xs:Es}{fz:Bool}{p:Pr}
theorem PE.weak{t t':TE}(h:PE X e t)(f:∀Z H Q,t' Z H Q->t Z H Q):PE X e t':=λao s Z H Q I q=>h ao s Z H Q I (f Z H Q q)
theorem PT.weak{t t':TT}(h:PT X e t)(f:∀Z H Q,t' Z H Q->t Z H Q):PT X e t':=λao s Z H Q I q=>h ao s Z H Q I (f Z H Q q)
theorem PW.weak{t t':TT}(h:PW X e t)(f:∀Z H Q,t' Z H Q->t Z H Q):PW X e t':=λwh ao s Z H Q I q=>h wh ao s Z H Q I (f Z H Q q)
theorem PA.weak{t t':TA}(h:PA X es t)(f:∀Z H Q,t' Z H Q->t Z H Q):PA X es t':=λp ao s Z H Q I q=>h p ao s Z H Q I (f Z H Q q)
theorem zkV{i j p}:SE X cA aq aj F EX (.Constant (.int i) j p) (.c (.int i)):=PE.weak Xx λZ H Q hh=>un hh λU J s hL hS h=>h.bK hS _ (.d (.int i))
theorem znF{i j p}:SE X cA aq aj F EX (.Constant (.bool i) j p) (.c (.bl i)):=PE.weak zm3 λZ H Q hh=>un hh λU J s hL hS h=>h.bK hS _ (.d (.bl i))
theorem zmx{j p}:SE X cA aq aj F EX (.Constant .none j p) (.c .non):=PE.weak zmr λZ H Q hh=>un hh λU J s hL hS h=>h.bK hS _ (.d .non)
theorem Ng{α:Type}{o:Option (Option α)}{x:α}(h:o.join=some x):o=some (some x):=by
 cases o with
 |none=>cases h
 |some y=>cases y with
  |none=>cases h
  |some z=>cases h;rfl
theorem Y9(i:Nat){x:Str}(hN:X.N[i]?=some x:=by rfl)(hv:Mh X.env.scope x:=by first|exact Or.inl rfl|exact Or.inr (Or.inl rfl)|exact Or.inr (Or.inr rfl))(hd:(x==("__debug__" : Str))=false:=by decide)
  (iI:(x==("__classdict__" : Str))=false:=by decide):SE X cA aq aj F EX (.Name x pos) (.v i):=PE.weak (Xw hN hv hd iI) λZ H Q hh=>un hh λU J s hL hS h=>by
 obtain⟨dd,e1,q⟩:=Run.opt hS h;obtain⟨v,q1,q2⟩:=hL.2 i dd (Ng e1);exact⟨v,q1,q v q2⟩
theorem zjZ{x:Str}{i:Int}{t:Tok}(hg:Gl X x)(hm:X.mg x=some (.int i t))(hd:(x==("__debug__" : Str))=false:=by decide):SE X cA aq aj F EX (.Name x pos) (.c (.int i)):=PE.weak (zja (v:=.int i) hg hm ⟨t,rfl⟩ hd) λZ H Q hh=>un hh λU J s hL hS h=>h.bK hS _ (.d (.int i))
theorem zlw:SA X cA aq aj F EX [] .nil:=PA.weak xH λZ H Q hh=>un hh λU J s hL hS h=>h.bK hS _ .nil
theorem zj5(ha:SE X cA aq aj F EX a A)(hr:SA X cA aq aj F EX es Xs)(hs:starEach (a::es) X.env=(false,eval a X.env)::starEach es X.env:=by rfl):SA X cA aq aj F EX (a::es) (.cons A Xs):=PA.weak (rW ha hr hs) λZ H Q hh=>un hh λU J s hL hS h=>by
 refine bw hL hS h λx H1 U1 d1 s1 x1 hL1 aJ r1 h1=>oV hL1 aJ h1 λys H2 U2 d2 s2 x2 hL2 aR r2 h2=>h2.bK aR _ (.cons (r1.mono x2 aJ.lz) r2)
theorem Nh{U U1 U2:Ph}{H1 H2:Hp}{s1 s2:S}{d1 d2:Xv}{x y:V}{Q:VK}{Ee:Nat->List D->S->Ph->Hp->Prop}(x2:Ext U1 H1 U2 H2)(aJ:aD X.K cA U1 H1 s1)(aR:aD X.K cA U2 H2 s2)(r1:aU X.K cA U1 H1 d1 x)(r2:aU X.K cA U2 H2 d2 y)
  (h:Run X.K cA (M.bd (gW [d1,d2]) λds=>cL fz (prim p ds)) U2 H2 s2 (λx _ U' H'=>∀v,aU X.K cA U' H' x v->Q v H') Ee) {r:List V->Hp->VK->Prop} (hp:bH X.K cA p r):r [x,y] H2 Q:=by
 obtain⟨ds,rs,h2⟩:=tW aR (.cons (r1.mono x2 aJ.lz) (.cons r2 .nil)) h;exact hp U2 H2 ds _ Q aR.zs rs (sV aR h2)
noncomputable def r2(r:R2):List V->Hp->VK->Prop:=λvs H Q=>∃x y,vs=[x,y]/\r x y H Q
theorem FJ{r:R2}{x y:V}{H:Hp}{Q:VK}(h:r2 r [x,y] H Q):r x y H Q:=by
 obtain⟨_,_,e,q⟩:=h;cases e;exact q
theorem zlN{op:Operator}{r:R2}(ho:fK X (binaryOp op) r)(hp:bH X.K cA p (r2 r))(ha:SE X cA aq aj F EX a A)(hb:SE X cA aq aj F EX b B):SE X cA aq aj F EX (.BinOp a op b pos) (.pr fz p (.cons A (.cons B .nil))):=PE.weak (znP ho ha hb) λZ H Q hh=>un hh λU J s hL hS h=>by
 have h:Run X.K cA (M.bd (M.bd (ev aq aj F A J) λx=>M.bd (M.bd (ev aq aj F B J) λy=>M.bd (M.ret []) λz=>M.ret (y::z)) λys=>M.ret (x::ys)) λvs=>M.bd (gW vs) λds=>cL fz (prim p ds)) U H s _ _:=h;simp only[gP] at h;refine bw hL hS h λx H1 U1 d1 s1 x1 hL1 aJ r1 h1=>bw hL1 aJ h1 λy H2 U2 d2 s2 x2 hL2 aR r2' h2=>?_;exact FJ (Nh (fz:=fz) (U:=U) x2 aJ aR r1 r2' h2 hp)
theorem zmu{op:CmpOp}{r:R2}(ho:fK X (compareOp op) r)(hp:bH X.K cA p (r2 r))(ha:SE X cA aq aj F EX a A)(hb:SE X cA aq aj F EX b B)(hm:behindInMarks op b=false):SE X cA aq aj F EX (.Compare a [op] [b] pos) (.pr true p (.cons A (.cons B .nil))):=PE.weak (zjC ho ha hb hm) λZ H Q hh=>un hh λU J s hL hS h=>by
 have h:Run X.K cA (M.bd (M.bd (ev aq aj F A J) λx=>M.bd (M.bd (ev aq aj F B J) λy=>M.bd (M.ret []) λz=>M.ret (y::z)) λys=>M.ret (x::ys)) λvs=>M.bd (gW vs) λds=>cL true (prim p ds)) U H s _ _:=h;simp only[gP] at h;refine bw hL hS h λx H1 U1 d1 s1 x1 hL1 aJ r1 h1=>bw hL1 aJ h1 λy H2 U2 d2 s2 x2 hL2 aR r2' h2=>?_;exact FJ (Nh (fz:=true) (U:=U) x2 aJ aR r1 r2' h2 hp)
theorem iT{A B:Prop}(h:A):if true=true then A else B:=by rw[if_pos rfl];exact h
theorem iF{A B:Prop}(h:B):if false=true then A else B:=by rw[if_neg Gz];exact h
theorem zkU{op:CmpOp}{r:R2}(ho:fK X (compareOp op) r)(hp:bH X.K cA p (r2 r))(ha:SE X cA aq aj F EX a A)(hb:SE X cA aq aj F EX b B)(hm:behindInMarks op b=false):ST X cA aq aj F EX (.Compare a [op] [b] pos) (.pr true p (.cons A (.cons B .nil))):=PT.weak (ziX ho ha hb hm) λZ H Q hh=>un hh λU J s hL hS h=>by
 have h:Run X.K cA (M.bd (M.bd (M.bd (ev aq aj F A J) λx=>M.bd (M.bd (ev aq aj F B J) λy=>M.bd (M.ret []) λz=>M.ret (y::z)) λys=>M.ret (x::ys)) λvs=>M.bd (gW vs) λds=>cL true (prim p ds)) bool) U H s _ _:=h;simp only[gP] at h;refine bw hL hS h λx H1 U1 d1 s1 x1 hL1 aJ r1 h1=>bw hL1 aJ h1 λy H2 U2 d2 s2 x2 hL2 aR r2' h2=>?_;obtain⟨ds,rs,h3⟩:=tW aR (.cons (r1.mono x2 aJ.lz) (.cons r2' .nil)) h2;refine FJ (hp U2 H2 ds _ _ aR.zs rs (sV (Ee:=eX X.K cA EX Z) aR (h3.bd.imp λt s3 U3 H3 ⟨x3,gQ,h4⟩ v rv=>?_)));cases rv with
 |l _=>exact h4.elim
 |d rv=>cases rv with
  |bl k=>exact⟨k,rfl,h4 U3 H3 Ext.refl gQ⟩
  |_=>exact h4.elim
theorem zlp{op op':CmpOp}{r r':R2}{q:Pr}(ho:fK X (compareOp op) r)(hp:bH X.K cA p (r2 r))(pP:fK X (compareOp op') r')(hp':bH X.K cA q (r2 r'))(ha:SE X cA aq aj F EX a A)(hb:SE X cA aq aj F EX b B)(hc:SE X cA aq aj F EX c C)(hm:lastMarks [op,op'] [b,c]=false:=by with_unfolding_all rfl) :
  SE X cA aq aj F EX (.Compare a [op,op'] [b,c] pos) (.xW p q A B C):=PE.weak (zhu ho pP ha hb hc hm) λZ H Q hh=>un hh λU J s hL hS h=>by
 refine bw hL hS h λx H1 U1 d1 s1 x1 hL1 aJ r1 h1=>bw hL1 aJ h1 λy H2 U2 d2 s2 x2 hL2 aR r2' h2=>?_;obtain⟨ds,rs,h3⟩:=tW aR (.cons (r1.mono x2 aJ.lz) (.cons r2' .nil)) h2;refine FJ (hp U2 H2 ds _ _ aR.zs rs (sV (Ee:=eX X.K cA EX Z) aR (h3.bd.imp λt s3 U3 H3 ⟨x3,gQ,h4⟩ v rv=>?_)));obtain⟨k,_,e,h5⟩:=Jp rv h4;refine⟨k,e,?_⟩;cases k with
 |false=>exact iF (h5.bK gQ _ (.d (.bl _)))
 |true=>
  have oW:=hL2.mono x3 aR.lz;refine iT (bw oW gQ h5 λz H4 U4 d4 s4 x4 hL4 qZ r4 h6=>?_);exact FJ (Nh (fz:=true) (U:=U) x4 gQ qZ (r2'.mono x3 aR.lz) r4 h6 hp')
theorem zkx(ha:SE X cA aq aj F EX a A):SE X cA aq aj F EX (.UnaryOp .Not a pos) (.not A):=PE.weak (zlq ha) λZ H Q hh=>un hh λU J s hL hS h=>by
 refine bw hL hS h λx H1 U1 d1 s1 x1 hL1 aJ r1 h1=>?_;obtain⟨i,_,e,h3⟩:=Jp r1 h1;exact⟨i,e,h3.bK aJ _ (.d (.bl _))⟩
theorem zmA{op}(ha:SE X cA aq aj F EX a A):SE X cA aq aj F EX (.BoolOp op [a] pos) A:=zl1 ha
theorem zk2{rest:List Expr}(ha:SE X cA aq aj F EX a A)(hb:SE X cA aq aj F EX (.BoolOp .And (b::rest) pos) B):SE X cA aq aj F EX (.BoolOp .And (a::b::rest) pos) (.and A B):=PE.weak (zkF ha hb) λZ H Q hh=>un hh λU J s hL hS h=>by
 refine bw hL hS h λx H1 U1 d1 s1 x1 hL1 aJ r1 h1=>?_;obtain⟨i,_,e,h3⟩:=Jp r1 h1;refine⟨i,e,?_⟩;cases i with
 |true=>exact iT ⟨U1,J,s1,hL1,aJ,h3⟩
 |false=>exact iF (h3.bK aJ _ (.d (.bl _)))
theorem znv{rest:List Expr}(ha:SE X cA aq aj F EX a A)(hb:SE X cA aq aj F EX (.BoolOp .Or (b::rest) pos) B):SE X cA aq aj F EX (.BoolOp .Or (a::b::rest) pos) (.or A B):=PE.weak (zm7 ha hb) λZ H Q hh=>un hh λU J s hL hS h=>by
 refine bw hL hS h λx H1 U1 d1 s1 x1 hL1 aJ r1 h1=>?_;obtain⟨i,_,e,h3⟩:=Jp r1 h1;refine⟨i,e,?_⟩;cases i with
 |true=>exact iT (h3.bK aJ _ (.d (.bl _)))
 |false=>exact iF ⟨U1,J,s1,hL1,aJ,h3⟩
end
section
variable {X:Cx}{cA:Cl}{aq:Nat->Nat->Bool}{aj:Bool}{F:Fn}{EX:XS}{a b c d e o:Expr}{A B C Dd E' O:E}{pos pp p2 apos:Pos}{es:List Expr}{Xs:Es}{fz:Bool}{p:Pr}{x:Str}
theorem zlm(ha:SE X cA aq aj F EX a A)(he:∀whole,isTrue a X.env whole=(do let v <-whole;standAt a.pos;holding [v] (truthy v)):=by intro _;rfl):ST X cA aq aj F EX a A:=PT.weak (zlx ha he) λZ H Q hh=>un hh λU J s hL hS h=>by
 refine bw hL hS h λx H1 U1 d1 s1 x1 hL1 aJ r1 h1=>?_;have h1:Run X.K cA (M.bd (bool d1) M.ret) U1 H1 s1 (λd _ U' H'=>Q d H') (eX X.K cA EX Z):=by
  cases d1 with
  |l n=>exact h1
  |d v=>cases v<;>exact h1
 obtain⟨k,_,e,q⟩:=Jp r1 h1;exact⟨k,e,q.bK aJ⟩
theorem zhg{m:M Xv}{g:Bool->Bool}:M.bd (M.bd m λx=>M.bd (bool x) λk=>M.ret (Xv.d (.bl (g k)))) bool=M.bd (M.bd m bool) λk=>M.ret (g k):=by
 rw[gP,gP]
 congr 1
 funext x
 rw[gP];rfl
theorem zlb(ha:ST X cA aq aj F EX a A):ST X cA aq aj F EX (.UnaryOp .Not a pos) (.not A):=PT.weak (zlg ha) λZ H Q hh=>un hh λU J s hL hS h=>by
 have h:Run X.K cA (M.bd (M.bd (ev aq aj F A J) λx=>M.bd (bool x) λk=>M.ret (Xv.d (.bl (!k)))) bool) U H s _ _:=h;rw[zhg (g:=λk=>!k)] at h;exact xZ hL hS h λk H1 U1 s1 x1 hL1 aJ h1=>h1.bK aJ
theorem zjo(ha:ST X cA aq aj F EX a A):SW X cA aq aj F EX (.BoolOp .And [a] pos) A:=zi7 ha
theorem zkn(ha:ST X cA aq aj F EX a A):SW X cA aq aj F EX (.BoolOp .Or [a] pos) A:=zlu ha
theorem Y_{m:M Xv}{k:Bool->M Xv}:M.bd (M.bd m λx=>M.bd (bool x) k) bool=M.bd (M.bd m bool) λb=>M.bd (k b) bool:=by
 rw[gP,gP]
 congr 1
 funext x
 rw[gP]
theorem zmm{rest:List Expr}(ha:ST X cA aq aj F EX a A)(hb:SW X cA aq aj F EX (.BoolOp .And (b::rest) pos) B):SW X cA aq aj F EX (.BoolOp .And (a::b::rest) pos) (.and A B):=PW.weak (zkN ha hb) λZ H Q hh=>un hh λU J s hL hS h=>by
 have h:Run X.K cA (M.bd (M.bd (ev aq aj F A J) λx=>M.bd (bool x) λk=>if k=true then ev aq aj F B J else M.ret (Xv.d (.bl false))) bool) U H s _ _:=h;rw[Y_] at h;refine xZ hL hS h λk H1 U1 s1 x1 hL1 aJ h3=>?_;cases k with
 |true=>exact iT ⟨U1,J,s1,hL1,aJ,h3⟩
 |false=>exact iF (Run.bK aJ (a:=false) h3)
theorem zmG{rest:List Expr}(ha:ST X cA aq aj F EX a A)(hb:SW X cA aq aj F EX (.BoolOp .Or (b::rest) pos) B):SW X cA aq aj F EX (.BoolOp .Or (a::b::rest) pos) (.or A B):=PW.weak (zmQ ha hb) λZ H Q hh=>un hh λU J s hL hS h=>by
 have h:Run X.K cA (M.bd (M.bd (ev aq aj F A J) λx=>M.bd (bool x) λk=>if k=true then M.ret (Xv.d (.bl true)) else ev aq aj F B J) bool) U H s _ _:=h;rw[Y_] at h;refine xZ hL hS h λk H1 U1 s1 x1 hL1 aJ h3=>?_;cases k with
 |true=>exact iT (Run.bK aJ (a:=true) h3)
 |false=>exact iF ⟨U1,J,s1,hL1,aJ,h3⟩
theorem zoB(h:SW X cA aq aj F EX a A):ST X cA aq aj F EX a A:=Kad h
theorem zjz:(M.bd m λx=>M.bd (bool x) k)=M.bd (M.bd m bool) k:=by rw[gP]
theorem zk7(hc:ST X cA aq aj F EX c C)(ha:SE X cA aq aj F EX a A)(hb:SE X cA aq aj F EX b B):SE X cA aq aj F EX (.IfExp c a b pos) (.ite C A B):=PE.weak (zhO hc ha hb) λZ H Q hh=>un hh λU J s hL hS h=>by
 have h:Run X.K cA (M.bd (ev aq aj F C J) λx=>M.bd (bool x) λk=>if k=true then ev aq aj F A J else ev aq aj F B J) U H s _ _:=h;rw[zjz] at h;refine xZ hL hS h λk H1 U1 s1 x1 hL1 aJ h3=>?_;cases k with
 |true=>exact iT ⟨U1,J,s1,hL1,aJ,h3⟩
 |false=>exact iF ⟨U1,J,s1,hL1,aJ,h3⟩
theorem Za:∀(Xs:Es) (J:Vs) (s:S) (ds:List Xv) (s':S),evs aq aj F Xs J s=some (.ok ds,s')->ds.length=Es.len Xs
 |.nil,J,s,ds,s',h=>by cases h;rfl
 |.cons a r,J,s,ds,s',h=>by
  have h:M.bd (ev aq aj F a J) (λx=>M.bd (evs aq aj F r J) λxs=>M.ret (x::xs)) s=some (.ok ds,s'):=h;unfold M.bd at h;cases e1:ev aq aj F a J s with
  |none=>rw[e1] at h;cases h
  |some q=>
   obtain⟨q,s1⟩:=q;rw[e1] at h;cases q with
   |er c f=>cases h
   |ok d=>
    dsimp only at h;cases e2:evs aq aj F r J s1 with
    |none=>rw[e2] at h;cases h
    |some q=>
     obtain⟨q,s2⟩:=q;rw[e2] at h;cases q with
     |er c f=>cases h
     |ok ds'=>
      cases h;rw[h_,Za r J s1 ds' _ e2];rfl
theorem Jq{β:Type}{K:W.Frag}{U:Ph}{H:Hp}{s:S}{Z:L2.St}{J:Vs}{k:List Xv->M β}{P:β->S->Ph->Hp->Prop}(hL:aY K cA U H Z J)(hS:aD K cA U H s)(h:Run K cA (M.bd (evs aq aj F Xs J) k) U H s P (eX K cA EX Z)){Q:List V->Hp->Prop}
  (f:∀x H1 U1 d s1,d.length=Es.len Xs->Ext U H U1 H1->aY K cA U1 H1 Z J->aD K cA U1 H1 s1->aQ K cA U1 H1 d x->Run K cA (k d) U1 H1 s1 P (eX K cA EX Z)->Q x H1):R6 K cA EX (evs aq aj F Xs) Z H Q:=by
 refine⟨U,J,s,hL,hS,?_⟩;have h2:=h.bd;unfold Run at h2 ⊢;cases e:evs aq aj F Xs J s with
 |none=>rw[e] at h2;exact h2
 |some r=>
  obtain⟨r,s1⟩:=r;rw[e] at h2;cases r with
  |er c f=>exact h2
  |ok ds=>
   intro U1 H1 x1 r1 v rv;obtain⟨_,_,h3⟩:=h2 U1 H1 x1 r1;exact f v H1 U1 ds s1 (Za Xs J s ds s1 e) x1 (hL.mono x1 hS.lz) r1 rv h3
theorem zlL{k}(ha:SA X cA aq aj F EX es Xs)(hz:Es.len Xs<=sizeLine):SE X cA aq aj F EX (.Tuple es k pos) (.tup Xs):=PE.weak (zle ha) λZ H Q hh=>un hh λU J s hL hS h=>by
 refine Jq hL hS h λvs H1 U1 xs s1 hl x1 hL1 aJ rv h1=>?_;obtain⟨ds,e,rs,h2⟩:=R7 rv h1;refine⟨by rw[<-rv.len,hl];exact hz,λp hp=>?_⟩;exact h2 U1 (upd H1 p (.tup vs)) (bG.new hp).ext (aJ.grow (bG.new hp)) _ (.d (.tup (TupAt.new (aJ.nz hp)) (rs.mono (bG.new hp).ext aJ.lz)))
theorem zli(ha:SA X cA aq aj F EX es Xs)(hz:Es.len Xs<=sizeLine):SE X cA aq aj F EX (.List es pos) (.lst fz Xs):=PE.weak (zl0 ha) λZ H Q hh=>un hh λU J s hL hS h=>by
 refine Jq hL hS h λvs H1 U1 xs s1 hl x1 hL1 aJ rv h1=>?_;obtain⟨ds,e,rs,h2⟩:=R7 rv h1;exact⟨by rw[<-rv.len,hl];exact hz,λp hp=>Y8 aJ h2 p vs hp rs⟩
theorem zT{id:String}{r:List V->Hp->VK->Prop}(hc:dB X (.builtin id) r)(hp:bH X.K cA p r)
  (hg:Gl X x) (hm:X.mg x=none) (hv:bootBuiltins x=some (.builtin id)) (ha:SA X cA aq aj F EX (e::es) Xs) (hn:x≠"__name__":=by decide) (rZ:(x==("__debug__" : Str))=false:=by decide)
  (he:starEach (e::es) X.env=(false,eval e X.env)::starEach es X.env:=by rfl) (cO:(backTo pos (starEach es X.env)).any (·.1)=false:=by rfl):SE X cA aq aj F EX (.Call (.Name x pp) (e::es) [] pos) (.pr fz p Xs):=PE.weak (Yl hc hg hm hv ha hn rZ he cO) λZ H Q hh=>un hh λU J s hL hS h=>
 oV hL hS h λvs H1 U1 ds s1 x1 hL1 aJ r1 h1=>by
  obtain⟨ds,rs,h3⟩:=tW aJ r1 h1;exact hp U1 H1 ds _ _ aJ.zs rs (sV aJ h3)
theorem R8{id:String}{r:List V->Hp->VK->Prop}(hc:dB X (.type id) r)(hp:bH X.K cA p r)
  (hg:Gl X x) (hm:X.mg x=none) (hv:bootBuiltins x=some (.type id)) (ha:SA X cA aq aj F EX (e::es) Xs) (hn:x≠"__name__":=by decide) (rZ:(x==("__debug__" : Str))=false:=by decide)
  (he:starEach (e::es) X.env=(false,eval e X.env)::starEach es X.env:=by rfl) (cO:(backTo pos (starEach es X.env)).any (·.1)=false:=by rfl):SE X cA aq aj F EX (.Call (.Name x pp) (e::es) [] pos) (.pr fz p Xs):=PE.weak (zfz hc hg hm hv ha hn rZ he cO) λZ H Q hh=>un hh λU J s hL hS h=>
 oV hL hS h λvs H1 U1 ds s1 x1 hL1 aJ r1 h1=>by
  obtain⟨ds,rs,h3⟩:=tW aJ r1 h1;exact hp U1 H1 ds _ _ aJ.zs rs (sV aJ h3)
theorem zmI(hp:bH X.K cA p (r2 (Q5 X.K)))(ha:SE X cA aq aj F EX a A)(hb:SE X cA aq aj F EX b B)(hs:qP b:=by intro _ _;rfl):SE X cA aq aj F EX (.Subscript a b pos) (.pr true p (.cons A (.cons B .nil))):=PE.weak (zmY zld ha hb hs) λZ H Q hh=>un hh λU J s hL hS h=>by
 have h:Run X.K cA (M.bd (M.bd (ev aq aj F A J) λx=>M.bd (M.bd (ev aq aj F B J) λy=>M.bd (M.ret []) λz=>M.ret (y::z)) λys=>M.ret (x::ys)) λvs=>M.bd (gW vs) λds=>cL true (prim p ds)) U H s _ _:=h;simp only[gP] at h;refine bw hL hS h λx H1 U1 d1 s1 x1 hL1 aJ r1 h1=>bw hL1 aJ h1 λy H2 U2 d2 s2 x2 hL2 aR r2' h2=>?_;exact FJ (Nh (fz:=true) (U:=U) x2 aJ aR r1 r2' h2 hp)
theorem znI(ho:Mv X (unaryOp op) r)(hp:bH X.K cA p (λvs H Q=>∃x,vs=[x]/\r x H Q))(ha:SE X cA aq aj F EX a A):SE X cA aq aj F EX (.UnaryOp op a pos) (.pr true p (.cons A .nil)):=PE.weak (X6 ho ha) λZ H Q hh=>un hh λU J s hL hS h=>by
 have h:Run X.K cA (M.bd (M.bd (ev aq aj F A J) λx=>M.bd (M.ret []) λz=>M.ret (x::z)) λvs=>M.bd (gW vs) λds=>cL true (prim p ds)) U H s _ _:=h;simp only[gP] at h;refine bw hL hS h λx H1 U1 d1 s1 x1 hL1 aJ r1 h1=>?_;obtain⟨ds,rs,h3⟩:=tW aJ (.cons r1 .nil) h1;obtain⟨_,e,q⟩:=hp U1 H1 ds _ _ aJ.zs rs (sV aJ h3);cases e;exact q
theorem zl6{j p'}(ha:SE X cA aq aj F EX a A):SE X cA aq aj F EX (.Compare a [.Is] [.Constant .none j p'] pos) (.pr true .vY (.cons A .nil)):=PE.weak (XD (Xy ha)) λZ H Q hh=>un hh λU J s hL hS h=>by
 have h:Run X.K cA (M.bd (M.bd (ev aq aj F A J) λx=>M.bd (M.ret []) λz=>M.ret (x::z)) λvs=>M.bd (gW vs) λds=>cL true (prim .vY ds)) U H s _ _:=h;simp only[gP] at h;refine bw hL hS h λx H1 U1 d1 s1 x1 hL1 aJ r1 h1=>?_;obtain⟨ds,rs,h3⟩:=tW aJ (.cons r1 .nil) h1;cases rs with
 |cons r rs=>cases rs with
  |nil=>
   rename_i d;have h4:=sV aJ h3;have q:=h4 H1 _ bG.refl (.bl _);cases d<;>first
    |(obtain⟨_,_,rfl,_,_⟩:=r;exact q)
    |(cases (show Rep _ _ _ _ _ x from r)<;>exact q)
theorem zj8{j p'}(ha:SE X cA aq aj F EX a A):SE X cA aq aj F EX (.Compare a [.IsNot] [.Constant .none j p'] pos) (.pr true .tU (.cons A .nil)):=PE.weak (XD (Xz ha)) λZ H Q hh=>un hh λU J s hL hS h=>by
 have h:Run X.K cA (M.bd (M.bd (ev aq aj F A J) λx=>M.bd (M.ret []) λz=>M.ret (x::z)) λvs=>M.bd (gW vs) λds=>cL true (prim .tU ds)) U H s _ _:=h;simp only[gP] at h;refine bw hL hS h λx H1 U1 d1 s1 x1 hL1 aJ r1 h1=>?_;obtain⟨ds,rs,h3⟩:=tW aJ (.cons r1 .nil) h1;cases rs with
 |cons r rs=>cases rs with
  |nil=>
   rename_i d;have h4:=sV aJ h3;have q:=h4 H1 _ bG.refl (.bl _);cases d<;>first
    |(obtain⟨_,_,rfl,_,_⟩:=r;exact q)
    |(cases (show Rep _ _ _ _ _ x from r)<;>exact q)
theorem Zb(q:Pr)(hq:prim q=Cy f)(hh:qY X.K cA EX (λJ=>M.bd (ev aq aj F (.pr true q (.cons A .nil)) J) bool) Z H Q):tE X.K cA EX (ev aq aj F A) Z H λx H1=>Q (f (decide (x=.non))) H1:=un hh λU J s hL hS h=>by
 have h:Run X.K cA (M.bd (M.bd (M.bd (ev aq aj F A J) λx=>M.bd (M.ret []) λz=>M.ret (x::z)) λvs=>M.bd (gW vs) λds=>cL true (prim q ds)) bool) U H s _ _:=h;simp only[gP] at h;refine bw hL hS h λx H1 U1 d1 s1 x1 hL1 aJ r1 h1=>?_;obtain⟨ds,rs,h3⟩:=tW aJ (.cons r1 .nil) h1;cases rs with
 |cons r rs=>cases rs with
  |nil=>
   rename_i d;rw[hq] at h3;have h4:Run X.K cA (M.bd (M.ret (Xv.d (.bl (f d.uQ)))) bool) U1 H1 s1 (λd _ U' H'=>Q d H') (eX X.K cA EX Z):=h3;have q:=h4 U1 H1 Ext.refl aJ;cases d<;>first
    |(obtain⟨_,_,rfl,_,_⟩:=r;exact q)
    |(cases (show Rep _ _ _ _ _ x from r)<;>exact q)
theorem zmt{j p'}(ha:SE X cA aq aj F EX a A):ST X cA aq aj F EX (.Compare a [.Is] [.Constant .none j p'] pos) (.pr true .vY (.cons A .nil)):=PT.weak (Qm (Xy ha)) λZ H Q hh=>by
 have:=Zb .vY (f:=id) rfl hh;obtain⟨U,J,s,a,b,c⟩:=this;exact⟨U,J,s,a,b,c.imp λd s' U' H' k v rv=>⟨_,rfl,k v rv⟩⟩
theorem ziH{j p'}(ha:SE X cA aq aj F EX a A):ST X cA aq aj F EX (.Compare a [.IsNot] [.Constant .none j p'] pos) (.pr true .tU (.cons A .nil)):=PT.weak (Qm (Xz ha)) λZ H Q hh=>by
 have:=Zb .tU (f:=not) rfl hh;obtain⟨U,J,s,a,b,c⟩:=this;exact⟨U,J,s,a,b,c.imp λd s' U' H' k v rv=>⟨_,rfl,k v rv⟩⟩
theorem zg8{K:W.Frag}{U:Ph}{H:Hp}{s:S}{x:Xv}{v:V}{Q:Bool->Hp->Prop}{Ee:Nat->List D->S->Ph->Hp->Prop}(hS:aD K cA U H s)(r:aU K cA U H x v)(h:Run K cA (bool x) U H s (λd _ U' H'=>Q d H') Ee):∃k,v=.bl k/\Q k H:=by
 cases r with
 |l _=>exact h.elim
 |d rv=>cases rv with
  |bl k=>exact⟨k,rfl,h U H Ext.refl hS⟩
  |_=>exact h.elim
end
mutual
inductive Is (h:Heap):D->Value->Prop where
 |non:Is h .non .none
 |bl (b:Bool):Is h (.bl b) (.bool b)
 |int (i:Int) (t:Tok):Is h (.int i) (.int i t)
 |str (x:Str) (t:Tok):Is h (.str x) (.str x t)
 |tup {a:Addr} {xs:List D} {its:List Value} (p:h.IsTuple a its.toArray) (r:jH h xs its):Is h (.tup xs) (.ref a)
 |fl {a:Addr} {xs:List D} {its:List Value} (p:h.IsList a its.toArray) (r:jH h xs its):Is h (.fl xs) (.ref a)
 |oth {d:D} {u:Value} (k:kq d=none):Is h d u
inductive jH (h:Heap):List D->List Value->Prop where
 |nil:jH h [] []
 |cons {d:D} {u:Value} {ds:List D} {us:List Value} (a:Is h d u) (r:jH h ds us):jH h (d::ds) (u::us)
end
section
variable {X:Cx}{cA:Cl}{ao:List (Addr×Obj)}{Z:L2.St}{H:Hp}{s:Shared}{U:Ph}{h:Heap}
theorem R9(I:Inv X ao Z H s){ds:List D}{vs:List V}{us:List Value}(h:aC X.K cA U H ds vs)(r:Vals vs us):jH s.heap ds us:=
 aC.rec (motive_1:=λd v _=>∀{u:Value},RelV v u->Is s.heap d u) (motive_2:=λd v _=>∀{u:List Value},Vals v u->jH s.heap d u) (λr=>by cases r;exact .non) (λb _ r=>by cases r;exact .bl b) (λi _ r=>by obtain⟨t,rfl⟩:=r;exact .int i t) (λi _ r=>by obtain⟨t,rfl⟩:=r;exact .str i t)
 (λh _ ih _ r=>by
  cases r;obtain⟨its,rv,ht,_⟩:=I.tuple h.ju;exact .tup ht (ih rv))
 (λh _ ih _ r=>by
  cases r;obtain⟨its,rv,ht,_⟩:=I.list h.sU;exact .fl ht.isList (ih rv))
 (λ_ _ _ _=>.oth rfl) (λ_ _ _ _ _=>.oth rfl) (λ_ _ _ _ _=>.oth rfl) (λ_ _ _=>.oth rfl)
 (λr=>by cases r;exact .nil)
 (λ_ _ i j _ r=>by
  cases r with
  |cons a b=>exact .cons (i a) (j b)) h r
theorem sW(I:Inv X ao Z H s){d:D}{v:V}{u:Value}(h:Rep X.K cA U H d v)(r:RelV v u):Is s.heap d u:=by
 cases h with
 |non=>cases r;exact .non
 |bl b=>cases r;exact .bl b
 |int i=>obtain⟨t,rfl⟩:=r;exact .int i t
 |str i=>obtain⟨t,rfl⟩:=r;exact .str i t
 |tup h q=>
  cases r;obtain⟨its,rv,ht,_⟩:=I.tuple h.ju;exact .tup ht (R9 I q rv)
 |fl h q=>
  cases r;obtain⟨its,rv,ht,_⟩:=I.list h.sU;exact .fl ht.isList (R9 I q rv)
 |fd _ _=>exact .oth rfl
 |exc _ _=>exact .oth rfl
 |ob _ _=>exact .oth rfl
 |any _=>exact .oth rfl
theorem zU(I:Inv X ao Z H s){d:D}{v:V}{u:Value}(q:Rv X.K cA U H d v)(r:RelV v u):Is s.heap d u:=by
 cases d with
 |fl xs=>
  obtain⟨a,vs,rfl,sq,rs⟩:=q;cases r;obtain⟨its,rv,ht,_⟩:=I.list sq;exact .fl ht.isList (R9 I rs rv)
 |non=>exact sW I q r
 |bl b=>exact sW I q r
 |int b=>exact sW I q r
 |str b=>exact sW I q r
 |tup b=>exact sW I q r
 |fd b c=>exact sW I q r
 |exc b c=>exact sW I q r
 |ob b c=>exact sW I q r
 |any=>exact sW I q r
theorem jH.len:∀{ds:List D} {us:List Value},jH h ds us->ds.length=us.length
 |_,_,.nil=>rfl
 |_,_,.cons _ r=>by rw[h_,h_,jH.len r]
theorem jH.get:∀{ds:List D} {us:List Value} {i:Nat} {d:D},jH h ds us->ds[i]?=some d->∃u,us[i]?=some u/\Is h d u
 |_,_,_,_,.nil,e=>by simp at e
 |_,_,0,_,.cons h _,e=>by simp at e;subst e;exact⟨_,rfl,h⟩
 |_,_,i+1,d,.cons _ r,e=>by
  obtain⟨v,a,b⟩:=jH.get (i:=i) (d:=d) r (by simpa using e);exact⟨v,by simpa using a,b⟩
theorem Zc{a:Addr}{is js:Array Value}(p:h.IsTuple a is)(q:h.IsTuple a js):is=js:=by
 obtain⟨o,e,c,n,d⟩:=p;obtain⟨o',e',c',n',d'⟩:=q;rw[e] at e';cases e';rw[d] at d';cases d';rfl
theorem Zd{a:Addr}{is js:Array Value}(p:h.IsList a is)(q:h.IsList a js):is=js:=by
 obtain⟨o,e,c,n,d⟩:=p;obtain⟨o',e',c',n',d'⟩:=q;rw[e] at e';cases e';rw[d] at d';cases d';rfl
theorem vZ{a:Addr}{is js:Array Value}(p:h.IsList a is)(q:h.IsTuple a js):False:=by
 obtain⟨o,e,c,n,d⟩:=p;obtain⟨o',e',c',n',d'⟩:=q;rw[e] at e';cases e';rw[c] at c';exact absurd c' (by simp)
theorem Jr{eq:D->D->Option Bool}:∀{xs ys:List D} {b:Bool},dZ eq xs ys=some b->∃e:Nat->Bool,(∀(j:Nat) x y,xs[j]?=some x->ys[j]?=some y->eq x y=some (e j))/\b=((List.range (min xs.length ys.length)).all e&&xs.length==ys.length)
 |[],[],b,h=>by cases h;exact⟨λ_=>true,λj x y q=>by simp at q,by simp⟩
 |[],y::ys,b,h=>by cases h;exact⟨λ_=>true,λj x y q=>by simp at q,by simp⟩
 |x::xs,[],b,h=>by cases h;exact⟨λ_=>true,λj x y q r=>by simp at r,by simp⟩
 |x::xs,y::ys,b,h=>by
  simp only[dZ] at h;cases e1:eq x y with
  |none=>rw[e1] at h;cases h
  |some a=>
   cases e2:dZ eq xs ys with
   |none=>rw[e1,e2] at h;cases h
   |some c=>
    rw[e1,e2] at h;cases h;obtain⟨e,h1,h2⟩:=Jr e2;refine⟨λj=>match j with|0=>a|j+1=>e j,λj p q r1 r2=>?_,?_⟩
    ·cases j with
     |zero=>
      simp at r1 r2;subst r1 r2;exact e1
     |succ j=>exact h1 j p q (by simpa using r1) (by simpa using r2)
    ·rw[h2];simp only[h_,Nat.succ_min_succ,Pn,Ba,List.all_map,Function.comp_def];rw[Bool.and_assoc]
     congr 2
     simp
theorem jw{n:Nat}{d e:D}(k:kq d=none):dM n d e=none:=by
 cases n<;>cases d<;>first|cases k;done|(cases e<;>rfl)
theorem iC{n:Nat}{d e:D}(k:kq e=none):dM n d e=none:=by
 cases n<;>cases e<;>first|cases k;done|(cases d<;>rfl)
theorem R_:∀(n:Nat) {d1 d2:D} {u:Value} {b:Bool},Is h d1 u->Is h d2 u->dM n d1 d2=some b->b=true:=by
 intro n;have rows:∀(n:Nat),(∀{d1 d2:D} {u:Value} {b:Bool},Is h d1 u->Is h d2 u->dM n d1 d2=some b->b=true)->∀{xs ys:List D} {is js:List Value} {b:Bool},jH h xs is->jH h ys js->is.toArray=js.toArray->dZ (dM n) xs ys=some b->b=true:=by
  intro n ih xs ys is js b q1 q2 e hd;have e:is=js:=by simpa using e
  subst e;obtain⟨e,a1,a2⟩:=Jr (eq:=dM n) hd;rw[a2];have hl:_=_:=q1.len.trans q2.len.symm;rw[fu];refine⟨iu.mpr λj hj=>?_,by rw[hl];simp⟩;have hj:=Ay.mp hj;obtain⟨x,hx⟩ : ∃x,_=some x:=⟨_,eU (gb hj (Nat.min_le_left _ _))⟩;obtain⟨y,hy⟩ : ∃y,_=some y:=⟨_,eU (gb hj (Nat.min_le_right _ _))⟩;obtain⟨v1,e1,p1⟩:=q1.get hx;obtain⟨v2,e2,p2⟩:=q2.get hy;rw[e1] at e2;cases e2;exact ih p1 p2 (a1 j x y hx hy)
 induction n with
 |zero=>
  intro d1 d2 u b r1 r2 hd;cases r1 with
  |oth k=>rw[jw k] at hd;cases hd
  |non=>cases r2 with
   |oth k=>rw[iC k] at hd;cases hd
   |non=>cases hd;rfl
  |bl x=>cases r2 with
   |oth k=>rw[iC k] at hd;cases hd
   |bl y=>cases hd;simp
  |int x t=>cases r2 with
   |oth k=>rw[iC k] at hd;cases hd
   |int y=>cases hd;simp
  |str x t=>cases r2 with
   |oth k=>rw[iC k] at hd;cases hd
   |str y=>cases hd;simp
  |tup p q=>cases r2 with
   |oth k=>rw[iC k] at hd;cases hd
   |tup p2 q2=>cases hd
   |fl p2 q2=>exact(vZ p2 p).elim
  |fl p q=>cases r2 with
   |oth k=>rw[iC k] at hd;cases hd
   |fl p2 q2=>cases hd
   |tup p2 q2=>exact(vZ p p2).elim
 |succ n ih=>
  intro d1 d2 u b r1 r2 hd;cases r1 with
  |oth k=>rw[jw k] at hd;cases hd
  |non=>cases r2 with
   |oth k=>rw[iC k] at hd;cases hd
   |non=>cases hd;rfl
  |bl x=>cases r2 with
   |oth k=>rw[iC k] at hd;cases hd
   |bl y=>cases hd;simp
  |int x t=>cases r2 with
   |oth k=>rw[iC k] at hd;cases hd
   |int y=>cases hd;simp
  |str x t=>cases r2 with
   |oth k=>rw[iC k] at hd;cases hd
   |str y=>cases hd;simp
  |tup p q=>cases r2 with
   |oth k=>rw[iC k] at hd;cases hd
   |tup p2 q2=>exact rows n ih q q2 (Zc p p2) hd
   |fl p2 q2=>exact(vZ p2 p).elim
  |fl p q=>cases r2 with
   |oth k=>rw[iC k] at hd;cases hd
   |fl p2 q2=>exact rows n ih q q2 (Zd p p2) hd
   |tup p2 q2=>exact(vZ p p2).elim
theorem parts{n:Nat}{A:Around}{xs ys:List D}{is js:List Value}{b:Bool}(r1:jH s.heap xs is)(r2:jH s.heap ys js)(hd:dZ (dM n) xs ys=some b)
  (ih:∀{d1 d2:D} {u1 u2:Value} {b:Bool},Is s.heap d1 u1->Is s.heap d2 u2->dM n d1 d2=some b->SeqAt.EqAt A s u1 u2 b) :
  ∃e:Nat->Bool,(∀j (h1:j<is.toArray.size) (h2:j<js.toArray.size),SeqAt.EqAt A s is.toArray[j] js.toArray[j] (e j))/\b=((List.range (min is.toArray.size js.toArray.size)).all e&&is.toArray.size==js.toArray.size):=by
 obtain⟨e,a1,a2⟩:=Jr hd;have z1:=r1.len;have z2:=r2.len;refine⟨e,λj h1 h2=>?_,by simp only[fj,<-z1,<-z2];exact a2⟩;simp only[fj] at h1 h2;obtain⟨x,hx⟩ : ∃x,xs[j]?=some x:=⟨_,eU (by rw[z1];exact h1)⟩;obtain⟨y,hy⟩ : ∃y,ys[j]?=some y:=⟨_,eU (by rw[z2];exact h2)⟩;obtain⟨u,f1,g1⟩:=r1.get hx;obtain⟨u',f2,g2⟩:=r2.get hy;have k1:is.toArray[j]=u:=by
  have:=f9.mp f1;simpa using this.2
 have k2:js.toArray[j]=u':=by
  have:=f9.mp f2;simpa using this.2
 rw[k1,k2];exact ih g1 g2 (a1 j x y hx hy)
theorem Ze{A:Around}{l m:Addr}{is js:Array Value}{e:Nat->Bool}{b:Bool}(p1:s.heap.IsList l is)(p2:s.heap.IsList m js)(hu:A.units<cLine)(he:∀j (h1:j<is.size) (h2:j<js.size),SeqAt.EqAt A.in1 s is[j] js[j] (e j))(hb:b=((List.range (min is.size js.size)).all e&&is.size==js.size)):SeqAt.RcAt A s (.ref l) (.ref m) b:=by
 by_cases hz:is.size=js.size
 ·have:b=(List.range is.size).all e:=by rw[hb,hz];simp
  rw[this];exact SeqAt.RcAt.lists p1 p2 hz hu he
 ·have Sd:(is.size != js.size)=true:=by simpa using hz
  have:b=false:=by rw[hb];simp[hz]
  rw[this];exact SeqAt.RcAt.lists_lengths p1 p2 Sd hu
theorem zgB{A:Around}{l m:Addr}{is js:Array Value}{e:Nat->Bool}{b:Bool}(p1:s.heap.IsList l is)(p2:s.heap.IsList m js)(hu:A.units<cLine)(he:∀j (h1:j<is.size) (h2:j<js.size),SeqAt.EqAt A.in1 s is[j] js[j] (e j))(hb:b=((List.range (min is.size js.size)).all e&&is.size==js.size)):SeqAt.RcNeAt A s (.ref l) (.ref m) (!b):=by
 by_cases hz:is.size=js.size
 ·have:b=(List.range is.size).all e:=by rw[hb,hz];simp
  rw[this];exact SeqAt.RcNeAt.lists p1 p2 hz hu he
 ·have Sd:(is.size != js.size)=true:=by simpa using hz
  have:b=false:=by rw[hb];simp[hz]
  rw[this];exact SeqAt.RcNeAt.lists_lengths p1 p2 Sd hu
open SeqAt in
theorem CZ:∀(n:Nat) {A:Around} {d1 d2:D} {u1 u2:Value} {b:Bool},A.units+n<cLine->Is s.heap d1 u1->Is s.heap d2 u2->dM n d1 d2=some b->SeqAt.EqAt A s u1 u2 b:=by
 intro n
 induction n with
 |zero=>
  intro A d1 d2 u1 u2 b hu r1 r2 hd;have hu:A.units<cLine:=by lia
  cases r1 with
  |oth k=>rw[jw k] at hd;cases hd
  |non=>cases r2 with
   |oth k=>rw[iC k] at hd;cases hd
   |non=>cases hd;exact EqAt.same _
   |bl y=>cases hd;exact EqAt.none_bool _
   |int y t=>cases hd;exact EqAt.none_int _ _
   |str y t=>cases hd;exact EqAt.none_str _ _
   |tup p q=>cases hd;exact EqAt.none_tuple p hu
   |fl p q=>cases hd;exact EqAt.none_list p hu
  |bl x=>cases r2 with
   |oth k=>rw[iC k] at hd;cases hd
   |non=>cases hd;exact EqAt.bool_none _
   |bl y=>cases hd;exact EqAt.bool_bool _ _
   |int y t=>cases hd;exact EqAt.bool_int _ _ _
   |str y t=>cases hd;exact EqAt.bool_str _ _ _
   |tup p q=>cases hd;exact EqAt.bool_tuple _ p hu
   |fl p q=>cases hd;exact EqAt.bool_list _ p hu
  |int x t=>cases r2 with
   |oth k=>rw[iC k] at hd;cases hd
   |non=>cases hd;exact EqAt.int_none _ _
   |bl y=>cases hd;exact EqAt.int_bool _ _ _
   |int y t=>cases hd;exact EqAt.int_int _ _ _ _
   |str y t=>cases hd;exact EqAt.int_str _ _ _ _
   |tup p q=>cases hd;exact EqAt.int_tuple _ _ p hu
   |fl p q=>cases hd;exact EqAt.int_list _ _ p hu
  |str x t=>cases r2 with
   |oth k=>rw[iC k] at hd;cases hd
   |non=>cases hd;exact EqAt.str_none _ _
   |bl y=>cases hd;exact EqAt.str_bool _ _ _
   |int y t=>cases hd;exact EqAt.str_int _ _ _ _
   |str y t=>cases hd;exact EqAt.str_str _ _ _ _
   |tup p q=>cases hd;exact EqAt.str_tuple _ _ p hu
   |fl p q=>cases hd;exact EqAt.str_list _ _ p hu
  |tup p q=>cases r2 with
   |oth k=>rw[iC k] at hd;cases hd
   |non=>cases hd;exact EqAt.tuple_none p hu
   |bl y=>cases hd;exact EqAt.tuple_bool _ p hu
   |int y t=>cases hd;exact EqAt.tuple_int _ _ p hu
   |str y t=>cases hd;exact EqAt.tuple_str _ _ p hu
   |tup p2 q2=>cases hd
   |fl p2 q2=>cases hd;exact EqAt.tuple_list p p2 hu
  |fl p q=>cases r2 with
   |oth k=>rw[iC k] at hd;cases hd
   |non=>cases hd;exact EqAt.list_none p hu
   |bl y=>cases hd;exact EqAt.list_bool _ p hu
   |int y t=>cases hd;exact EqAt.list_int _ _ p hu
   |str y t=>cases hd;exact EqAt.list_str _ _ p hu
   |tup p2 q2=>cases hd;exact EqAt.list_tuple p p2 hu
   |fl p2 q2=>cases hd
 |succ n ih=>
  intro A d1 d2 u1 u2 b Js r1 r2 hd;have hu:A.units<cLine:=by lia
  have dX:A.in1.units+n<cLine:=by show A.units+1+n<cLine;lia
  cases r1 with
  |oth k=>rw[jw k] at hd;cases hd
  |non=>cases r2 with
   |oth k=>rw[iC k] at hd;cases hd
   |non=>cases hd;exact EqAt.same _
   |bl y=>cases hd;exact EqAt.none_bool _
   |int y t=>cases hd;exact EqAt.none_int _ _
   |str y t=>cases hd;exact EqAt.none_str _ _
   |tup p q=>cases hd;exact EqAt.none_tuple p hu
   |fl p q=>cases hd;exact EqAt.none_list p hu
  |bl x=>cases r2 with
   |oth k=>rw[iC k] at hd;cases hd
   |non=>cases hd;exact EqAt.bool_none _
   |bl y=>cases hd;exact EqAt.bool_bool _ _
   |int y t=>cases hd;exact EqAt.bool_int _ _ _
   |str y t=>cases hd;exact EqAt.bool_str _ _ _
   |tup p q=>cases hd;exact EqAt.bool_tuple _ p hu
   |fl p q=>cases hd;exact EqAt.bool_list _ p hu
  |int x t=>cases r2 with
   |oth k=>rw[iC k] at hd;cases hd
   |non=>cases hd;exact EqAt.int_none _ _
   |bl y=>cases hd;exact EqAt.int_bool _ _ _
   |int y t=>cases hd;exact EqAt.int_int _ _ _ _
   |str y t=>cases hd;exact EqAt.int_str _ _ _ _
   |tup p q=>cases hd;exact EqAt.int_tuple _ _ p hu
   |fl p q=>cases hd;exact EqAt.int_list _ _ p hu
  |str x t=>cases r2 with
   |oth k=>rw[iC k] at hd;cases hd
   |non=>cases hd;exact EqAt.str_none _ _
   |bl y=>cases hd;exact EqAt.str_bool _ _ _
   |int y t=>cases hd;exact EqAt.str_int _ _ _ _
   |str y t=>cases hd;exact EqAt.str_str _ _ _ _
   |tup p q=>cases hd;exact EqAt.str_tuple _ _ p hu
   |fl p q=>cases hd;exact EqAt.str_list _ _ p hu
  |@tup a1 xs is p q=>cases r2 with
   |oth k=>rw[iC k] at hd;cases hd
   |non=>cases hd;exact EqAt.tuple_none p hu
   |bl y=>cases hd;exact EqAt.tuple_bool _ p hu
   |int y t=>cases hd;exact EqAt.tuple_int _ _ p hu
   |str y t=>cases hd;exact EqAt.tuple_str _ _ p hu
   |@tup a2 ys js p2 q2=>
    by_cases ea:a1=a2
    ·subst ea;have:=R_ (n+1) (.tup p q) (.tup p2 q2) hd;subst this;exact EqAt.same _
    ·obtain⟨e,he,hb⟩:=parts (A:=A.in1) q q2 hd λa b c=>ih dX a b c;rw[hb];exact EqAt.of_refs ea (RcAt.tuples p p2 hu he)
   |fl p2 q2=>cases hd;exact EqAt.tuple_list p p2 hu
  |@fl a1 xs is p q=>cases r2 with
   |oth k=>rw[iC k] at hd;cases hd
   |non=>cases hd;exact EqAt.list_none p hu
   |bl y=>cases hd;exact EqAt.list_bool _ p hu
   |int y t=>cases hd;exact EqAt.list_int _ _ p hu
   |str y t=>cases hd;exact EqAt.list_str _ _ p hu
   |tup p2 q2=>cases hd;exact EqAt.list_tuple p p2 hu
   |@fl a2 ys js p2 q2=>
    by_cases ea:a1=a2
    ·subst ea;have:=R_ (n+1) (.fl p q) (.fl p2 q2) hd;subst this;exact EqAt.same _
    ·obtain⟨e,he,hb⟩:=parts (A:=A.in1) q q2 hd λa b c=>ih dX a b c;exact EqAt.of_refs ea (Ze p p2 hu he hb)
end
section
variable {X:Cx}{cA:Cl}{ao:List (Addr×Obj)}{Z:L2.St}{H:Hp}{s:Shared}{U:Ph}{h:Heap}
open SeqAt in
theorem Zf(Js:A.units+(n+1)<cLine)(r1:Is s.heap d1 u1)(r2:Is s.heap d2 u2)(hd:dM (n+1) d1 d2=some b):RcAt A s u1 u2 b/\RcNeAt A s u1 u2 (!b):=by
 have hu:A.units<cLine:=by lia
 have dX:A.in1.units+n<cLine:=by show A.units+1+n<cLine;lia
 cases r1 with
 |oth k=>rw[jw k] at hd;cases hd
 |non=>cases r2 with
  |oth k=>rw[iC k] at hd;cases hd
  |non=>cases hd;exact⟨RcAt.none_none,RcNeAt.none_none⟩
  |bl y=>cases hd;exact⟨RcAt.none_bool _,RcNeAt.none_bool _⟩
  |int y t=>cases hd;exact⟨RcAt.none_int _ _,RcNeAt.none_int _ _⟩
  |str y t=>cases hd;exact⟨RcAt.none_str _ _,RcNeAt.none_str _ _⟩
  |tup p q=>cases hd;exact⟨RcAt.none_tuple p hu,RcNeAt.none_tuple p hu⟩
  |fl p q=>cases hd;exact⟨RcAt.none_list p hu,RcNeAt.none_list p hu⟩
 |bl x=>cases r2 with
  |oth k=>rw[iC k] at hd;cases hd
  |non=>cases hd;exact⟨RcAt.bool_none _,RcNeAt.bool_none _⟩
  |bl y=>cases hd;exact⟨RcAt.bool_bool _ _,RcNeAt.bool_bool _ _⟩
  |int y t=>cases hd;exact⟨RcAt.bool_int _ _ _,RcNeAt.bool_int _ _ _⟩
  |str y t=>cases hd;exact⟨RcAt.bool_str _ _ _,RcNeAt.bool_str _ _ _⟩
  |tup p q=>cases hd;exact⟨RcAt.bool_tuple _ p hu,RcNeAt.bool_tuple _ p hu⟩
  |fl p q=>cases hd;exact⟨RcAt.bool_list _ p hu,RcNeAt.bool_list _ p hu⟩
 |int x t=>cases r2 with
  |oth k=>rw[iC k] at hd;cases hd
  |non=>cases hd;exact⟨RcAt.int_none _ _,RcNeAt.int_none _ _⟩
  |bl y=>cases hd;exact⟨RcAt.int_bool _ _ _,RcNeAt.int_bool _ _ _⟩
  |int y t=>cases hd;exact⟨RcAt.int_int _ _ _ _,RcNeAt.int_int _ _ _ _⟩
  |str y t=>cases hd;exact⟨RcAt.int_str _ _ _ _,RcNeAt.int_str _ _ _ _⟩
  |tup p q=>cases hd;exact⟨RcAt.int_tuple _ _ p hu,RcNeAt.int_tuple _ _ p hu⟩
  |fl p q=>cases hd;exact⟨RcAt.int_list _ _ p hu,RcNeAt.int_list _ _ p hu⟩
 |str x t=>cases r2 with
  |oth k=>rw[iC k] at hd;cases hd
  |non=>cases hd;exact⟨RcAt.str_none _ _,RcNeAt.str_none _ _⟩
  |bl y=>cases hd;exact⟨RcAt.str_bool _ _ _,RcNeAt.str_bool _ _ _⟩
  |int y t=>cases hd;exact⟨RcAt.str_int _ _ _ _,RcNeAt.str_int _ _ _ _⟩
  |str y t=>cases hd;exact⟨RcAt.str_str _ _ _ _,RcNeAt.str_str _ _ _ _⟩
  |tup p q=>cases hd;exact⟨RcAt.str_tuple _ _ p hu,RcNeAt.str_tuple _ _ p hu⟩
  |fl p q=>cases hd;exact⟨RcAt.str_list _ _ p hu,RcNeAt.str_list _ _ p hu⟩
 |@tup a1 xs is p q=>cases r2 with
  |oth k=>rw[iC k] at hd;cases hd
  |non=>cases hd;exact⟨RcAt.tuple_none p hu,RcNeAt.tuple_none p hu⟩
  |bl y=>cases hd;exact⟨RcAt.tuple_bool _ p hu,RcNeAt.tuple_bool _ p hu⟩
  |int y t=>cases hd;exact⟨RcAt.tuple_int _ _ p hu,RcNeAt.tuple_int _ _ p hu⟩
  |str y t=>cases hd;exact⟨RcAt.tuple_str _ _ p hu,RcNeAt.tuple_str _ _ p hu⟩
  |@tup a2 ys js p2 q2=>
   obtain⟨e,he,hb⟩:=parts (A:=A.in1) q q2 hd λa b c=>CZ n dX a b c;rw[hb];exact⟨RcAt.tuples p p2 hu he,RcNeAt.tuples p p2 hu he⟩
  |fl p2 q2=>cases hd;exact⟨RcAt.tuple_list p p2 hu,RcNeAt.tuple_list p p2 hu⟩
 |@fl a1 xs is p q=>cases r2 with
  |oth k=>rw[iC k] at hd;cases hd
  |non=>cases hd;exact⟨RcAt.list_none p hu,RcNeAt.list_none p hu⟩
  |bl y=>cases hd;exact⟨RcAt.list_bool _ p hu,RcNeAt.list_bool _ p hu⟩
  |int y t=>cases hd;exact⟨RcAt.list_int _ _ p hu,RcNeAt.list_int _ _ p hu⟩
  |str y t=>cases hd;exact⟨RcAt.list_str _ _ p hu,RcNeAt.list_str _ _ p hu⟩
  |tup p2 q2=>cases hd;exact⟨RcAt.list_tuple p p2 hu,RcNeAt.list_tuple p p2 hu⟩
  |@fl a2 ys js p2 q2=>
   obtain⟨e,he,hb⟩:=parts (A:=A.in1) q q2 hd λa b c=>CZ n dX a b c;exact⟨Ze p p2 hu he hb,zgB p p2 hu he hb⟩
noncomputable def yc(K:W.Frag)(cA:Cl)(f:Bool->Bool):R2:=λx y H Q=>∃U d1 d2 b,Rv K cA U H d1 x/\Rv K cA U H d2 y/\dM 50 d1 d2=some b/\Q (.bl (f b)) H
theorem zkX(hu:X.A.units+60<cLine):fK X (compareOp .Eq) (yc X.K cA id):=by
 intro ao s Z H x y v u Q I rx ry ⟨U,d1,d2,b,r1,r2,hd,q⟩;exact(Zf (n:=49) (by lia) (zU I r1 rx) (zU I r2 ry) hd).1 X.prog X.w X.xe _ ⟨.bl b,H,I,rfl,q⟩
theorem zmb(hu:X.A.units+60<cLine):fK X (compareOp .NotEq) (yc X.K cA not):=by
 intro ao s Z H x y v u Q I rx ry ⟨U,d1,d2,b,r1,r2,hd,q⟩;exact(Zf (n:=49) (by lia) (zU I r1 rx) (zU I r2 ry) hd).2 X.prog X.w X.xe _ ⟨.bl (!b),H,I,rfl,q⟩
theorem zi6:∀(n:Nat) {d d' x:D} {u:Value} {b b':Bool},Is h d u->Is h d' u->dM n d x=some b->dM n d' x=some b'->b=b':=by
 intro n;have flat:∀{d d' x:D} {u:Value} {b b':Bool},Is h d u->Is h d' u->(∀xs xs',d=.tup xs->d'=.tup xs'->False)->(∀xs xs',d=.fl xs->d'=.fl xs'->False)->dM n d x=some b->dM n d' x=some b'->b=b':=by
  intro d d' x u b b' r1 r2 n1 n2 h1 h2;cases r1 with
  |oth k=>rw[jw k] at h1;cases h1
  |non=>cases r2 with
   |oth k=>rw[jw k] at h2;cases h2
   |non=>rw[h1] at h2;exact cW h2
  |bl y=>cases r2 with
   |oth k=>rw[jw k] at h2;cases h2
   |bl=>rw[h1] at h2;exact cW h2
  |int y=>cases r2 with
   |oth k=>rw[jw k] at h2;cases h2
   |int=>rw[h1] at h2;exact cW h2
  |str y=>cases r2 with
   |oth k=>rw[jw k] at h2;cases h2
   |str=>rw[h1] at h2;exact cW h2
  |tup p q=>cases r2 with
   |oth k=>rw[jw k] at h2;cases h2
   |tup=>exact(n1 _ _ rfl rfl).elim
   |fl p2 q2=>exact(vZ p2 p).elim
  |fl p q=>cases r2 with
   |oth k=>rw[jw k] at h2;cases h2
   |fl=>exact(n2 _ _ rfl rfl).elim
   |tup p2 q2=>exact(vZ p p2).elim
 have tn:∀{n:Nat} {xs xs':List D} {x:D},(∀ys,x=.tup ys->False)->dM n (.tup xs) x=dM n (.tup xs') x:=λ{n xs xs' x} hx=>by
  cases n<;>cases x<;>first|rfl|exact(hx _ rfl).elim
 have ln:∀{n:Nat} {xs xs':List D} {x:D},(∀ys,x=.fl ys->False)->dM n (.fl xs) x=dM n (.fl xs') x:=λ{n xs xs' x} hx=>by
  cases n<;>cases x<;>first|rfl|exact(hx _ rfl).elim
 clear flat
 induction n with
 |zero=>
  intro d d' x u b b' r1 r2 h1 h2;cases r1 with
  |oth k=>rw[jw k] at h1;cases h1
  |non=>cases r2 with
   |oth k=>rw[jw k] at h2;cases h2
   |non=>rw[h1] at h2;exact cW h2
  |bl y=>cases r2 with
   |oth k=>rw[jw k] at h2;cases h2
   |bl=>rw[h1] at h2;exact cW h2
  |int y=>cases r2 with
   |oth k=>rw[jw k] at h2;cases h2
   |int=>rw[h1] at h2;exact cW h2
  |str y=>cases r2 with
   |oth k=>rw[jw k] at h2;cases h2
   |str=>rw[h1] at h2;exact cW h2
  |tup p q=>cases r2 with
   |oth k=>rw[jw k] at h2;cases h2
   |tup p2 q2=>
    cases x with
    |tup ys=>cases h1
    |_=>rw[tn (by intro ys z;cases z),h2] at h1;exact(cW h1).symm
   |fl p2 q2=>exact(vZ p2 p).elim
  |fl p q=>cases r2 with
   |oth k=>rw[jw k] at h2;cases h2
   |fl p2 q2=>
    cases x with
    |fl ys=>cases h1
    |_=>rw[ln (by intro ys z;cases z),h2] at h1;exact(cW h1).symm
   |tup p2 q2=>exact(vZ p p2).elim
 |succ n ih=>
  intro d d' x u b b' r1 r2 h1 h2;have rows:∀{xs xs' ys:List D} {is js:List Value} {b b':Bool},jH h xs is->jH h xs' js->is.toArray=js.toArray->dZ (dM n) xs ys=some b->dZ (dM n) xs' ys=some b'->b=b':=by
   intro xs xs' ys is js b b' q1 q2 e h1 h2;have e:is=js:=by simpa using e
   subst e;obtain⟨e1,a1,b1⟩:=Jr h1;obtain⟨e2,a2,b2⟩:=Jr h2;have hl:xs.length=xs'.length:=q1.len.trans q2.len.symm;rw[b1,b2,hl]
   congr 1
   rw[Bool.eq_iff_iff,iu,iu];have key:∀j∈List.range (min xs'.length ys.length),e1 j=e2 j:=λj hj=>by
    have hj:=Ay.mp hj;obtain⟨x1,Zg⟩ : ∃x,xs[j]?=some x:=⟨_,eU (by rw[hl];exact gb hj (Nat.min_le_left _ _))⟩;obtain⟨x2,MN⟩ : ∃x,xs'[j]?=some x:=⟨_,eU (gb hj (Nat.min_le_left _ _))⟩;obtain⟨y,hy⟩ : ∃y,ys[j]?=some y:=⟨_,eU (gb hj (Nat.min_le_right _ _))⟩;obtain⟨v1,f1,p1⟩:=q1.get Zg;obtain⟨v2,f2,p2⟩:=q2.get MN;rw[f1] at f2;cases f2;exact ih p1 p2 (a1 j x1 y Zg hy) (a2 j x2 y MN hy)
   exact⟨λz j hj=>by rw[<-key j hj];exact z j hj,λz j hj=>by rw[key j hj];exact z j hj⟩
  cases r1 with
  |oth k=>rw[jw k] at h1;cases h1
  |non=>cases r2 with
   |oth k=>rw[jw k] at h2;cases h2
   |non=>rw[h1] at h2;exact cW h2
  |bl y=>cases r2 with
   |oth k=>rw[jw k] at h2;cases h2
   |bl=>rw[h1] at h2;exact cW h2
  |int y=>cases r2 with
   |oth k=>rw[jw k] at h2;cases h2
   |int=>rw[h1] at h2;exact cW h2
  |str y=>cases r2 with
   |oth k=>rw[jw k] at h2;cases h2
   |str=>rw[h1] at h2;exact cW h2
  |tup p q=>cases r2 with
   |oth k=>rw[jw k] at h2;cases h2
   |tup p2 q2=>
    cases x with
    |tup ys=>exact rows q q2 (Zc p p2) h1 h2
    |_=>rw[tn (by intro ys z;cases z),h2] at h1;exact(cW h1).symm
   |fl p2 q2=>exact(vZ p2 p).elim
  |fl p q=>cases r2 with
   |oth k=>rw[jw k] at h2;cases h2
   |fl p2 q2=>
    cases x with
    |fl ys=>exact rows q q2 (Zd p p2) h1 h2
    |_=>rw[ln (by intro ys z;cases z),h2] at h1;exact(cW h1).symm
   |tup p2 q2=>exact(vZ p p2).elim
theorem Zh:∀{xs:List D} {b:Bool},memD x xs=some b->∀d∈xs,∃k,dM 50 d x=some k
 |[],_,_,d,hd=>by cases hd
 |y::xs,b,h,d,hd=>by
  unfold memD at h;cases e1:dM 50 y x with
  |none=>simp only[e1] at h;cases h
  |some a=>
   cases e2:memD x xs with
   |none=>simp only[e1,e2] at h;cases h
   |some c=>
    rcases iY.mp hd with rfl|hd
    ·exact⟨a,e1⟩
    ·exact Zh e2 d hd
theorem Ni:∀{xs:List D} {us:List Value} {b:Bool},memD x xs=some b->jH h xs us->∃e:Value->Bool,(∀u∈us,∃d,Is h d u/\dM 50 d x=some (e u))/\us.any e=b:=by
 intro xs us b hm r;have ex:∀u∈us,∃d k,Is h d u/\dM 50 d x=some k:=by
  intro u hu;obtain⟨i,hi,e⟩:=yW hu;have hl:=r.len;obtain⟨d,hd⟩ : ∃d,xs[i]?=some d:=⟨_,eU (by lia)⟩;obtain⟨u',e1,q⟩:=r.get hd;rw[eU hi,e] at e1;cases e1;obtain⟨k,hk⟩:=Zh hm d (gU hd);exact⟨d,k,q,hk⟩
 refine⟨λu=>by classical exact if z:∃k,∃d,Is h d u/\dM 50 d x=some k then z.choose else false,λu hu=>?_,?_⟩
 ·obtain⟨d,k,q,hk⟩:=ex u hu;have z:∃k,∃d,Is h d u/\dM 50 d x=some k:=⟨k,d,q,hk⟩;dsimp only;rw[dif_pos z];exact z.choose_spec
 ·clear ex;have key:∀(xs:List D) (us:List Value) (b:Bool),memD x xs=some b->jH h xs us->us.any (λu=>by classical exact if z:∃k,∃d,Is h d u/\dM 50 d x=some k then z.choose else false)=b:=by
   intro xs
   induction xs with
   |nil=>intro us b hm r;cases r;cases hm;rfl
   |cons d ds ih=>
    intro us b hm r;cases r with
    |@cons _ u _ us a r=>
     unfold memD at hm;cases e1:dM 50 d x with
     |none=>simp only[e1] at hm;cases hm
     |some k=>
      cases e2:memD x ds with
      |none=>simp only[e1,e2] at hm;cases hm
      |some c=>
       simp only[e1,e2] at hm;cases hm;rw[List.any_cons];have z:∃k,∃d,Is h d u/\dM 50 d x=some k:=⟨k,d,a,e1⟩;have hk:z.choose=k:=by
        obtain⟨d',q,Hr⟩:=z.choose_spec;exact zi6 50 q a Hr e1
       rw[dif_pos z,hk,ih us c e2 r]
  exact key xs us b hm r
noncomputable def yd(K:W.Frag)(cA:Cl)(f:Bool->Bool):R2:=λx y H Q=>∃U d1 d2 xs b,Rv K cA U H d1 x/\Rv K cA U H d2 y/\lK d2=some xs/\memD d1 xs=some b/\Q (.bl (f b)) H
theorem zkC(hu:X.A.units+60<cLine):fK X (compareOp .In) (yd X.K cA id):=by
 intro ao s Z H x y v u Q I rx ry ⟨U,d1,d2,xs,b,r1,r2,hq,hm,q⟩;have dX:X.A.in1.units+50<cLine:=by show X.A.units+1+50<cLine;lia
 have i1:=zU I r1 rx;cases zU I r2 ry with
 |tup p r=>
  cases hq;obtain⟨e,he,hb⟩:=Ni hm r;refine SeqAt.in_tupleAt e p (λw hw=>?_) ⟨.bl b,H,I,by rw[<-hb];simp[L2.RelV],q⟩;obtain⟨d,q1,q2⟩:=he w (by simpa using hw);exact CZ 50 dX q1 i1 q2
 |fl p r=>
  cases hq;obtain⟨e,he,hb⟩:=Ni hm r;refine SeqAt.in_listAt e p (λw hw=>?_) ⟨.bl b,H,I,by rw[<-hb];simp[L2.RelV],q⟩;obtain⟨d,q1,q2⟩:=he w (by simpa using hw);exact CZ 50 dX q1 i1 q2
 |oth k=>cases d2<;>cases hq<;>cases k
 |_=>cases hq
theorem ziK(hu:X.A.units+60<cLine):fK X (compareOp .NotIn) (yd X.K cA not):=by
 intro ao s Z H x y v u Q I rx ry ⟨U,d1,d2,xs,b,r1,r2,hq,hm,q⟩;have dX:X.A.in1.units+50<cLine:=by show X.A.units+1+50<cLine;lia
 have i1:=zU I r1 rx;cases zU I r2 ry with
 |tup p r=>
  cases hq;obtain⟨e,he,hb⟩:=Ni hm r;refine SeqAt.notIn_tupleAt e p (λw hw=>?_) ⟨.bl (!b),H,I,by rw[<-hb];simp[L2.RelV],q⟩;obtain⟨d,q1,q2⟩:=he w (by simpa using hw);exact CZ 50 dX q1 i1 q2
 |fl p r=>
  cases hq;obtain⟨e,he,hb⟩:=Ni hm r;refine SeqAt.notIn_listAt e p (λw hw=>?_) ⟨.bl (!b),H,I,by rw[<-hb];simp[L2.RelV],q⟩;obtain⟨d,q1,q2⟩:=he w (by simpa using hw);exact CZ 50 dX q1 i1 q2
 |oth k=>cases d2<;>cases hq<;>cases k
 |_=>cases hq
end
end Mi
namespace HT
open PySem PyProof.Rows
section
variable {prog:Program}{w:World}{A:Around}{E:Value->Shared->Prop}{s:Shared}
theorem uW{t b:Addr}{vs ws:List Value}{Q:Value->Shared->Prop}(ht:IsTup s.heap t vs.toArray)(hb:IsTup s.heap b ws.toArray)(hv:vs=[])
  (h1:Q (.ref b) s):wpAny (model prog w) A (binaryOp .Add (.ref t) (.ref b)) Q E s:=by
 obtain⟨⟨cls,dd,data,sl⟩,ho,hc,n,hd⟩:=id ht;obtain⟨⟨cls2,dd2,data2,sl2⟩,pX,nM,n2,hd2⟩:=id hb;simp only at hc hd nM hd2;subst hc hd nM hd2;exact concat_meets ⟨_,ho,rfl⟩ ⟨_,pX,rfl⟩ noFill_tuple_add seq_tuple_add Pk Pj (Pa _ _)
   (tuple_addW0 t b vs.toArray ws.toArray n n2 dd dd2 sl sl2 (by simp[hv])) ⟨ho,pX,h1⟩
theorem gR{t sl:Addr}{items:Array Value}{vl vu:Value}{lo hi:Option Int}{Q:Value->Shared->Prop}(ht:IsTup s.heap t items)(hs:s.heap.IsSliceOf sl vl vu .none)(pl:IsPart vl lo)(pu:IsPart vu hi)
  (hw:cC items.size 0 lo=0/\cC items.size items.size hi=items.size) (h:Q (.ref t) s):wpAny (model prog w) A (getItem (.ref t) (.ref sl)) Q E s:=by
 obtain⟨os,su,BJ,vW⟩:=id hs;have Ik:s.TypeIs (.ref sl) "slice":=⟨os,su,BJ⟩;unfold getItem
 try with_reducible refine pF ?_
 first|refine aB (aM ?_)|skip
 refine aB (wpAny_sequenceKey ht.typeIs (by decide) ?_);refine aB (yR (name:=Str.ofString "__getitem__") ht.typeIs wG
  (wK wG ht.typeIs entry_tuple_getitem ?_ (args_tuple_getitem _ _)))
 show wpAny _ _ (Builtin.Tuple.tupleItemsOf (.ref t) >>= _) _ _ s;refine aB (tupleItemsOf_ ht ?_);refine aB (GZ Ik ?_);rw[if_pos (by decide)];refine aB (Yn hs pl pu ?_);have Sg:(((cC items.size 0 lo:Nat):Int)==0&&(1:Int)==1&&(cC items.size items.size hi-cC items.size 0 lo)==items.size)=true:=by
  rw[hw.1,hw.2];simp
 show wpAny _ _ (if (((cC items.size 0 lo:Nat):Int)==0&&(1:Int)==1&&(cC items.size items.size hi-cC items.size 0 lo)==items.size)=true then _ else _) _ _ s;rw[if_pos Sg];refine aB ?_;unfold Builtin.Tuple.tupleIsExact;refine aB (GZ ht.typeIs ?_);refine aM ?_;rw[if_pos (by decide)];refine aB (zm ?_);exact aM ⟨_,rfl,aM h⟩
theorem zcc{i:Int}{t:Tok}{Q:Option Int->Shared->Prop}(h:Q (some i) s):wpAny (model prog w) A (Builtin.Slice.slicePartIndex (.int i t)) Q E s:=QX (.int i t) h
theorem zbz{sl:Addr}{t:Tok}{n:Nat}{Q:Int×Int×Nat->Shared->Prop}(hs:s.heap.IsSliceOf sl .none .none (.int (-1) t))
  (h:Q ((n:Int)-1,-1,n) s):wpAny (model prog w) A (Builtin.Slice.sliceApplied (.ref sl) (pure (n:Int))) Q E s:=by
 obtain⟨os,su,BJ,vW⟩:=id hs;unfold Builtin.Slice.sliceApplied Builtin.Slice.sliceFields;refine aB (aB (lg su vW (x:=.none) rfl (aB (lg su vW (x:=.none) rfl (aB (lg su vW (x:=.int (-1) t) rfl (aM ?_)))))));refine aB (zcc ?_);show wpAny _ _ (if ((-1:Int)==0)=true then _ else _) _ _ s;rw[if_neg (by decide)];refine aB (slicePart_none (aB (slicePart_none (aB (aM ?_)))));show wpAny _ _ (pure ((n:Int)-1,(-1:Int),Builtin.Slice.slicePlaces ((n:Int)-1) (-1) (-1))) _ _ s;have e:Builtin.Slice.slicePlaces ((n:Int)-1) (-1) (-1)=n:=by
  unfold Builtin.Slice.slicePlaces;rw[if_neg (by decide)];by_cases hn:n=0
  ·subst hn;rfl
  ·rw[if_pos (by lia)];have:(-(-1:Int))=1:=rfl;rw[this,Int.ediv_one]
   lia
 rw[e];exact aM h
theorem zhB(xs:Array Value):((List.range xs.size).filterMap λ(m:Nat)=>xs[(((xs.size:Int)-1)+(m:Int) * -1).toNat]?).toArray=xs.toList.reverse.toArray:=by
 have e:∀n,n<=xs.size->(List.range n).filterMap (λ(m:Nat)=>xs[(((xs.size:Int)-1)+(m:Int) * -1).toNat]?)=(xs.toList.reverse).take n:=by
  intro n
  induction n with
  |zero=>intro _;simp
  |succ n ih=>
   intro hn;have cF:n<xs.toList.reverse.length:=by simp;lia
   rw[List.range_succ,Pu,ih (by lia),O9 cF]
   congr 1
   have:(((xs.size:Int)-1)+(n:Int) * -1).toNat=xs.size-1-n:=by lia
   simp only[Ed,List.filterMap_nil,this];rw[Array.getElem?_eq_getElem (by lia)];simp[List.getElem_reverse]
 rw[e xs.size (cD _),List.take_of_length_le (by simp)]
theorem iR(ht:IsTup s.heap t items)(hs:s.heap.IsSliceOf sl .none .none (.int (-1) tk))
  (h:Q (.ref s.heap.objs.size) {s with heap:=s.heap.push {cls:=.type "tuple",data:=.seq items.toList.reverse.toArray}})
  (hsz:items.size<=sizeLine):wpAny (model prog w) A (getItem (.ref t) (.ref sl)) Q E s:=by
 have iM:sizeOk (.seq items.toList.reverse.toArray):=by
  show items.toList.reverse.toArray.size<=sizeLine;simpa using hsz
 obtain⟨os,su,BJ,vW⟩:=id hs;have Ik:s.TypeIs (.ref sl) "slice":=⟨os,su,BJ⟩;unfold getItem
 try with_reducible refine pF ?_
 first|refine aB (aM ?_)|skip
 refine aB (wpAny_sequenceKey ht.typeIs (by decide) ?_);refine aB (yR (name:=Str.ofString "__getitem__") ht.typeIs wG
  (wK wG ht.typeIs entry_tuple_getitem ?_ (args_tuple_getitem _ _)))
 show wpAny _ _ (Builtin.Tuple.tupleItemsOf (.ref t) >>= _) _ _ s;refine aB (tupleItemsOf_ ht ?_);refine aB (GZ Ik ?_);rw[if_pos (by decide)];refine aB (zbz hs ?_);show wpAny _ _ (if (((items.size:Int)-1)==0&&(-1:Int)==1&&items.size==items.size)=true then _ else _) _ _ s;rw[if_neg (by simp),zhB]
 first
  |exact aB (m:=Builtin.Tuple.tupleExact _) (pD (aM ⟨_,rfl,aM h⟩) iM)
  |exact aB (m:=Builtin.Tuple.tupleExact _) (pD (aB (aM (aM ⟨_,rfl,aM h⟩))) iM)
  |exact aB (aB (m:=Builtin.Tuple.tupleExact _) (pD (aM (aM ⟨_,rfl,aM h⟩)) iM))
  |exact aB (aB (m:=Builtin.Tuple.tupleExact _) (pD (aM ⟨_,rfl,aM h⟩) iM))
end
end HT
namespace L2
open PySem PySem.Spec PyProof.Rows
section
variable {X:Cx}{e:Expr}{te:TE}{pos p2:Pos}
noncomputable def uX(K:W.Frag):R2:=λx y H Q=>∃a b xs ys,x=.ref a/\y=.ref b/\gw K H a xs/\gw K H b ys/\xs.length+ys.length<=sizeLine /\
 (xs=[]->Q (.ref b) H)/\(ys=[]->Q (.ref a) H)/\∀p,H p=none->Q (.ref p) (upd H p (.tup (xs++ys)))
theorem uY:fK X (binaryOp .Add) (uX X.K):=by
 intro ao s Z H x y v u Q I rx ry h;obtain⟨a,b,xs,ys,rfl,rfl,ha,hb,hz,q0,q1,q2⟩:=h;cases rx;cases ry;obtain⟨its,r1,p1,_⟩:=I.tuple ha;obtain⟨its2,r2,p2,_⟩:=I.tuple hb;by_cases hx:xs=[]
 ·exact HT.uW p1 p2 (r1.mZ.mpr hx) ⟨.ref b,H,I,rfl,q0 hx⟩
 ·refine HT.xJ p1 p2 (λz=>hx (r1.mZ.mp z)) (λz=>⟨.ref a,H,I,rfl,q1 (r2.mZ.mp z)⟩) (λz=>?_) (by rw[<-r1.length,<-r2.length];exact hz);refine⟨.ref s.heap.objs.size,_,I.laid (t':=s.toks) (o:=.tup (xs++ys)) (λb ob q=>cG _ q) (cD _) ?_,rfl,q2 _ (I.hok.fresh (cD _))⟩;exact⟨by rw[pC];exact hz,_,r1.append r2,IsTup.new _ _⟩
noncomputable def zV(K:W.Frag):V->Option Int->Option Int->Hp->VK->Prop:=λx lo hi H Q=>∃a xs,x=.ref a/\gw K H a xs /\
 ((HT.cC xs.length 0 lo=0/\HT.cC xs.length xs.length hi=xs.length)->Q (.ref a) H)/\∀p,H p=none->Q (.ref p) (upd H p (.tup (mY xs lo hi)))
theorem zjj:xO X (zV X.K):=by
 intro ao s Z H x v vl vu lo hi sl Q I rx hs pl pu h;obtain⟨a,xs,rfl,hx,hw,q⟩:=h;by_cases hz:HT.cC xs.length 0 lo=0/\HT.cC xs.length xs.length hi=xs.length
 ·cases rx;obtain⟨its,r,ht,_⟩:=I.tuple hx;have hlen:its.toArray.size=xs.length:=by rw[fj];exact r.length.symm
  refine⟨"tuple",_,wG.lookup,ht.typeIs,?_⟩;exact HT.gR ht hs pl pu (by rw[hlen];exact hz) ⟨.ref a,H,I,rfl,hw hz⟩
 ·exact zlY ao s Z H (.ref a) v vl vu lo hi sl Q I rx hs pl pu ⟨a,xs,rfl,hx,hz,q⟩
theorem zkE(he:PE X e te):PE X (.Subscript e (.Slice none none (some (.UnaryOp .USub (.Constant (.int 1) j p3) p4)) p2) pos) (λZ H Q=>te Z H λx H1=>∃a xs,x=.ref a/\gw X.K H1 a xs/\∀p,H1 p=none->Q (.ref p) (upd H1 p (.tup xs.reverse))):=by
 intro ao s Z H Q I h;refine Subscript_ (aV (he ao s Z H _ I h) λv s1 ⟨x,H1,I1,r1,a,xs,ex,hx,q⟩=>?_);subst ex;cases r1;refine wpAny_Slice ?_;rw[evalPart_none];refine aM (aM ?_);rw[evalPart_some];refine aV (X6 (r:=rU λi=>.int (-i)) X7 Xx ao s1 Z H1 (λv H'=>v=.int (-1)/\H'=H1) I1 ⟨1,rfl,rfl,rfl⟩) λu s2 ⟨z,H2,I2,r2,ez,eH⟩=>?_;subst ez eH;obtain⟨t,rfl⟩:=r2;obtain⟨its,r,ht,hz⟩:=I2.tuple hx;have I4:Inv X ao Z H2 {s2 with heap:=s2.heap.push {cls:=.type "slice",data:=.fields #[.none,.none,.int (-1) t]}}:=I2.kept (t':=s2.toks) λb ob q=>cG _ q;obtain⟨its,r,ht,hz⟩:=I4.tuple hx;have hlen:its.toArray.size=xs.length:=by rw[fj];exact r.length.symm
 show wpAny (model X.prog X.w) X.A (subscriptTail e (.Slice none none (some (.UnaryOp .USub (.Constant (.int 1) j p3) p4)) p2) (.ref a) (.ref s2.heap.objs.size)) (EP X ao Z Q) X.xe {s2 with heap:=s2.heap.push {cls:=.type "slice",data:=.fields #[.none,.none,.int (-1) t]}};refine tail_any (ops:=[.ref a,.ref s2.heap.objs.size]) ht.typeIs wG.lookup (HT.iR ht (Heap.IsSliceOf.new ..) ?_ (by rw[hlen];exact hz)) (by with_unfolding_all rfl);refine⟨.ref _,_,I4.laid (t':=s2.toks) (o:=.tup xs.reverse) (λb ob q=>cG _ q) (cD _) ?_,rfl,q _ (I4.hok.fresh (cD _))⟩;refine⟨by rw[List.length_reverse];exact hz,_,?_,IsTup.new _ _⟩;have rv:∀{xs:List V} {us:List Value},Vals xs us->Vals xs.reverse us.reverse:=λ{xs us} r=>by
  induction r with
  |nil=>exact .nil
  |cons a b ih=>rw[Lr,Lr];exact ih.append (.cons a .nil)
 simpa using rv r
end
section
variable {X:Cx}
noncomputable def zW(K:W.Frag):R2:=λx y H Q=>∃l b xs zs,x=.ref l/\y=.ref b/\dj K H l xs/\dj K H b zs/\xs.length+zs.length<=sizeLine/\∀p,H p=none->Q (.ref p) (upd H p (.lst (xs++zs)))
theorem yg:fK X (binaryOp .Add) (zW X.K):=by
 intro ao s Z H x y v u Q I rx ry h;obtain⟨l,b,xs,zs,rfl,rfl,hH,hB,hz,q⟩:=h;cases rx;cases ry;obtain⟨its,r,pl,_⟩:=I.list hH;obtain⟨its2,r2,pl2,_⟩:=I.list hB;obtain⟨⟨cls,dd,data,sl⟩,ho,hc,n,hd⟩:=pl.isList;obtain⟨⟨cls2,dd2,data2,sl2⟩,pX,nM,n2,hd2⟩:=pl2.isList;simp only at hc hd nM hd2;subst hc hd nM hd2;refine concat_meets ⟨_,ho,rfl⟩ ⟨_,pX,rfl⟩ noFill_list_add seq_list_add PySem.F.slot_list_add PySem.F.entry_list_add (PySem.F.args_list_add_2 _ _) (list_addW l b its.toArray its2.toArray n n2 dd dd2 sl sl2 (by rw[fj,fj,<-r.length,<-r2.length];exact hz)) ⟨ho,pX,?_⟩;have ea:its.toArray++its2.toArray=(its++its2).toArray:=by simp
 rw[ea];exact⟨.ref _,_,I.Q7 (t':=s.toks) (r.append r2) (by rw[pC];omega),rfl,q _ I.fresh⟩
noncomputable def q_(K:W.Frag):R2:=λx y H Q=>pR (λi j=>.int (i+j)) x y H Q\/zW K x y H Q\/uX K x y H Q\/∃i j,x=.str i/\y=.str j/\i.length+j.length<=sizeLine/\Q (.str (i++j)) H
theorem zfy:fK X (binaryOp .Add) (q_ X.K):=Bt.or (yg.or (uY.or zfc))
end
end L2
namespace Mi
open PySem PySem.Spec PyProof.Rows L2
section
variable {K:W.Frag}{cA:Cl}{U:Ph}{H:Hp}{Q:VK}{p:Pr}
theorem bN.some'{o:Option Rz}(h:bN K cA U H o Q):∃z,o=some z:=by
 cases o with
 |none=>exact h.elim
 |some z=>exact⟨z,rfl⟩
theorem bN.of{o:Option Rz}{z:Rz}(h:bN K cA U H o Q)(e:o=some z):bN K cA U H (some z) Q:=e▸h
theorem bN.here{d:D}{v:V}(h:bN K cA U H (some (.dat d)) Q)(r:Rep K cA U H d v):Q v H:=h H v bG.refl r
theorem bN.tup{xs:List D}{vs:List V}{a:Addr}(h:bN K cA U H (some (.dat (.tup xs))) Q)(z:Zt U H)(r:aC K cA U H xs vs)(hp:H a=none):Q (.ref a) (upd H a (.tup vs)):=
 h _ _ (bG.new hp) (.tup (TupAt.new (z.nz hp)) (r.mono (bG.new hp).ext z.lz))
theorem xY.two{ds:List D}{vs:List V}{d d':D}(h:xY K cA U H [d,d'] vs):∃v v',vs=[v,v']/\Rv K cA U H d v/\Rv K cA U H d' v':=by
 cases h with
 |cons a r=>cases r with
  |cons b r=>cases r;exact⟨_,_,rfl,a,b⟩
theorem xY.one(h:xY K cA U H [d] vs):∃v,vs=[v]/\Rv K cA U H d v:=by
 cases h with
 |cons a r=>cases r;exact⟨_,rfl,a⟩
theorem Rv.int{i:Int}{v:V}(h:Rv K cA U H (.int i) v):v=.int i:=by cases (show Rep K cA U H (.int i) v from h);rfl
theorem Rv.bl{i:Bool}{v:V}(h:Rv K cA U H (.bl i) v):v=.bl i:=by cases (show Rep K cA U H (.bl i) v from h);rfl
theorem Rv.str{i:Str}{v:V}(h:Rv K cA U H (.str i) v):v=.str i:=by cases (show Rep K cA U H (.str i) v from h);rfl
theorem Rv.tup{xs:List D}{v:V}(h:Rv K cA U H (.tup xs) v):∃a vs,v=.ref a/\TupAt K U H a vs/\aC K cA U H xs vs:=by
 cases (show Rep K cA U H (.tup xs) v from h) with
 |tup a r=>exact⟨_,_,rfl,a,r⟩
theorem Rv.sq{d:D}{xs:List D}{v:V}(h:Rv K cA U H d v)(e:lK d=some xs):∃a vs,v=.ref a/\(dj K H a vs\/gw K H a vs)/\aC K cA U H xs vs:=by
 cases d with
 |tup ys=>
  cases e;obtain⟨a,vs,e,t,r⟩:=Rv.tup h;exact⟨a,vs,e,.inr t.ju,r⟩
 |fl ys=>
  cases e;obtain⟨a,vs,e,l,r⟩:=h;exact⟨a,vs,e,.inl l,r⟩
 |_=>cases e
theorem Zi{f:Int->Int->Option D}{ds:List D}{z:Rz}(h:dF f ds=some z):∃i j d,ds=[.int i,.int j]/\f i j=some d/\z=.dat d:=by
 cases ds with
 |nil=>cases h
 |cons a t=>
 cases a with
 |int i=>
  cases t with
  |nil=>cases h
  |cons b t=>
  cases b with
  |int j=>
   cases t with
   |cons _ _=>cases h
   |nil=>
    obtain⟨d,e1,e2⟩:=kZ.mp h;exact⟨_,_,d,rfl,e1,e2.symm⟩
  |_=>cases h
 |_=>cases h
theorem Jt{f:Int->Int->Option D}(hp:prim p=dF f){C:Int->Int->Prop}{g:Int->Int->V}(hf:∀i j d,f i j=some d->C i j/\∀U H,Rep K cA U H d (g i j)):bH K cA p (r2 (rI C g)):=by
 intro U H ds vs Q zt rs o;rw[hp] at o;obtain⟨z,e⟩:=o.some';obtain⟨i,j,d,rfl,e1,rfl⟩:=Zi e;obtain⟨c,r⟩:=hf i j d e1;obtain⟨v,v',rfl,r1,r2⟩:=rs.two (ds:=[]);rw[r1.int,r2.int];exact⟨_,_,rfl,i,j,rfl,rfl,c,(o.of e).here (r U H)⟩
theorem FN{f:Int->Int->D}(hp:prim p=dF λi j=>some (f i j)){g:Int->Int->V}(hf:∀i j U H,Rep K cA U H (f i j) (g i j)):bH K cA p (r2 (pR g)):=by
 intro U H ds vs Q zt rs o;obtain⟨x,y,e,i,j,a,b,_,q⟩:=Jt (K:=K) (cA:=cA) (C:=λ_ _=>True) hp (λi j d e=>⟨trivial,λU H=>by cases e;exact hf i j U H⟩) U H ds vs Q zt rs o;exact⟨x,y,e,i,j,a,b,q⟩
theorem Ju{α:Type}{c:Prop}[Decidable c]{x y:α}(h:(if c then some x else none)=some y):c/\y=x:=by
 split at h
 ·rename_i z;cases h;exact⟨z,rfl⟩
 ·cases h
theorem zmp:bH K cA .aq (r2 (pR λi j=>.int (i-j))):=FN (f:=λi j=>.int (i-j)) rfl λi j _ _=>.int _
theorem zkl:bH K cA .mul (r2 (rI xG λi j=>.int (i*j))):=Jt rfl λi j d e=>by obtain⟨c,rfl⟩:=Ju e;exact⟨c,λ_ _=>.int _⟩
theorem zi1:bH K cA .fdiv (r2 (rI xu λi j=>.int (i/j))):=Jt rfl λi j d e=>by obtain⟨c,rfl⟩:=Ju e;exact⟨c,λ_ _=>.int _⟩
theorem zmk:bH K cA .mod (r2 (rI (λ_ j=>0<j) λi j=>.int (i%j))):=Jt rfl λi j d e=>by obtain⟨c,rfl⟩:=Ju e;exact⟨c,λ_ _=>.int _⟩
theorem zkL:bH K cA .pow (r2 (rI HW λi j=>.int (i^j.toNat))):=Jt rfl λi j d e=>by obtain⟨c,rfl⟩:=Ju e;exact⟨c,λ_ _=>.int _⟩
theorem zmM:bH K cA .le (r2 (pR λi j=>.bl (decide (i<=j)))):=FN (f:=λi j=>.bl (decide (i<=j))) rfl λi j _ _=>.bl _
theorem znm:bH K cA .gt (r2 (pR λi j=>.bl (decide (j<i)))):=FN (f:=λi j=>.bl (decide (j<i))) rfl λi j _ _=>.bl _
theorem zmV:bH K cA .ge (r2 (pR λi j=>.bl (decide (j<=i)))):=FN (f:=λi j=>.bl (decide (j<=i))) rfl λi j _ _=>.bl _
theorem zlv:bH K cA .neg (λvs H Q=>∃x,vs=[x]/\rU (λi=>.int (-i)) x H Q):=by
 intro U H ds vs Q zt rs o;obtain⟨z,e⟩:=o.some';have e:uP (λi=>.int (-i)) ds=some z:=e;cases ds with
 |nil=>cases e
 |cons a t=>
 cases a with
 |int i=>
  cases t with
  |cons _ _=>cases e
  |nil=>
   cases e;obtain⟨v,rfl,r1⟩:=rs.one;exact⟨_,rfl,_,r1.int,bN.here (o.of rfl) (.int _)⟩
 |_=>cases e
theorem zm4:bH K cA .eq (r2 (yc K cA id)):=by
 intro U H ds vs Q zt rs o;obtain⟨z,e⟩:=o.some';have e:Cv id ds=some z:=e;unfold Cv at e;split at e
 ·obtain⟨b,e1,e2⟩:=kZ.mp e;obtain⟨v,v',rfl,r1,r2⟩:=rs.two (ds:=[]);subst e2;exact⟨_,_,rfl,U,_,_,b,r1,r2,e1,(o.of e).here (.bl _)⟩
 ·cases e
theorem znc:bH K cA .ne (r2 (yc K cA not)):=by
 intro U H ds vs Q zt rs o;obtain⟨z,e⟩:=o.some';have e:Cv not ds=some z:=e;unfold Cv at e;split at e
 ·obtain⟨b,e1,e2⟩:=kZ.mp e;obtain⟨v,v',rfl,r1,r2⟩:=rs.two (ds:=[]);subst e2;exact⟨_,_,rfl,U,_,_,b,r1,r2,e1,(o.of e).here (.bl _)⟩
 ·cases e
theorem Zj{f:Bool->Bool}{ds:List D}{z:Rz}(h:Cw f ds=some z):∃a b xs k,ds=[a,b]/\lK b=some xs/\memD a xs=some k/\z=.dat (.bl (f k)):=by
 unfold Cw at h;split at h
 ·obtain⟨k,e1,e2⟩:=kZ.mp h;obtain⟨xs,e3,e4⟩:=yS.mp e1;exact⟨_,_,xs,k,rfl,e3,e4,e2.symm⟩
 ·cases h
theorem zmZ:bH K cA .inn (r2 (yd K cA id)):=by
 intro U H ds vs Q zt rs o;obtain⟨z,e⟩:=o.some';obtain⟨a,b,xs,k,rfl,e1,e2,rfl⟩:=Zj (show Cw id ds=some z from e);obtain⟨v,v',rfl,r1,r2⟩:=rs.two (ds:=[]);exact⟨_,_,rfl,U,_,_,xs,k,r1,r2,e1,e2,(o.of e).here (.bl _)⟩
theorem zkq:bH K cA .nin (r2 (yd K cA not)):=by
 intro U H ds vs Q zt rs o;obtain⟨z,e⟩:=o.some';obtain⟨a,b,xs,k,rfl,e1,e2,rfl⟩:=Zj (show Cw not ds=some z from e);obtain⟨v,v',rfl,r1,r2⟩:=rs.two (ds:=[]);exact⟨_,_,rfl,U,_,_,xs,k,r1,r2,e1,e2,(o.of e).here (.bl _)⟩
theorem Nj:∀{xs:List D} {ns:List Int} {vs:List V},cN xs=some ns->aC K cA U H xs vs->vs=ns.map V.int
 |[],ns,vs,h,r=>by cases h;cases r;rfl
 |d::xs,ns,vs,h,r=>by
  cases d with
  |int i=>
   simp only[cN,kZ] at h;obtain⟨ns',h1,rfl⟩:=h;cases r with
   |cons a r=>cases a;rw[Nj h1 r];rfl
  |_=>simp[cN] at h
theorem Sh:∀(a b:List Int),ltI a b=HT.lexLt a b
 |_,[]=>by cases ‹List Int›<;>rfl
 |[],_::_=>rfl
 |x::xs,y::ys=>by
  unfold ltI;rw[Sh xs ys,HT.jY]
theorem znD:bH K cA .lt (r2 λx y H Q=>pR (λi j=>.bl (decide (i<j))) x y H Q\/Im K x y H Q):=by
 intro U H ds vs Q zt rs o;obtain⟨z,e⟩:=o.some';have e:Je ds=some z:=e;unfold Je at e;split at e
 ·cases e;obtain⟨v,v',rfl,r1,r2⟩:=rs.two (ds:=[]);exact⟨_,_,rfl,.inl ⟨_,_,r1.int,r2.int,bN.here (o.of rfl) (.bl _)⟩⟩
 ·split at e
  ·rename_i a b h1 h2;cases e;obtain⟨v,v',rfl,r1,r2⟩:=rs.two (ds:=[]);obtain⟨p,us,rfl,t1,q1⟩:=r1.tup;obtain⟨p',us',rfl,t2,q2⟩:=r2.tup;have o2:bN K cA U H (some (.dat (.bl (ltI a b)))) Q:=by
    have o3:bN K cA U H (Je [.tup _,.tup _]) Q:=o;unfold Je at o3;simp only[h1,h2] at o3;exact o3
   refine⟨_,_,rfl,.inr ⟨p,p',a,b,rfl,rfl,by rw[<-Nj h1 q1];exact t1.ju,by rw[<-Nj h2 q2];exact t2.ju,?_⟩⟩;rw[<-Sh];exact o2.here (.bl _)
  ·cases e
 ·cases e
theorem zlE:bH K cA .add (r2 (q_ K)):=by
 intro U H ds vs Q zt rs o;have o:bN K cA U H (Cu ds) Q:=o;cases ds with
 |nil=>exact False.elim o
 |cons a t=>
 cases a with
 |int i=>
  cases t with
  |nil=>exact False.elim o
  |cons b t=>
  cases b with
  |int j=>
   cases t with
   |cons _ _=>exact False.elim o
   |nil=>
    obtain⟨v,v',rfl,r1,r2⟩:=rs.two (ds:=[]);exact⟨_,_,rfl,.inl ⟨_,_,r1.int,r2.int,bN.here o (.int _)⟩⟩
  |_=>exact False.elim o
 |tup xs=>
  cases t with
  |nil=>exact False.elim o
  |cons b t=>
  cases b with
  |tup ys=>
   cases t with
   |cons _ _=>exact False.elim o
   |nil=>
    obtain⟨v,v',rfl,r1,r2⟩:=rs.two (ds:=[]);obtain⟨p,us,rfl,t1,q1⟩:=r1.tup;obtain⟨p',us',rfl,t2,q2⟩:=r2.tup;have o:bN K cA U H (if xs.length+ys.length<=sizeLine then some (.dat (.tup (xs++ys))) else none) Q:=o;by_cases hz:xs.length+ys.length<=sizeLine
    ·rw[if_pos hz] at o;refine⟨_,_,rfl,.inr (.inr (.inl ⟨p,p',us,us',rfl,rfl,t1.ju,t2.ju,by rw[<-q1.len,<-q2.len];exact hz,λe=>?_,λe=>?_,λa ha=>o.tup zt (q1.app q2) ha⟩))⟩
     ·subst e;cases q1;exact o.here (.tup t2 q2)
     ·subst e;cases q2;rw[wM] at o;exact o.here (.tup t1 q1)
    ·rw[if_neg hz] at o;exact o.elim
  |_=>exact False.elim o
 |fl xs=>
  cases t with
  |nil=>exact False.elim o
  |cons b t=>
  cases b with
  |fl ys=>
   cases t with
   |cons _ _=>exact False.elim o
   |nil=>
    obtain⟨v,v',rfl,⟨p,us,rfl,t1,q1⟩,⟨p',us',rfl,t2,q2⟩⟩:=rs.two (ds:=[]);have o:bN K cA U H (if xs.length+ys.length<=sizeLine then some (.nw (xs++ys)) else none) Q:=o;by_cases hz:xs.length+ys.length<=sizeLine
    ·rw[if_pos hz] at o;exact⟨_,_,rfl,.inr (.inl ⟨p,p',us,us',rfl,rfl,t1,t2,by rw[<-q1.len,<-q2.len];exact hz,λa ha=>o a _ ha (q1.app q2)⟩)⟩
    ·rw[if_neg hz] at o;exact o.elim
  |_=>exact False.elim o
 |str x=>
  cases t with
  |nil=>exact False.elim o
  |cons b t=>
  cases b with
  |str y=>
   cases t with
   |cons _ _=>exact False.elim o
   |nil=>
    obtain⟨v,v',rfl,r1,r2⟩:=rs.two (ds:=[]);have o:bN K cA U H (if x.length+y.length<=sizeLine then some (.dat (.str (x++y))) else none) Q:=o;by_cases hz:x.length+y.length<=sizeLine
    ·rw[if_pos hz] at o;exact⟨_,_,rfl,.inr (.inr (.inr ⟨_,_,r1.str,r2.str,hz,o.here (.str _)⟩))⟩
    ·rw[if_neg hz] at o;exact o.elim
  |_=>exact False.elim o
 |_=>exact False.elim o
theorem zl5:bH K cA .len (λxs H Q=>∃p ys,xs=[.ref p]/\(dj K H p ys\/gw K H p ys)/\Q (.int ys.length) H):=by
 intro U H ds vs Q zt rs o;have o:bN K cA U H (sI (λxs=>some (.dat (.int xs.length))) ds) Q:=o;unfold sI at o;split at o
 ·obtain⟨v,rfl,r1⟩:=rs.one;obtain⟨z,e⟩:=o.some';obtain⟨xs,e1,e2⟩:=yS.mp e;obtain⟨a,us,rfl,sq,q⟩:=r1.sq e1;cases e2;refine⟨a,us,rfl,sq,?_⟩;rw[<-q.len];exact(o.of e).here (.int _)
 ·exact o.elim
theorem zjs:bH K cA .list (λxs H Q=>∃p ys,xs=[.ref p]/\(dj K H p ys\/gw K H p ys)/\∀l,H l=none->Q (.ref l) (upd H l (.lst ys))):=by
 intro U H ds vs Q zt rs o;have o:bN K cA U H (sI (λxs=>some (.nw xs)) ds) Q:=o;unfold sI at o;split at o
 ·obtain⟨v,rfl,r1⟩:=rs.one;obtain⟨z,e⟩:=o.some';obtain⟨xs,e1,e2⟩:=yS.mp e;obtain⟨a,us,rfl,sq,q⟩:=r1.sq e1;cases e2;exact⟨a,us,rfl,sq,λl hl=>(o.of e) l us hl q⟩
 ·exact o.elim
theorem zhh:bH K cA .tuple (λxs H Q=>∃p ys,xs=[.ref p]/\((dj K H p ys/\∀l,H l=none->Q (.ref l) (upd H l (.tup ys)))\/(gw K H p ys/\Q (.ref p) H))):=by
 intro U H ds vs Q zt rs o;have o:bN K cA U H (qj ds) Q:=o;unfold qj at o;split at o
 ·rename_i d _;obtain⟨v,rfl,r1⟩:=rs.one;cases d with
  |tup xs=>
   obtain⟨a,us,rfl,t,q⟩:=r1.tup;exact⟨a,us,rfl,.inr ⟨t.ju,bN.here o (.tup t q)⟩⟩
  |fl xs=>
   obtain⟨a,us,rfl,t,q⟩:=r1;exact⟨a,us,rfl,.inl ⟨t,λl hl=>bN.tup o zt q hl⟩⟩
  |_=>exact o.elim
 ·exact o.elim
theorem zju:bH K cA .uO (λxs H Q=>(∃i,xs=[.int i]/\Q (.int i) H)\/∃k,xs=[.bl k]/\Q (.int (if k then 1 else 0)) H):=by
 intro U H ds vs Q zt rs o;have o:bN K cA U H (Jf ds) Q:=o;cases ds with
 |nil=>exact False.elim o
 |cons a t=>
 cases a with
 |int i=>
  cases t with
  |cons _ _=>exact False.elim o
  |nil=>
   obtain⟨v,rfl,r1⟩:=rs.one;rw[r1.int];exact .inl ⟨_,rfl,bN.here o (.int _)⟩
 |bl k=>
  cases t with
  |cons _ _=>exact False.elim o
  |nil=>
   obtain⟨v,rfl,r1⟩:=rs.one;rw[r1.bl];exact .inr ⟨_,rfl,bN.here o (.int _)⟩
 |_=>exact False.elim o
theorem zjx:bH K cA .max2 (λxs H Q=>∃i j,xs=[.int i,.int j]/\Q (.int (if j>i then j else i)) H):=by
 intro U H ds vs Q zt rs o;obtain⟨x,y,e,i,j,rfl,rfl,q⟩:=FN (K:=K) (cA:=cA) (p:=.max2) (f:=λi j=>.int (if j>i then j else i)) rfl (λi j _ _=>.int _) U H ds vs Q zt rs o;exact⟨i,j,e,q⟩
theorem zj7:bH K cA .min2 (λxs H Q=>∃i j,xs=[.int i,.int j]/\Q (.int (if j<i then j else i)) H):=by
 intro U H ds vs Q zt rs o;obtain⟨x,y,e,i,j,rfl,rfl,q⟩:=FN (K:=K) (cA:=cA) (p:=.min2) (f:=λi j=>.int (if j<i then j else i)) rfl (λi j _ _=>.int _) U H ds vs Q zt rs o;exact⟨i,j,e,q⟩
theorem zfO:bH K cA .divmod (λxs H Q=>∃i j,xs=[.int i,.int j]/\xu i j/\∀p,H p=none->Q (.ref p) (upd H p (.tup [.int (i/j),.int (i%j)]))):=by
 intro U H ds vs Q zt rs o;have o:bN K cA U H (dF (λi j=>if 0<j/\j<1073741824 then some (.tup [.int (i/j),.int (i%j)]) else none) ds) Q:=o;obtain⟨z,e⟩:=o.some';obtain⟨i,j,d,rfl,e1,rfl⟩:=Zi e;obtain⟨c,rfl⟩:=Ju e1;obtain⟨v,v',rfl,r1,r2⟩:=rs.two (ds:=[]);rw[r1.int,r2.int];exact⟨i,j,rfl,c,λp hp=>(o.of e).tup zt (.cons (.int _) (.cons (.int _) .nil)) hp⟩
theorem Zk:∀{xs:List D} {bs:List Bool} {vs:List V},eG xs=some bs->aC K cA U H xs vs->vs=bs.map V.bl
 |[],bs,vs,h,r=>by cases h;cases r;rfl
 |d::xs,bs,vs,h,r=>by
  cases d with
  |bl b=>
   simp only[eG,kZ] at h;obtain⟨bs',h1,rfl⟩:=h;cases r with
   |cons q r=>cases q;rw[Zk h1 r];rfl
  |_=>simp[eG] at h
theorem znL:bH K cA .ix (r2 (Q5 K)):=by
 intro U H ds vs Q zt rs o;have o:bN K cA U H (RW ds) Q:=o;unfold RW at o;split at o
 ·rename_i d i _;obtain⟨v,v',rfl,r1,r2⟩:=rs.two (ds:=[]);obtain⟨z,e⟩:=o.some';obtain⟨y,e1,e2⟩:=kZ.mp e;obtain⟨xs,e3,e4⟩:=yS.mp e1;obtain⟨a,us,rfl,sq,q⟩:=r1.sq e3;have key:∃w,L2.qO us i=some w/\Rep K cA U H y w:=by
   unfold L2.qO at *;rw[<-q.len];obtain⟨j,h1,h2⟩:=yS.mp e4;obtain⟨w,h3,h4⟩:=q.get h2;exact⟨w,by rw[h1];exact h3,h4⟩
  obtain⟨w,hw,lH⟩:=key;subst e2;have q':=(o.of e).here lH;rcases sq with sq|sq
  ·exact⟨_,_,rfl,.inl ⟨a,us,i,w,rfl,r2.int,sq,hw,q'⟩⟩
  ·exact⟨_,_,rfl,.inr (.inl ⟨a,us,i,w,rfl,r2.int,sq,hw,q'⟩)⟩
 ·exact o.elim
noncomputable def Zm(K:W.Frag):V->Option Int->Option Int->Hp->VK->Prop:=λx lo hi H Q=>Iv K x lo hi H Q\/zV K x lo hi H Q
theorem zlO:xO X (Zm X.K):=xR.or zjj
theorem ziO{d:D}{lo hi:Option Int}{v:V}(zt:Zt U H)(r:Rv K cA U H d v)(o:bN K cA U H (cutD d lo hi) Q):Zm K v lo hi H Q:=by
 cases d with
 |tup xs=>
  obtain⟨a,us,rfl,t,q⟩:=r.tup;refine .inr ⟨a,us,rfl,t.ju,λe=>?_,λp hp=>bN.tup o zt q.cut hp⟩;have hc:cut xs lo hi=xs:=by
   unfold cut;rw[q.len,e.1,e.2,List.drop_zero,Nat.sub_zero,<-q.len,En]
  have o:bN K cA U H (some (.dat (.tup (cut xs lo hi)))) Q:=o;rw[hc] at o;exact o.here (.tup t q)
 |fl xs=>
  obtain⟨a,us,rfl,t,q⟩:=r;exact .inl ⟨a,us,rfl,t,λp hp=>o p _ hp q.cut⟩
 |_=>exact o.elim
end
end Mi
namespace L2
open PySem PySem.Spec PyProof.Rows
section
variable {κ:Type}[DecidableEq κ]
end
section
variable {P:Program}{w:World}{H:Hp}{h:Heap}{a:Addr}
end
section
variable {X:Cx}{ao:List (Addr×Obj)}{Z:St}{H:Hp}{s:Shared}{a:Addr}{y v:V}{u r:Value}{o:Option V}{A:Around}{E:Value->Shared->Prop}
theorem Inv.big(I:Inv X ao Z H s):sysModules<s.heap.objs.size:=by
 have h:mainGlobals<s.heap.objs.size:=(I.mod.glob.keeps I.bk).lt;exact Nat.lt_trans (by decide) h
theorem ziM(I:Inv X ao Z H s)(mu:Ho (H a))(hs:Heap.SameBut a s.heap h')(he:∃q,h'.get? a=some q)(new:bI X.prog X.w (upd H a ob) h' a ob) :
  Inv X ao Z (upd H a ob) {s with heap:=h',toks:=t'}:=
 I.write (x:=a) (e:=a) mu (.inl rfl) (λb q hb z=>(hs.2 b hb).trans z) he new
end
section
variable {X:Cx}{ao:List (Addr×Obj)}{Z:St}{H:Hp}{s:Shared}{a:Addr}{kvs:List (Key×V)}{k:Key}{u:Value}{A:Around}{E:Value->Shared->Prop}
end
def C_(i:Expr):Prop:=∀ov iv,subscripted i false ov iv=operate [ov,iv] (getItem ov iv)
theorem ziN{prog:Program}{w:World}{A:Around}{E:Value->Shared->Prop}{s:Shared}{env:Env}{value slice:Expr}{pos:Pos}{T id:String}{Q:Value->Shared->Prop}
  (hl:typeLookup (.type T) "__getitem__"=pure (some (.builtin id))) (hs:C_ slice)
  (h:wpAny (model prog w) A (eval value env) (λo s₁=>wpAny (model prog w) A (eval slice env) (λi s₂=>s₂.TypeIs o T/\wpAny (model prog w) A (getItem o i) Q E s₂) E s₁) E s) :
  wpAny (model prog w) A (eval (.Subscript value slice pos) env) Q E s:=by
 refine Subscript_ (gj h (λo s₁ h₁=>gj h₁ (λi s₂ h₂=>?_) λ_ _ x=>x) λ_ _ x=>x);obtain⟨hT,h₂⟩:=h₂;unfold subscriptTail;refine aB ?_;rw[getitemInPython_of_ne hT.not_modules];refine aB (wpAny_specialOf hT hl ?_);have fin:wpAny (model prog w) A (subscripted slice false o i) (λr s₃=>wpAny (model prog w) A (letTemporaryGo value o r >>= λ_=>pure r) Q E s₃) E s₂:=by
  rw[hs o i];exact wpAny_operating (gj h₂ (λr s₃ h₃=>aB (wpAny_letTemporaryGo (aM h₃))) λ_ _ x=>x)
 first
  |exact aM (aB fin)
  |exact aB (aM (aB fin))
  |exact aB fin
section
variable {X:Cx}{o i e value:Expr}{pos pos' tpos:Pos}{td ty tv:TE}
end
section
variable {X:Cx}{pos:Pos}
end
section
variable {X:Cx}{ao:List (Addr×Obj)}{Z:St}{H:Hp}{s:Shared}{a:Addr}{y d:V}{u r:Value}{o:Option V}{A:Around}{E:Value->Shared->Prop}
end
section
variable {X:Cx}{o e f:Expr}{apos cpos:Pos}{td ty tx:TE}
end
section
variable {X:Cx}{ao:List (Addr×Obj)}{Z:St}{H:Hp}{s:Shared}{a:Addr}{kvs:List (Key×V)}{A:Around}{E:Value->Shared->Prop}
end
section
variable {X:Cx}{ao:List (Addr×Obj)}{Z:St}{H:Hp}{s:Shared}{a:Addr}{y:V}{u:Value}{A:Around}{E:Value->Shared->Prop}
end
end L2
namespace Mi
open PySem PySem.Spec PyProof.Rows L2
section
variable {X:Cx}{cA:Cl}{aq:Nat->Nat->Bool}{aj:Bool}{F:Fn}{EX:XS}{a b c d e o:Expr}{A B C Dd E' O:E}{pos pp p2 apos cpos:Pos}{es:List Expr}{Xs:Es}{fz:Bool}{p:Pr}{x:Str}{U:Ph}{H:Hp}{s:S}{lo hi:Option Expr}{Lo Hi:Eo}
def Jv(X:Cx)(cA:Cl)(aq:Nat->Nat->Bool)(aj:Bool)(F:Fn)(EX:XS)(oe:Option Expr)(m:Eo):Prop:=
 PO X oe (λZ H Q=>∃U J s,aY X.K cA U H Z J/\aD X.K cA U H s/\Run X.K cA (tV aq aj F m J) U H s (λi _ U' H'=>Q i H') (eX X.K cA EX Z))
theorem PO.weak{oe:Option Expr}{t t':TO}(h:PO X oe t)(f:∀Z H Q,t' Z H Q->t Z H Q):PO X oe t':=by
 intro ao s Z H Q I q;exact h ao s Z H Q I (f Z H Q q)
theorem znn:Jv X cA aq aj F EX none .no:=PO.weak zke λZ H Q hh=>un hh λU J s hL hS h=>h.bK hS
theorem zlA(ha:SE X cA aq aj F EX a A):Jv X cA aq aj F EX (some a) (.yes A):=PO.weak (ziP ha) λZ H Q hh=>un hh λU J s hL hS h=>by
 refine bw hL hS h λx H1 U1 d1 s1 x1 hL1 aJ r1 h1=>?_;obtain⟨i,_,e,h3⟩:=CW r1 h1;exact⟨i,e,h3.bK aJ⟩
theorem Jw{β:Type}{Z:L2.St}{J:Vs}{m:Eo}{k:Option Int->M β}{P:β->S->Ph->Hp->Prop}(hL:aY X.K cA U H Z J)(hS:aD X.K cA U H s)(h:Run X.K cA (M.bd (tV aq aj F m J) k) U H s P (eX X.K cA EX Z)){Q:Option Int->Hp->Prop}
  (f:∀i H1 U1 s1,Ext U H U1 H1->aY X.K cA U1 H1 Z J->aD X.K cA U1 H1 s1->Run X.K cA (k i) U1 H1 s1 P (eX X.K cA EX Z)->Q i H1) :
  ∃U J s,aY X.K cA U H Z J/\aD X.K cA U H s/\Run X.K cA (tV aq aj F m J) U H s (λi _ U' H'=>Q i H') (eX X.K cA EX Z):=
 ⟨U,J,s,hL,hS,h.bd.imp λi s1 U1 H1 ⟨x1,r1,h1⟩=>f i H1 U1 s1 x1 (hL.mono x1 hS.lz) r1 h1⟩
theorem zmH(ha:SE X cA aq aj F EX a A)(hl:Jv X cA aq aj F EX lo Lo)(hh:Jv X cA aq aj F EX hi Hi):SE X cA aq aj F EX (.Subscript a (.Slice lo hi none p2) pos) (.sl fz A Lo Hi):=PE.weak (zhD zlO ha hl hh) λZ H Q hh=>un hh λU J s hL hS h=>by
 refine bw hL hS h λx H1 U1 d1 s1 x1 hL1 aJ r1 h1=>Jw hL1 aJ h1 λl H2 U2 s2 x2 hL2 aR h2=>Jw hL2 aR h2 λu H3 U3 s3 x3 oW gQ h3=>?_;obtain⟨dd,rv,h4⟩:=Nf gQ ((r1.mono x2 aJ.lz).mono x3 aR.lz) h3;exact ziO gQ.zs rv (sV gQ h4)
theorem zkS(ha:SE X cA aq aj F EX a A):SE X cA aq aj F EX (.Subscript a (.Slice none none (some (.UnaryOp .USub (.Constant (.int 1) j p3) p4)) p2) pos) (.pr true .rev (.cons A .nil)):=PE.weak (zkE ha) λZ H Q hh=>un hh λU J s hL hS h=>by
 have h:Run X.K cA (M.bd (M.bd (ev aq aj F A J) λx=>M.bd (M.ret []) λz=>M.ret (x::z)) λvs=>M.bd (gW vs) λds=>cL true (prim .rev ds)) U H s _ _:=h;simp only[gP] at h;refine bw hL hS h λx H1 U1 d1 s1 x1 hL1 aJ r1 h1=>?_;obtain⟨ds,rs,h3⟩:=tW aJ (.cons r1 .nil) h1;have o:bN X.K cA U1 H1 (CK ds) Q:=sV aJ h3;unfold CK at o;split at o
 ·obtain⟨v,e,r⟩:=rs.one;cases e;obtain⟨ad,us,e2,t,q⟩:=r.tup;subst e2;exact⟨ad,us,rfl,t.ju,λp hp=>bN.tup o aJ.zs q.rev hp⟩
 ·exact o.elim
theorem Zn:∀bs:List Bool,(List.range bs.length).all (λi=>(bs[i]?).getD false)=bs.all id
 |[]=>rfl
 |b::r=>by
  rw[h_,Pn,Ba,List.all_map,Ba];have:=Zn r;simp only[Function.comp_def,Am,List.getElem?_cons_zero,Option.getD_some,id];rw[this]
theorem zfF(hc:X.aj=true):dB X (.builtin "all") (λxs H Q=>∃(p:Addr) (bs:List Bool),xs=[.ref p]/\dj X.K H p (bs.map V.bl)/\Q (.bl (bs.all id)) H):=by
 intro ao s Z H xs us Q I r ⟨p,bs,e,hp,q⟩;subst e;obtain⟨u,rfl,ru⟩:=Vals.one r;cases (show u=Value.ref p from ru);obtain⟨its,rv,pl,hz⟩:=I.list hp;have hl:s.heap.IsList p its.toArray:=pl.isList;have hpn:p≠s.heap.objs.size:=by
  obtain⟨o,hg,_⟩:=hl;exact c7 (bQ hg)
 refine call_all_walk (GJ hl ?_);refine⟨_,_,_,_,_,_,λi=>(bs[i]?).getD false,rfl,Walks.list (A:=X.A.in1) (I.ok.hd hc) _ p hpn its.toArray,⟨⟨_,eE _ rfl,rfl,rfl⟩,hl.push _⟩,?_,λh' tk hk=>?_⟩
 ·intro i v s' Q' E' hP hQ;have hi:its[i]?=some v:=by simpa using hP
  have hb:∃b,bs[i]?=some b:=by
   have cF:i<its.length:=(f9.mp hi).1;have z:=rv.length;rw[eY] at z;exact⟨_,eU (by lia)⟩
  obtain⟨b,hb⟩:=hb;obtain⟨u,e1,e2⟩:=rv.get (i:=i) (x:=V.bl b) (by rw[jN,hb];rfl);rw[hi] at e1;cases e1;cases (show v=Value.bool b from e2);have hQ:Q' ((bs[i]?).getD false) s':=hQ;rw[hb] at hQ;exact vN hQ
 ·have ez:(List.range its.toArray.size).all (λi=>(bs[i]?).getD false)=bs.all id:=by
   have z:=rv.length;rw[eY] at z;rw[fj,<-z];exact Zn bs
  rw[ez];refine⟨.bl (bs.all id),H,I.kept (h':=h') (t':=tk) (old_kept hk),rfl,q⟩
theorem zkk{K:W.Frag}:bH K cA .all (λxs H Q=>∃(p:Addr) (bs:List Bool),xs=[.ref p]/\dj K H p (bs.map V.bl)/\Q (.bl (bs.all id)) H):=by
 intro U H ds vs Q zt rs o;have o:bN K cA U H (Cz ds) Q:=o;unfold Cz at o;split at o
 ·obtain⟨v,rfl,⟨ad,us,rfl,l,q⟩⟩:=rs.one;obtain⟨z,e⟩:=o.some';obtain⟨bs,e1,e2⟩:=kZ.mp e;subst e2;exact⟨ad,bs,rfl,by rw[<-Zk e1 q];exact l,(o.of e).here (.bl _)⟩
 ·exact o.elim
noncomputable def Nk:Kd->String->Bool
 |.int,"int"=>true
 |.int,"bool"=>true
 |.bool,"bool"=>true
 |.str,"str"=>true
 |.tuple,"tuple"=>true
 |.list,"list"=>true
 |.dict,"dict"=>true
 |_,_=>false
noncomputable def uZ:Kd->Option Value
 |.int=>some (.type "int")
 |.bool=>some (.type "bool")
 |.str=>some (.type "str")
 |.tuple=>some (.type "tuple")
 |.list=>some (.type "list")
 |.dict=>some (.type "dict")
 |_=>none
theorem zlR{K:W.Frag}{k:Kd}{cu:Value}(h:uZ k=some cu){T:String}(hT:T∈["NoneType","bool","int","str","tuple","list","dict"]):PySem.W.kitOne K (.type T) cu=some (Nk k T):=by
 simp only[iY,List.mem_nil_iff,or_false] at hT;cases k<;>simp only[uZ] at h<;>cases h<;>rcases hT with rfl|rfl|rfl|rfl|rfl|rfl|rfl<;>rfl
structure Jx(K:W.Frag)(cA:Cl)(aq:Nat->Nat->Bool):Prop where
 xc:∀c,XC K (cA.a c)
 aq:∀c e,PySem.W.kitOne K (.ref (cA.a c)) (.ref (cA.a e))=some (aq c e)
 sH:∀c,PySem.W.kitOne K (.ref (cA.a c)) (.type "ValueError")=some true
noncomputable def FP(cA:Cl):Kd->V
 |.cls e=>.ref (cA.a e)
 |.sH=>.ty "ValueError"
 |.int=>.ty "int"
 |.bool=>.ty "bool"
 |.str=>.ty "str"
 |.tuple=>.ty "tuple"
 |.list=>.ty "list"
 |.dict=>.ty "dict"
theorem zh3(Cs:uZ k=none->Jx X.K cA aq) :
  dB X (.builtin "isinstance") (λxs H Q=>∃U d v bb,xs=[v,FP cA k]/\Rv X.K cA U H d v/\mC aq d k=some bb/\Q (.bl bb) H):=by
 intro ao sh Z H xs us Q I r ⟨U,d,v,bb,e,rd,hi,q⟩;subst e;obtain⟨u,w,rfl,ru,Sq⟩:=Vals.two r;have u5:∀tk,EP X ao Z Q (.bool bb) {sh with toks:=tk}:=λtk=>⟨.bl bb,H,I.tok tk,rfl,q⟩;have bt:∀{T:String} {Hh:Heap->Prop},PySem.W.KitX X.K u (.type T) Hh->Hh sh.heap->T∈["NoneType","bool","int","str","tuple","list","dict"]->u≠Value.builtin "__main__.__loader__#opaque"->(∃cu,uZ k=some cu/\w=cu/\Nk k T=bb)->wpAny (model X.prog X.w) X.A (PySem.call (.builtin "isinstance") [u,w]) (EP X ao Z Q) X.xe sh:=λ{T Hh} Ss hh hT hx ⟨cu,h1,h2,h3⟩=>by
  subst h2 h3;exact PySem.W.kia_one Ss I.lW hh (zlR h1 hT) hx u5
 have wv:∀cu,uZ k=some cu->w=cu:=λcu h=>by
  cases k<;>simp only[uZ] at h<;>cases h<;>exact Sq
 have fin:∀T,mC aq d k=(match uZ k with|some _=>some (Nk k T)|none=>none)->∃cu,uZ k=some cu/\w=cu/\Nk k T=bb:=λT h=>by
  rw[hi] at h;cases z:uZ k with
  |none=>rw[z] at h;cases h
  |some cu=>rw[z] at h;cases h;exact⟨cu,rfl,wv cu z,rfl⟩
 cases d with
 |non=>
  cases (show Rep X.K cA U H .non v from rd);cases (show u=Value.none from ru);exact bt PySem.W.kitx_none trivial (by simp) (λz=>nomatch z) (fin "NoneType" (by cases k<;>rfl))
 |bl b=>
  cases rd.bl;cases (show u=Value.bool b from ru);exact bt PySem.W.kitx_bool trivial (by simp) (λz=>nomatch z) (fin "bool" (by cases k<;>rfl))
 |int i=>
  cases rd.int;obtain⟨t,z⟩:=(show ∃t,u=Value.int i t from ru);cases z;exact bt PySem.W.kitx_int trivial (by simp) (λz=>nomatch z) (fin "int" (by cases k<;>rfl))
 |str y=>
  cases rd.str;obtain⟨t,z⟩:=(show ∃t,u=Value.str y t from ru);cases z;exact bt PySem.W.kitx_str trivial (by simp) (λz=>nomatch z) (fin "str" (by cases k<;>rfl))
 |tup xs=>
  obtain⟨ad,vs,rfl,h1,h2⟩:=rd.tup;cases (show u=Value.ref ad from ru);obtain⟨its,_,ht,_⟩:=I.tuple h1.ju;obtain⟨o,q1,q2,_⟩:=ht;exact bt PySem.W.kitx_tuple ⟨o,q1,q2⟩ (by simp) (λz=>nomatch z) (fin "tuple" (by cases k<;>rfl))
 |fl xs=>
  obtain⟨ad,vs,rfl,h1,h2⟩:=rd;cases (show u=Value.ref ad from ru);obtain⟨its,_,ht,_⟩:=I.list h1;obtain⟨o,q1,q2,_⟩:=ht.isList;exact bt PySem.W.kitx_list ⟨o,q1,q2⟩ (by simp) (λz=>nomatch z) (fin "list" (by cases k<;>rfl))
 |fd ks vs=>
  cases (show Rep X.K cA U H (.fd ks vs) v from rd) with
  |@fd ad kk ii q1 n=>
   cases (show u=Value.ref ad from ru);obtain⟨_,_,vs,_,o,es',ep,g1,g2,_⟩:=(show bI X.prog X.w H sh.heap ad (.dK [(.inr kk,.int ii)]) from I.hok ad _ q1);exact bt PySem.W.kitx_dict ⟨o,g1,g2.1⟩ (by simp) (λz=>nomatch z) (fin "dict" (by cases k<;>rfl))
 |ob c fs=>cases k<;>cases hi
 |any=>cases k<;>cases hi
 |exc c fs=>
  cases (show Rep X.K cA U H (.exc c fs) v from rd) with
  |@exc ad _ _ vs hx rs=>
   cases (show u=Value.ref ad from ru);have hI:∃ox od,PySem.W.InstAt sh.heap ad ox (cA.a c) od:=by
    obtain⟨_,⟨_,_,hx⟩|⟨dx,hx,_,hd,_⟩⟩:=hx
    ·obtain⟨⟨oe,vs,g1,g2,g3,g4⟩,_⟩:=(show bI X.prog X.w H sh.heap ad (xU ad (cA.a c) none) from I.hok ad _ hx);exact⟨oe,none,g1,g2,by unfold PySem.W.notCls;rw[g4],by rw[g3];trivial⟩
    ·obtain⟨⟨oe,vs,g1,g2,g3,g4⟩,_⟩:=(show bI X.prog X.w H sh.heap ad (xU ad (cA.a c) (some dx)) from I.hok ad _ hx);obtain⟨mA,⟨od,es,ep,e1,c1⟩,_⟩:=(show bI X.prog X.w H sh.heap dx (.xd _) from I.hok dx _ hd);exact⟨oe,some od,g1,g2,by unfold PySem.W.notCls;rw[g4],by rw[g3];exact e1⟩
   cases k with
   |cls e=>
    cases (show w=Value.ref (cA.a e) from Sq);have z:some (aq c e)=some bb:=hi;cases z;exact PySem.W.kia_one (Yx ((Cs rfl).xc c)) I.lW hI ((Cs rfl).aq c e) (λz=>nomatch z) u5
   |sH=>
    cases (show w=Value.type "ValueError" from Sq);have z:some true=some bb:=hi;cases z;exact PySem.W.kia_one (Yx ((Cs rfl).xc c)) I.lW hI ((Cs rfl).sH c) (λz=>nomatch z) u5
   |_=>cases hi
theorem zk3(Cs:uZ k=none->Jx X.K cA aq)(hg:Gl X "isinstance")(hm:X.mg "isinstance"=none)(ha:SE X cA aq aj F EX a A)(hk:PE X kx (tC (FP cA k)))(h1:starEach [a,kx] X.env=(false,eval a X.env)::starEach [kx] X.env:=by rfl)(h2:starEach [kx] X.env=(false,eval kx X.env)::starEach [] X.env:=by rfl)
  (cO:(backTo pos (starEach [kx] X.env)).any (·.1)=false:=by rfl):SE X cA aq aj F EX (.Call (.Name "isinstance" pp) [a,kx] [] pos) (.qe A k):=PE.weak (Yl (zh3 (cA:=cA) (k:=k) Cs) hg hm PyProof.Rows.boot_isinstance (rW ha (rW hk xH h2) h1) (by decide) (by decide) h1 cO) λZ H Q hh=>un hh λU J s hL hS h=>
 bw hL hS h λv H1 U1 d s1 x1 hL1 aJ r1 h1=>by
  show ∃U d' v' bb,[v,FP cA k]=[v',FP cA k]/\_;obtain⟨dd,rv,h2⟩:=Nf aJ r1 h1;obtain⟨bb,e,h3⟩:=Run.nu h2;exact⟨U1,dd,v,bb,rfl,rv,e,h3.bK aJ _ (.d (.bl bb))⟩
end
theorem Zo(n:Nat):∀is js:List Int,dZ (dM n) (is.map .int) (js.map .int)=some (decide (is=js))
 |[],[]=>rfl
 |[],_::_=>rfl
 |_::_,[]=>rfl
 |i::is,j::js=>by
  have e:dM n (.int i) (.int j)=some (i==j):=by cases n<;>rfl
  simp only[jo,dZ,Zo n is js,e]
  congr 1
  by_cases h:i=j
  ·subst h;by_cases h2:is=js<;>simp[h2]
  ·simp[h]
theorem zl8{a b:Kx}:dM 2 (sS a) (sS b)=some (decide (a=b)):=by
 cases a with
 |non=>cases b<;>rfl
 |int i=>cases b with
  |int j=>
   show some (i==j)=_;by_cases h:i=j
   ·subst h;simp
   ·have hn:¬Kx.int i=Kx.int j:=λz=>h (by cases z;rfl);simp[h,hn]
  |_=>rfl
 |row is=>cases b with
  |row js=>
   show dZ (dM 1) (is.map .int) (js.map .int)=_;rw[Zo];by_cases h:is=js
   ·subst h;simp
   ·have hn:¬Kx.row is=Kx.row js:=λz=>h (by cases z;rfl);simp[h,hn]
  |_=>rfl
theorem Zq{x y:List Kx}:dM 3 (ji x) (ji y)=some (decide (x=y)):=by
 show dZ (dM 2) (x.map sS) (y.map sS)=_
 induction x generalizing y with
 |nil=>cases y<;>rfl
 |cons a x ih=>cases y with
  |nil=>rfl
  |cons b y=>
   simp only[jo,dZ,ih,zl8]
   congr 1
   by_cases h:a=b
   ·subst h;by_cases h2:x=y<;>simp[h2]
   ·simp[h]
theorem Zr:∀{xs:List D} {is:List Int},cN xs=some is->xs=is.map .int
 |[],is,h=>by cases h;rfl
 |x::r,is,h=>by
  cases x with
  |int i=>
   simp only[cN,kZ] at h;obtain⟨js,h1,rfl⟩:=h;rw[Zr h1];rfl
  |_=>cases h
theorem zjh{d:D}{k:Kx}(h:uR d=some k):d=sS k:=by
 cases d with
 |non=>cases h;rfl
 |int i=>cases h;rfl
 |tup xs=>
  simp only[uR,kZ] at h;obtain⟨js,h1,rfl⟩:=h;rw[Zr h1];rfl
 |_=>cases h
theorem Zu:∀{xs:List D} {k:List Kx},CV xs=some k->xs=k.map sS
 |[],k,h=>by cases h;rfl
 |x::r,k,h=>by
  unfold CV at h;cases e1:uR x with
  |none=>simp only[e1] at h;cases h
  |some a=>cases e2:CV r with
   |none=>simp only[e1,e2] at h;cases h
   |some b=>
    simp only[e1,e2] at h;cases h;rw[zjh e1,Zu e2];rfl
theorem zmB{d:D}{k:List Kx}(h:kOf d=some k):d=ji k:=by
 cases d with
 |tup xs=>show D.tup xs=.tup _;rw[Zu h]
 |_=>cases h
noncomputable def Zv:Kx->Nat
 |.row is=>is.length+1
 |_=>1
noncomputable def u6:List Kx->Nat
 |[]=>0
 |x::r=>Zv x+u6 r
section
variable {prog:Program}{w:World}{A:Around}{E:Value->Shared->Prop}{s:Shared}{h h':Heap}
theorem Zw:∀{is:List Int} {us:List Value},jH h (is.map .int) us->ItemsAre (intKind prog w) is us
 |[],us,r=>by cases r;exact .nil
 |i::is,us,r=>by
  cases r with
  |cons a r=>cases a with
   |int i t=>exact .cons (by simp[intKind,Value.isInt]) (Zw r)
   |oth k=>cases k
theorem u9{is:List Int}{a:Value}(x:Is h (.tup (is.map .int)) a):∃b,a=.ref b/\IsTupleKey (intKind prog w) h is b:=by
 cases x with
 |tup p r=>
  obtain⟨o,e,c,n,d⟩:=p;exact⟨_,rfl,o,_,n,e,c,d,by simpa using Zw r⟩
 |oth k=>cases k
theorem zjc{x:Kx}{u:Value}{Q:Int->Shared->Prop}(hu:A.units<cLine)(hx:Is s.heap (sS x) u)(q:Q (R5 x) {s with toks:=s.toks+Zv x}):wpAny (model prog w) A (pyHash u) Q E s:=by
 cases x with
 |non=>
  cases hx with
  |non=>exact PySem.W.pyHash_slot (T:="NoneType") rfl F.slot_NoneType_hash F.entry_NoneType_hash (F.args_NoneType_hash_1 _) (beq_builtin_none _) (.inr hu) (aB (aM (aB (wpAny_mkInt (aM ⟨_,_,rfl,q⟩)))))
  |oth k=>cases k
 |int i=>
  cases hx with
  |int i t=>exact wpAny_pyHash_int q
  |oth k=>cases k
 |row is=>
  obtain⟨b,rfl,k⟩:=u9 (prog:=prog) (w:=w) hx;exact wpAny_pyHash_tuple hu k q
theorem Zx{k:List Kx}:∀{r:List Kx} {us:List Value} {b:Array Int} {s:Shared} {Q:Array Int->Shared->Prop},A.units<cLine->jH s.heap (r.map sS) us->(∀b':Array Int,b'.toList=b.toList++r.map R5->Q b' {s with toks:=s.toks+u6 r})->
  wpAny (model prog w) A (forIn us b λx r=>do let h <-pyHash x;pure PUnit.unit;pure (ForInStep.yield (r.push h))) Q E s
 |[],us,b,s,Q,hu,x,q=>by cases x;exact aM (q b (by simp))
 |a::r,us,b,s,Q,hu,x,q=>by
  cases x with
  |cons x1 x2=>
   rw[Eu];refine aB (aB (zjc hu x1 (aB (aM (aM ?_)))));refine Zx (k:=k) hu x2 λb' e=>?_;have:=q b' (by simp[e]);simpa [u6,Nat.add_assoc] using this
theorem zgZ{k:List Kx}{a:Addr}{Q:Int->Shared->Prop}(hu:A.units+1<cLine)(hk:Is s.heap (ji k) (.ref a))(q:Q (qX k) {s with toks:=s.toks+(u6 k+1)}):wpAny (model prog w) A (pyHash (.ref a)) Q E s:=by
 cases hk with
 |oth k=>cases k
 |tup p r=>
  obtain⟨o,e,c,n,d⟩:=p;refine PySem.W.pyHash_slot (T:="tuple") ⟨_,e,c⟩ F.slot_tuple_hash F.entry_tuple_hash (F.args_tuple_hash_1 _) (beq_builtin_none _) (.inr (by lia)) ?_;show wpAny _ _ (Builtin.Tuple.tupleItemsOf (.ref a) >>= _) _ _ s;refine aB (wpAny_tupleItemsOf e d (aB ?_));rw[<-Ln];refine Zx (A:=A.in1) (k:=k) (show A.units+1<cLine from hu) (by simpa using r) λb hb=>?_;show wpAny _ _ (retInt (Builtin.Tuple.tupleHashOf b.toList)) _ _ _;rw[hb];exact aB (wpAny_mkInt (aM ⟨_,_,rfl,by simpa [Nat.add_assoc,qX] using q⟩))
theorem zhW(ht:∀a xs,h.IsTuple a xs->h'.IsTuple a xs)(hl:∀a xs,h.IsList a xs->h'.IsList a xs){d:D}{u:Value}(x:Is h d u):Is h' d u:=
 Is.rec (motive_1:=λd u _=>Is h' d u) (motive_2:=λd u _=>jH h' d u) .non .bl .int .str (λp _ r=>.tup (ht _ _ p) r) (λp _ r=>.fl (hl _ _ p) r) (λk=>.oth k) .nil (λ_ _ a r=>.cons a r) x
theorem zhd:∀{n:Nat} {x:Kx} {u:Value} {Q:Bool->Shared->Prop},Is s.heap (sS x) u->Q true s->wpAny (model prog w) A (eqIsQuiet (n+1) u) Q E s:=by
 intro n x u Q hx q;cases x with
 |non=>
  cases hx with
  |non=>rw[eqIsQuiet_byValue _ rfl];exact aM q
  |oth k=>cases k
 |int i=>
  cases hx with
  |int i t=>rw[eqIsQuiet_byValue _ rfl];exact aM q
  |oth k=>cases k
 |row is=>
  obtain⟨b,rfl,k⟩:=u9 (prog:=prog) (w:=w) hx;have ty:=k.typeIs;obtain⟨o,items,m,ho,_,hd,hi⟩:=k;unfold eqIsQuiet;refine aB (wpAny_specialOf ty F.slot_tuple_eq.lookup ?_);show wpAny _ A (isInstance (.ref b) (.type "tuple") >>= _) Q E s;refine aB (Ly ty isSubtype_tuple_tuple ?_);simp only[Bool.not_true,rH,nY];refine aB (rN ho hd (aB ?_));show wpAny _ A (forIn items _ _) _ E s;rw[<-Ln];refine wpAny_forIn_list _ (λl r t=>r.1=none/\t=s/\∀v∈l,carriedByValue v=true) _ (λv l r t z=>?_) (λr t z=>?_) _ _ ⟨rfl,rfl,hi.byValue⟩
  ·obtain⟨_,rfl,p7⟩:=z;rw[eqIsQuiet_byValue _ (p7 v lQ)];exact aB (aM (aM ⟨rfl,rfl,λy hy=>p7 y (iG _ hy)⟩))
  ·obtain⟨r1,r2⟩:=r;obtain⟨z1,rfl,_⟩:=z;cases z1;exact aM q
theorem zfX{k:List Kx}{a:Addr}{Q:Bool->Shared->Prop}(hk:Is s.heap (ji k) (.ref a))(q:Q true s):wpAny (model prog w) A (eqIsQuiet 8 (.ref a)) Q E s:=by
 cases hk with
 |oth k=>cases k
 |@tup _ _ its p r=>
  obtain⟨o,ho,c,n,hd⟩:=p;unfold eqIsQuiet;refine aB (wpAny_specialOf ⟨_,ho,c⟩ F.slot_tuple_eq.lookup ?_);show wpAny _ A (isInstance (.ref a) (.type "tuple") >>= _) Q E s;refine aB (Ly ⟨_,ho,c⟩ isSubtype_tuple_tuple ?_);simp only[Bool.not_true,rH,nY];refine aB (rN ho hd (aB ?_));show wpAny _ A (forIn its.toArray _ _) _ E s;rw[<-Ln];refine wpAny_forIn_list _ (λl r t=>r.1=none/\t=s/\∀v∈l,∃x,Is s.heap (sS x) v) _ (λv l r t z=>?_) (λr t z=>?_) _ _ ⟨rfl,rfl,?_⟩
  ·obtain⟨_,rfl,p7⟩:=z;obtain⟨x,hx⟩:=p7 v lQ;exact aB (zhd (n:=6) hx (aM ⟨rfl,rfl,λy hy=>p7 y (iG _ hy)⟩))
  ·obtain⟨r1,r2⟩:=r;obtain⟨z1,rfl,_⟩:=z;cases z1;exact aM q
  ·intro v hv;have:∀{ks:List Kx} {us:List Value},jH s.heap (ks.map sS) us->∀v∈us,∃x,Is s.heap (sS x) v:=λ{ks}=>by
    induction ks with
    |nil=>intro us r v hv;cases r;cases hv
    |cons y ks ih=>
     intro us r v hv;cases r with
     |cons a r=>
      rcases iY.mp hv with rfl|hv
      ·exact⟨y,a⟩
      ·exact ih r v hv
   exact this r v (by simpa using hv)
end
noncomputable def jR(prog:Program)(w:World):HeapKind prog w (List Kx) where
 is:=λh k a=>Is h (ji k) (.ref a)
 hash:=qX
 draws:=λk=>u6 k+1
 room:=λA=>A.units+4<cLine
 inj:=λx y=>jU (R_ 3 x y Zq)
 keeps:=λ{h h' k a d o es ep} x ho hd hs=>zhW (λb xs ⟨q,e,c,n,z⟩=>⟨q,(hs.2 b λy=>by subst y;rw[ho] at e;cases e;rw[hd] at z;cases z).trans e,c,n,z⟩) (λb xs ⟨q,e,c,n,z⟩=>⟨q,(hs.2 b λy=>by subst y;rw[ho] at e;cases e;rw[hd] at z;cases z).trans e,c,n,z⟩) x
 pyHash:=λhu hk q=>zgZ (by lia) hk q
 eqBool:=λ{A E s x y a b Q} hu hx hy q=>CZ 3 (show A.units+3<cLine by lia) hx hy Zq _ _ _ _ q
 quiet:=λhk q=>zfX hk q
section
variable {K:W.Frag}{cA:Cl}{U U':Ph}{H H':Hp}{s:S}
theorem TupAt.kI(e:∀a,U'.z a->U.z a){a:Addr}{vs:List V}(h:TupAt K U H a vs):TupAt K U' H a vs:=h.imp (λ⟨p,n⟩=>⟨p,λz=>n (e a z)⟩) id
theorem LstAt.kI(e:∀a,U'.z a->U.z a){a:Addr}{vs:List V}(h:LstAt K U H a vs):LstAt K U' H a vs:=h.imp (λ⟨p,n⟩=>⟨p,λz=>n (e a z)⟩) id
theorem ExcAt.kI(e:∀a,U'.z a->U.z a){a:Addr}{c:Nat}{vs:List V}(h:ExcAt cA U H a c vs):ExcAt cA U' H a c vs:=
 ⟨λz=>h.1 (e a z),h.2.imp id λ⟨dx,p,n,q,l⟩=>⟨dx,p,λz=>n (e dx z),q,l⟩⟩
theorem qp.kI(e:∀a,U'.z a->U.z a){a:Addr}{c:Nat}{vs:List V}(h:qp cA U H a c vs):qp cA U' H a c vs:=⟨λz=>h.1 (e a z),h.2⟩
theorem Rep.kI(e:∀a,U'.z a->U.z a){d:D}{v:V}(h:Rep K cA U H d v):Rep K cA U' H d v:=
 Rep.rec (motive_1:=λd v _=>Rep K cA U' H d v) (motive_2:=λd v _=>aC K cA U' H d v) .non .bl .int .str (λh _ i=>.tup (h.kI e) i) (λh _ i=>.fl (h.kI e) i) (λh n=>.fd h (λz=>n (e _ z))) (λh _ i=>.exc (h.kI e) i) (λh _ i=>.ob (h.kI e) i) .any .nil (λ_ _ i j=>.cons i j) h
theorem aC.kI(e:∀a,U'.z a->U.z a){d:List D}{v:List V}(h:aC K cA U H d v):aC K cA U' H d v:=
 aC.rec (motive_1:=λd v _=>Rep K cA U' H d v) (motive_2:=λd v _=>aC K cA U' H d v) .non .bl .int .str (λh _ i=>.tup (h.kI e) i) (λh _ i=>.fl (h.kI e) i) (λh n=>.fd h (λz=>n (e _ z))) (λh _ i=>.exc (h.kI e) i) (λh _ i=>.ob (h.kI e) i) .any .nil (λ_ _ i j=>.cons i j) h
theorem lu.kI(e:∀a,U'.z a->U.z a){a:Addr}{o:SO}(h:lu K cA U H a o):lu K cA U' H a o:=h.map (λ_ _ q=>q) λ_ _ r=>r.kI e
theorem Rep.zl{d:D}{v:V}(h:Rep K cA U H d v)(l:List Addr):Rep K cA ⟨U.z,l⟩ H d v:=Rep.kI (U:=U) (U':=⟨U.z,l⟩) (λ_ z=>z) h
theorem aC.zl{d:List D}{v:List V}(h:aC K cA U H d v)(l:List Addr):aC K cA ⟨U.z,l⟩ H d v:=aC.kI (U:=U) (U':=⟨U.z,l⟩) (λ_ z=>z) h
theorem lu.zl{a:Addr}{o:SO}(h:lu K cA U H a o)(l:List Addr):lu K cA ⟨U.z,l⟩ H a o:=lu.kI (U:=U) (U':=⟨U.z,l⟩) (λ_ z=>z) h
noncomputable def adr(l:List Addr):List Nat->List Addr
 |[]=>[]
 |n::r=>match l[n]? with
  |some a=>a::adr l r
  |none=>adr l r
theorem FQ{l:List Addr}:∀{ns:List Nat} {a:Addr},a∈adr l ns->∃n∈ns,l[n]?=some a
 |[],a,h=>by cases h
 |n::r,a,h=>by
  unfold adr at h;cases e:l[n]? with
  |none=>
   simp only[e] at h;obtain⟨m,h1,h2⟩:=FQ h;exact⟨m,iG _ h1,h2⟩
  |some b=>
   simp only[e] at h;rcases iY.mp h with rfl|h
   ·exact⟨n,lQ,e⟩
   ·obtain⟨m,h1,h2⟩:=FQ h;exact⟨m,iG _ h1,h2⟩
theorem Zy{s:S}:∀{ns:List Nat} {s0:S} {i n:Nat},iQ s ns=some s0->ns[i]?=some n->s0[i]?=s[n]?/\∃o,s[n]?=some o
 |[],s0,i,n,h,e=>by simp at e
 |m::r,s0,i,n,h,e=>by
  unfold iQ at h;cases e1:s[m]? with
  |none=>simp only[e1] at h;cases h
  |some o=>
   cases e2:iQ s r with
   |none=>simp only[e1,e2] at h;cases h
   |some q=>
    simp only[e1,e2] at h;cases h;cases i with
    |zero=>simp at e;subst e;exact⟨by simp[e1],o,e1⟩
    |succ i=>simpa using Zy e2 (by simpa using e)
theorem Zz{s:S}:∀{ns:List Nat} {s0:S},iQ s ns=some s0->s0.length=ns.length
 |[],s0,h=>by cases h;rfl
 |m::r,s0,h=>by
  unfold iQ at h;cases e1:s[m]? with
  |none=>simp only[e1] at h;cases h
  |some o=>
   cases e2:iQ s r with
   |none=>simp only[e1,e2] at h;cases h
   |some q=>
    simp only[e1,e2] at h;cases h;rw[h_,h_,Zz e2]
theorem Jy{l:List Addr}:∀{ns:List Nat} {i n:Nat},(∀n∈ns,∃a,l[n]?=some a)->ns[i]?=some n->(adr l ns)[i]?=l[n]?
 |[],i,n,_,e=>by simp at e
 |m::r,i,n,h,e=>by
  obtain⟨a,ha⟩:=h m lQ;unfold adr;simp only[ha];cases i with
  |zero=>simp at e;subst e;simp[ha]
  |succ i=>simpa using Jy (λn hn=>h n (iG _ hn)) (by simpa using e)
theorem Jz{l:List Addr}:∀{ns:List Nat},(∀n∈ns,∃a,l[n]?=some a)->(adr l ns).length=ns.length
 |[],_=>rfl
 |m::r,h=>by
  obtain⟨a,ha⟩:=h m lQ;unfold adr;simp only[ha];rw[h_,h_,Jz (λn hn=>h n (iG _ hn))]
theorem ZC{l:List Addr}(hl:l.Nodup):∀{ns:List Nat},ns.Nodup->(∀n∈ns,∃a,l[n]?=some a)->(adr l ns).Nodup
 |[],_,_=>Az
 |m::r,hn,h=>by
  obtain⟨a,ha⟩:=h m lQ;unfold adr;simp only[ha];obtain⟨h1,h2⟩:=wN.mp hn;refine wN.mpr ⟨λz=>?_,ZC hl h2 (λn hn=>h n (iG _ hn))⟩;obtain⟨n,q1,q2⟩:=FQ z;have:m=n:=(PN (f9.mp ha).1 hl).mp (ha.trans q2.symm);exact h1 (this▸q1)
theorem FT{s:S}:∀{ns:List Nat} {s1:S},(dH s ns s1).length=s.length
 |[],s1=>by cases s1<;>rfl
 |n::r,[]=>rfl
 |n::r,o::q=>by
  show (dH (s.set n o) r q).length=_;rw[FT,pL]
theorem Sv{s:S}:∀{ns:List Nat} {s1:S} {m:Nat},m∉ns->(dH s ns s1)[m]?=s[m]?
 |[],s1,m,_=>by cases s1<;>rfl
 |n::r,[],m,_=>rfl
 |n::r,o::q,m,h=>by
  show (dH (s.set n o) r q)[m]?=_;rw[Sv (λz=>h (iG _ z)),qF (λz=>h (by rw[z];exact lQ))]
theorem ZD{s:S}:∀{ns:List Nat} {s1:S} {i m:Nat} {o:SO},ns.Nodup->ns[i]?=some m->s1[i]?=some o->m<s.length->(dH s ns s1)[m]?=some o
 |[],s1,i,m,o,_,e,_,_=>by simp at e
 |n::r,[],i,m,o,_,_,e,_=>by simp at e
 |n::r,q::qs,i,m,o,hn,e1,e2,hm=>by
  show (dH (s.set n q) r qs)[m]?=_;obtain⟨h1,h2⟩:=wN.mp hn;cases i with
  |zero=>
   simp at e1 e2;subst e1 e2;rw[Sv h1,yU hm]
  |succ i=>exact ZD h2 (by simpa using e1) (by simpa using e2) (by rw[pL];exact hm)
theorem zfw:∀{xs:List Xv} {vs:List V} (l0:List Addr) (z:Addr->Prop) (k:Nat),aQ K cA U H xs vs->U.z=z->(∀i n,(locs xs)[i]?=some n->l0[k+i]?=U.l[n]?)->aQ K cA ⟨z,l0⟩ H (dG k xs) vs
 :=by
 intro xs vs l0 z k r0
 induction r0 generalizing k with
 |nil=>exact λ_ _=>.nil
 |@cons x v xs vs a q ih=>
  intro ez h;cases a with
  |d a=>exact .cons (.d (a.kI λb hb=>by rw[ez];exact hb)) (ih k ez h)
  |@l n a' a=>
   refine .cons (.l ?_) (ih (k+1) ez λi m e=>?_)
   ·have:=h 0 n rfl;rw[Nat.add_zero] at this;show l0[k]?=_;rw[this];exact a
   ·have:=h (i+1) m (by simpa [locs] using e);rw[<-this]
    congr 1
    lia
theorem ze4:∀{xs:List Xv} {vs:List V},aQ K cA U H xs vs->∀n∈locs xs,∃a,U.l[n]?=some a
 :=by
 intro xs vs r0
 induction r0 with
 |nil=>exact λn h=>by cases h
 |cons a q ih=>
  intro n h;cases a with
  |d a=>exact ih n h
  |l a=>
   rcases iY.mp h with rfl|h
   ·exact⟨_,a⟩
   ·exact ih n h
theorem ZF{xs:List Xv}{U1:Ph}{s0 s1:S}(hS:aD K cA U H s)(hn:(locs xs).Nodup)(ht:∀n∈locs xs,∃a,U.l[n]?=some a)(x:Ext ⟨U.z,adr U.l (locs xs)⟩ H U1 H')(r1:aD K cA U1 H' s1) :
  Ext U H ⟨U1.z,U.l⟩ H'/\aD K cA ⟨U1.z,U.l⟩ H' (dH s (locs xs) s1):=by
 have aq:∀a∈adr U.l (locs xs),a∈U.l:=λa ha=>by obtain⟨n,_,q⟩:=FQ ha;exact gU q
 obtain⟨r,er,hr⟩:=x.more;have er:U1.l=adr U.l (locs xs)++r:=er;refine⟨⟨⟨[],by simp,by simp⟩,λa h=>x.qu a h,λa h=>x.kh a h,λa o h t n=>x.frame a o h t λz=>n (aq a z),x.stay⟩,?_⟩;refine⟨by rw[FT];exact hS.len,λn o a e1 e2=>?_,hS.uniq,λa ha=>x.qu a (hS.lz a ha),r1.zt⟩;have e2:U.l[n]?=some a:=e2;by_cases dX:n∈locs xs
 ·obtain⟨i,hi,ei⟩:=yW dX;have ei:(locs xs)[i]?=some n:=by rw[eU hi,ei]
  have ha:(adr U.l (locs xs))[i]?=some a:=by rw[Jy ht ei];exact e2
  have ZG:U1.l[i]?=some a:=by rw[er,pB (f9.mp ha).1];exact ha
  have cF:i<s1.length:=by rw[<-r1.len];exact(f9.mp ZG).1
  have hb:=ZD (s:=s) (s1:=s1) hn ei (eU cF) (by rw[<-hS.len];exact(f9.mp e2).1);rw[hb] at e1;cases e1;exact lu.zl (r1.obj i _ a (eU cF) ZG) _
 ·rw[Sv dX] at e1;have Sw:a∉adr U.l (locs xs):=λz=>by
   obtain⟨m,q1,q2⟩:=FQ z;have:n=m:=(PN (f9.mp e2).1 hS.uniq).mp (e2.trans q2.symm);exact dX (this▸q1)
  exact(hS.obj n o a e1 e2).map (λ_ t q=>x.frame a _ q t Sw) λ_ _ r=>Rep.zl ((Rep.zl r _).mono x λa ha=>hS.lz a (aq a ha)) _
theorem ZJ{F:List Xv->M Xv}{xs:List Xv}{vs:List V}{Q:VK}{EE:Nat->List D->Ph->Hp->Prop}(hS:aD K cA U H s)(r:aQ K cA U H xs vs)
  (hE:∀c fs U1 U2 H',U1.z=U2.z->EE c fs U1 H'->EE c fs U2 H')
  (h:Run K cA (b_ F xs) U H s (λx _ U' H'=>∀v,aU K cA U' H' x v->Q v H') (λc fs _ U' H'=>EE c fs U' H')) :
  ∃U0 s0,aQ K cA U0 H (dG 0 xs) vs/\aD K cA U0 H s0/\Run K cA (F (dG 0 xs)) U0 H s0 (λx _ U' H'=>∀v,aU K cA U' H' x v->Q v H') (λc fs _ U' H'=>EE c fs U' H'):=by
 unfold Run b_ at h;by_cases hn:(locs xs).Nodup
 ·simp only[if_pos hn] at h;have ht:=ze4 r;have aq:∀a∈adr U.l (locs xs),a∈U.l:=λa ha=>by obtain⟨n,_,q⟩:=FQ ha;exact gU q
  cases e0:iQ s (locs xs) with
  |none=>simp only[e0] at h
  |some s0=>
   simp only[e0] at h;refine⟨⟨U.z,adr U.l (locs xs)⟩,s0,zfw _ _ 0 r rfl (λi n e=>by rw[G3];exact Jy ht e),?_,?_⟩
   ·refine⟨by rw[Zz e0];exact Jz ht,λi o a e1 e2=>?_,ZC hS.uniq hn ht,λa ha=>hS.lz a (aq a ha),hS.zt⟩;have e2:(adr U.l (locs xs))[i]?=some a:=e2;have hi:i<(locs xs).length:=by rw[<-Jz ht];exact(f9.mp e2).1
    have ei:(locs xs)[i]?=some ((locs xs)[i]):=eU hi;rw[Jy ht ei] at e2;rw[(Zy e0 ei).1] at e1;exact lu.zl (hS.obj _ o a e1 e2) _
   ·unfold Run;cases e1:F (dG 0 xs) s0 with
    |none=>simp only[e1] at h
    |some q=>
     obtain⟨q,s1⟩:=q;simp only[e1] at h;cases q with
     |er c fs=>
      intro U1 H' x r1;obtain⟨x2,r2⟩:=ZF (s0:=s0) hS hn ht x r1;exact hE c fs ⟨U1.z,U.l⟩ U1 H' rfl (h ⟨U1.z,U.l⟩ H' x2 r2)
     |ok y=>
      intro U1 H' x r1 v rv;obtain⟨x2,r2⟩:=ZF (s0:=s0) hS hn ht x r1;cases y with
      |d w=>
       cases rv with
       |d rv=>exact h ⟨U1.z,U.l⟩ H' x2 r2 v (.d (Rep.zl rv _))
      |l n=>
       cases rv with
       |@l _ a hl=>
        obtain⟨rr,er,hr⟩:=x.more;have er:U1.l=adr U.l (locs xs)++rr:=er;cases em:(locs xs)[n]? with
        |some m=>
         simp only[em] at h;refine h _ H' x2 r2 _ (.l ?_);show U.l[m]?=some a;have ha:(adr U.l (locs xs))[n]?=U.l[m]?:=Jy ht em;have cF:n<(adr U.l (locs xs)).length:=by rw[Jz ht];exact(f9.mp em).1
         rw[er,pB cF] at hl;rw[<-ha];exact hl
        |none=>
         simp only[em] at h;have v7:(adr U.l (locs xs)).length<=n:=by rw[Jz ht];exact qD.mp em
         have Ft:a∈rr:=by
          rw[er,pJ v7] at hl;exact gU hl
         have Sw:a∉U.l:=λz=>by
          obtain⟨o,eo⟩:=hS.zt a (hS.lz a z);rw[hr a Ft] at eo;cases eo
         cases eo:s1[n]? with
         |none=>simp only[eo] at h
         |some o=>
          simp only[eo] at h;have ho:=r1.obj n o a eo hl;refine h ⟨U1.z,U.l++[a]⟩ H' ⟨⟨[a],rfl,by simpa using hr a Ft⟩,x2.qu,x2.kh,x2.frame,x2.stay⟩ ?_ _ (.l (by show (U.l++[a])[s.length]?=_;rw[<-hS.len];simp));refine⟨by show (U.l++[a]).length=_;rw[pC,pC,FT,hS.len];rfl,λm o' a' e1 e2=>?_,?_,λb hb=>?_,r1.zt⟩
          ·have e2:(U.l++[a])[m]?=some a':=e2;by_cases hm:m<s.length
           ·rw[pB (by rw[FT];exact hm)] at e1;rw[pB (by rw[hS.len];exact hm)] at e2;exact lu.zl (r2.obj m o' a' e1 e2) _
           ·have v8:m=s.length:=by
             have z:=(f9.mp e2).1;rw[pC,hS.len] at z;simp at z
             lia
            subst v8;rw[pJ (by rw[FT];exact cD _)] at e1;rw[pJ (by rw[hS.len];exact cD _)] at e2;simp[FT] at e1;simp[hS.len] at e2;subst e1 e2;exact lu.zl ho _
          ·show (U.l++[a]).Nodup;rw[Ls];refine⟨hS.uniq,by simp,λb hb c hc e=>?_⟩;simp at hc;subst hc e;exact Sw hb
          ·have hb:b∈U.l++[a]:=hb;rcases nJ.mp hb with z|z
           ·exact x2.qu b (hS.lz b z)
           ·simp at z;subst z;exact r1.lz _ (gU hl)
 ·simp only[if_neg hn] at h
end
section
variable {X:Cx}{cA:Cl}{aq:Nat->Nat->Bool}{aj:Bool}{F:Fn}{EX:XS}{a b c d e o:Expr}{A B C Dd E' O:E}{pos pp p2 apos cpos:Pos}{es:List Expr}{Xs:Es}{fz:Bool}{p:Pr}{x:Str}{U:Ph}{H:Hp}{s:S}
theorem Sx{K:W.Frag}{β:Type}{x:Xv}{v:V}{k:Nat×List D->M β}{P:β->S->Ph->Hp->Prop}{Ee:Nat->List D->S->Ph->Hp->Prop}(hS:aD K cA U H s)(r:aU K cA U H x v)(h:Run K cA (M.bd (dD x) k) U H s P Ee) :
  ∃n ad xs vs,x=.l n/\v=.ref ad/\s[n]?=some (.lst xs)/\U.l[n]?=some ad/\H ad=some (.lst vs)/\aC K cA U H xs vs/\Run K cA (k (n,xs)) U H s P Ee:=by
 cases r with
 |d _=>exact h.elim
 |@l n ad hl=>
  unfold Run M.bd dD at h;dsimp only at h;cases e:s[n]? with
  |none=>rw[e] at h;exact h.elim
  |some o=>
   rw[e] at h;cases o with
   |lst xs=>
    obtain⟨vs,q1,q2⟩:=hS.obj n _ _ e hl;exact⟨n,ad,xs,vs,rfl,rfl,e,hl,q1,q2,h⟩
   |_=>exact h.elim
theorem ziS(ho:SE X cA aq aj F EX o O)(ha:SE X cA aq aj F EX a A)
  (oE:attributeBase o "append" X.env (eval o X.env)=eval o X.env:=by rfl)
  (BP:((backTo cpos (starEach [a] X.env)).all (λx=>!x.1)&&(backToKw cpos (keywordEach [] X.env)).all (λx=>x.1.isSome)
  &&decide ([a].length+([]:List Keyword).length+(if ([]:List Keyword).isEmpty then 0 else 1)<30))=true:=by rfl)
  (oF:(apos.endLine==cpos.line)=true:=by rfl) (hs:starEach [a] X.env=(false,eval a X.env)::starEach [] X.env:=by rfl) (pZ:(backTo cpos (starEach [] X.env)).any (·.1)=false:=by rfl) :
  SE X cA aq aj F EX (.Call (.Attribute o "append" apos) [a] [] cpos) (.push O A):=PE.weak (znz PySem.F.plainAttrs_list PySem.F.slot_list_append PySem.F.type_list_append Q9 ho (rW ha xH hs) oE BP oF hs pZ) λZ H Q hh=>un hh λU J s hL hS h=>by
 refine bw hL hS h λx H1 U1 d1 s1 x1 hL1 aJ r1 h1=>?_;obtain⟨n,ad,xs,vs,rfl,rfl,e1,f1,g1,q1,h2⟩:=Sx aJ r1 h1;refine⟨.inl ⟨rfl,vs,dj.of g1⟩,bw hL1 aJ h2 λy H2 U2 d2 s2 x2 hL2 aR r2 h3=>?_⟩;obtain⟨dd,_,rd,h4⟩:=Nb r2 h3;obtain⟨n',ad',ys,us,en,ea,e2,f2,g2,q2,h5⟩:=Sx aR (r1.mono x2 aJ.lz) h4;cases en;cases ea;by_cases hz:ys.length<sizeLine
 ·have h5:Run X.K cA (M.bd (putL n (ys++[dd])) λ_=>M.ret (Xv.d .non)) U2 H2 s2 (λd _ U' H'=>∀v,aU X.K cA U' H' d v->Q v H') (eX X.K cA EX Z):=by
   have h6:Run X.K cA (if ys.length<sizeLine then M.bd (putL n (ys++[dd])) λ_=>M.ret (Xv.d .non) else M.no) U2 H2 s2 (λd _ U' H'=>∀v,aU X.K cA U' H' d v->Q v H') (eX X.K cA EX Z):=h5;rw[if_pos hz] at h6;exact h6
  refine⟨ad,us,y,rfl,rfl,g2,by rw[<-q2.len];exact hz,?_⟩;exact h5 U2 _ (Ext.write f2 ⟨_,g2⟩) (aR.write e2 f2 (q2.app (.cons rd .nil))) _ (.d .non)
 ·have h6:Run X.K cA (if ys.length<sizeLine then M.bd (putL n (ys++[dd])) λ_=>M.ret (Xv.d .non) else M.no) U2 H2 s2 (λd _ U' H'=>∀v,aU X.K cA U' H' d v->Q v H') (eX X.K cA EX Z):=h5;rw[if_neg hz] at h6;exact h6.elim
noncomputable def lM(K:W.Frag)(cA:Cl)(m:List Xv->M Xv):Sp:=λvs H Q E=>∃U xs s,aQ K cA U H xs vs/\aD K cA U H s/\Run K cA (m xs) U H s (λd _ U' H'=>∀v,aU K cA U' H' d v->Q v H') (λc fs _ U' H'=>∀dx,kE K cA U' H' c fs dx->E (.ref (cA.a c)) dx H')
theorem zjE{K:W.Frag}{U1 U2:Ph}{c:Nat}{fs:List D}{dx:Option Addr}(e:U1.z=U2.z)(h:kE K cA U2 H c fs dx):kE K cA U1 H c fs dx:=h.imp id λ⟨d,vs,a,b,c,l,r⟩=>⟨d,vs,a,by rw[e];exact b,c,l,r.kI λ_ z=>by rw[<-e];exact z⟩
theorem zjP{cm:Bool}{k f:Nat}{fa:Addr}{fd:FuncData}{ps:List Str}(Fo:cJ X.prog X.w X.K X.mg X.base (fL X.prog X.w) cm k fa fd ps (lM X.K cA (F f)))(jg:cm=true->X.aj=true)(hr:bC k X.A)(hg:Gl X x)(hm:X.mg x=some (.ref fa))(hk:PySem.W.keepIn X.K (.ref fa)=true)(hb:Binds X.K fd ps [])(R:Raises X EX)
  (ha:SA X cA aq aj F EX (e::es) Xs) (rZ:(x==("__debug__" : Str))=false:=by decide) (he:starEach (e::es) X.env=(false,eval e X.env)::starEach es X.env:=by rfl) (cO:(backTo pos (starEach es X.env)).any (·.1)=false:=by rfl) :
  SE X cA aq aj F EX (.Call (.Name x pp) (e::es) [] pos) (.call f Xs):=PE.weak (zhf Fo jg hr hg hm hk hb R ha rZ he cO) λZ H Q hh=>un hh λU J s hL hS h=>
 oV hL hS h λvs H1 U1 ds s1 x1 hL1 aJ r1 h1=>by
  obtain⟨U0,s0,a1,a2,a3⟩:=ZJ (EE:=λc fs U' H'=>∀dx,kE X.K cA U' H' c fs dx->EX Z (.ref (cA.a c)) dx H') aJ r1 (λc fs U1 U2 H' ez z dx q=>z dx (zjE ez q)) h1;exact⟨U0,_,s0,a1,a2,a3⟩
end
section
variable {K:W.Frag}{cA:Cl}{U U':Ph}{H H':Hp}{s:S}
def cR(U:Ph)(H H':Hp):Prop:=∀a o,H a=some o->¬U.z a->H' a=some o
mutual
theorem Rep.out(x:cR U H H'):∀{d:D} {v:V},Rep K cA U H d v->Rep K cA U H' d v
 |_,_,.non=>.non
 |_,_,.bl b=>.bl b
 |_,_,.int i=>.int i
 |_,_,.str z=>.str z
 |_,_,.tup h r=>.tup (h.imp (λ⟨p,n⟩=>⟨p.imp (λq=>x _ _ q n) λ⟨o,q⟩=>⟨o,x _ _ q n⟩,n⟩) id) (aC.out x r)
 |_,_,.fl h r=>.fl (h.imp (λ⟨p,n⟩=>⟨p.imp (λq=>x _ _ q n) λ⟨o,q⟩=>⟨o,x _ _ q n⟩,n⟩) id) (aC.out x r)
 |_,_,.fd h n=>.fd (x _ _ h n) n
 |_,_,.exc h r=>.exc ⟨h.1,h.2.imp (λ⟨a,b,q⟩=>⟨a,b,x _ _ q h.1⟩) λ⟨dx,p,n,q,l⟩=>⟨dx,x _ _ p h.1,n,x _ _ q n,l⟩⟩ (aC.out x r)
 |_,_,.any v=>.any v
 |_,_,.ob h r=>.ob ⟨h.1,let ⟨dx,p,l⟩:=h.2;⟨dx,x _ _ p h.1,l⟩⟩ (aC.out x r)
theorem aC.out(x:cR U H H'):∀{ds:List D} {vs:List V},aC K cA U H ds vs->aC K cA U H' ds vs
 |_,_,.nil=>.nil
 |_,_,.cons h r=>.cons (Rep.out x h) (aC.out x r)
end
theorem aU.out(x:cR U H H'){d:Xv}{v:V}(h:aU K cA U H d v):aU K cA U H' d v:=by
 cases h with
 |d h=>exact .d (h.out x)
 |l h=>exact .l h
theorem aY.out(x:cR U H H')(h:aY K cA U H Z J):aY K cA U H' Z J:=⟨h.1,λi d e=>let ⟨v,a,b⟩:=h.2 i d e;⟨v,a,b.out x⟩⟩
theorem cR.refl:cR U H H:=λa o e _=>e
structure jJ(K:W.Frag)(cA:Cl)(c:Src)(U:Ph)(H:Hp)(bf:L2.It):Prop where
 stop:∀U' H₁ H' s' i,Ext U H U' H₁->cR U' H₁ H'->aD K cA U' H' s'->c.at i s'=some none->bf.stop i H'
 go:∀U' H₁ H' s' i x,Ext U H U' H₁->cR U' H₁ H'->aD K cA U' H' s'->c.at i s'=some (some x)->bf.go i H'
 ux:∀U' H₁ H' s' i x v H2,Ext U H U' H₁->cR U' H₁ H'->aD K cA U' H' s'->c.at i s'=some (some x)->bf.ux i H' v H2->bG H' H2/\Rep K cA U' H2 x v
theorem LstAt.later(hz:∀a∈U.l,U.z a)(h:LstAt K U H a vs)(x:Ext U H U' H₁)(o:cR U' H₁ H'):LstAt K U' H' a vs:=
 (h.mono x hz).imp (λ⟨p,n⟩=>⟨p.imp (λq=>o _ _ q n) λ⟨w,q⟩=>⟨w,o _ _ q n⟩,n⟩) id
theorem TupAt.later(hz:∀a∈U.l,U.z a)(h:TupAt K U H a vs)(x:Ext U H U' H₁)(o:cR U' H₁ H'):TupAt K U' H' a vs:=
 (h.mono x hz).imp (λ⟨p,n⟩=>⟨p.imp (λq=>o _ _ q n) λ⟨w,q⟩=>⟨w,o _ _ q n⟩,n⟩) id
theorem jJ.list(hz:∀a∈U.l,U.z a)(h:LstAt K U H a vs)(r:aC K cA U H xs vs):jJ K cA (.fix xs) U H (Mu K a):=by
 refine⟨λU' H₁ H' s' i x o hS e=>⟨vs,(h.later hz x o).sU,?_⟩,λU' H₁ H' s' i d x o hS e=>?_,λU' H₁ H' s' i d v H2 x o hS e y=>?_⟩
 ·have e:xs[i]?=none:=cW e;exact qD.mp ((r.mono x hz).none e)
 ·have e:xs[i]?=some d:=cW e;obtain⟨v,q,_⟩:=r.get e;exact⟨vs,v,(h.later hz x o).sU,q⟩
 ·have e:xs[i]?=some d:=cW e;obtain⟨rfl,y⟩:=y;obtain⟨w,q,lH⟩:=((r.mono x hz).out o).get e;have:=y vs (h.later hz x o).sU;rw[q] at this;cases this;exact⟨bG.refl,lH⟩
theorem jJ.tuple(hz:∀a∈U.l,U.z a)(h:TupAt K U H a vs)(r:aC K cA U H xs vs):jJ K cA (.fix xs) U H (Qy K a):=by
 refine⟨λU' H₁ H' s' i x o hS e=>⟨vs,(h.later hz x o).ju,?_⟩,λU' H₁ H' s' i d x o hS e=>?_,λU' H₁ H' s' i d v H2 x o hS e y=>?_⟩
 ·have e:xs[i]?=none:=cW e;exact qD.mp ((r.mono x hz).none e)
 ·have e:xs[i]?=some d:=cW e;obtain⟨v,q,_⟩:=r.get e;exact⟨vs,v,(h.later hz x o).ju,q⟩
 ·have e:xs[i]?=some d:=cW e;obtain⟨rfl,y⟩:=y;obtain⟨w,q,lH⟩:=((r.mono x hz).out o).get e;have:=y vs (h.later hz x o).ju;rw[q] at this;cases this;exact⟨bG.refl,lH⟩
theorem Sy(h:(Src.live n).at i s=some o):∃xs,s[n]?=some (.lst xs)/\xs[i]?=o:=by
 unfold Src.at at h;dsimp only at h;cases e:s[n]? with
 |none=>rw[e] at h;cases h
 |some ob=>
  rw[e] at h;cases ob with
  |lst xs=>exact⟨xs,rfl,cW h⟩
  |_=>cases h
theorem jJ.live(h:U.l[n]?=some a):jJ K cA (.live n) U H (Mu K a):=by
 refine⟨λU' H₁ H' s' i x o hS e=>?_,λU' H₁ H' s' i d x o hS e=>?_,λU' H₁ H' s' i d v H2 x o hS e y=>?_⟩
 ·obtain⟨xs,e1,e2⟩:=Sy e;obtain⟨vs,q1,q2⟩:=hS.obj n _ a e1 (x.get h);exact⟨vs,dj.of q1,qD.mp (q2.none e2)⟩
 ·obtain⟨xs,e1,e2⟩:=Sy e;obtain⟨vs,q1,q2⟩:=hS.obj n _ a e1 (x.get h);obtain⟨v,q3,_⟩:=q2.get e2;exact⟨vs,v,dj.of q1,q3⟩
 ·obtain⟨xs,e1,e2⟩:=Sy e;obtain⟨vs,q1,q2⟩:=hS.obj n _ a e1 (x.get h);obtain⟨w,q3,lH⟩:=q2.get e2;obtain⟨rfl,y⟩:=y;have:=y vs (dj.of q1);rw[q3] at this;cases this;exact⟨bG.refl,lH⟩
theorem SJ:(mF a b)[i]?=if i<(b-a).toNat then some (.int (a+i)) else none:=by
 unfold mF;rw[jN,List.getElem?_range']
where
 List.getElem?_range' {n i:Nat}:Option.map (λ(i:Nat)=>D.int (a+i)) (List.range n)[i]?=if i<n then some (.int (a+i)) else none:=by
  by_cases h:i<n
  ·rw[if_pos h,Gy h];rfl
  ·rw[if_neg h,List.getElem?_eq_none (by simp;lia)];rfl
theorem jJ.range{a b:Int}:jJ K cA (.fix (mF a b)) U H (HF a (b-a).toNat):=by
 refine⟨λU' H₁ H' s' i x o hS e=>?_,λU' H₁ H' s' i d x o hS e=>?_,λU' H₁ H' s' i d v H2 x o hS e y=>?_⟩
 ·have e:(mF a b)[i]?=none:=cW e;rw[SJ] at e;split at e
  ·cases e
  ·exact Lw (by assumption)
 ·have e:(mF a b)[i]?=some d:=cW e;rw[SJ] at e;split at e
  ·assumption
  ·cases e
 ·have e:(mF a b)[i]?=some d:=cW e;rw[SJ] at e;split at e
  ·cases e;obtain⟨rfl,rfl⟩:=y;exact⟨bG.refl,.int _⟩
  ·cases e
end
noncomputable def SM(K:W.Frag)(te:TE):TI:=λZ H R=>te Z H λv H1=>∃a,v=.ref a/\(((∃xs,dj K H1 a xs)/\R (Mu K a) H1)\/((∃xs,gw K H1 a xs)/\R (Qy K a) H1))
theorem zkr(he:PE X l te):PI X tg l (SM X.K te):=by
 intro ao s Z H R I h;refine aV (he ao s Z H _ I h) λv s1 hx=>Qa hx λx H1 I1 r1 a e q=>?_;subst e;cases r1;rcases q with ⟨⟨xs,hq⟩,q⟩|⟨⟨xs,hq⟩,q⟩
 ·obtain⟨its,rv,p,hz⟩:=I1.list hq;refine GJ p.isList ?_;refine⟨s1.heap.objs.size,[s1.heap.objs.size],_,_,H1,rfl,I1.kept (t':=s1.toks) λb o e=>cG _ e,zgA a _,⟨_,eE _ rfl,rfl,rfl⟩,λb hb=>?_,q⟩;have e:b=s1.heap.objs.size:=by simpa using hb
  subst e;exact I1.uy (cD _) (I1.hok.fresh (cD _))
 ·obtain⟨its,rv,p,hz⟩:=I1.tuple hq;refine wpAny_pyIter_tuple (show s1.heap.IsTuple a its.toArray from p) ?_;refine⟨s1.heap.objs.size,[s1.heap.objs.size],_,_,H1,rfl,I1.kept (t':=s1.toks) λb o e=>cG _ e,zfo a _,⟨_,eE _ rfl,rfl,rfl⟩,λb hb=>?_,q⟩;have e:b=s1.heap.objs.size:=by simpa using hb
  subst e;exact I1.uy (cD _) (I1.hok.fresh (cD _))
section
variable {X:Cx}{cA:Cl}{aq:Nat->Nat->Bool}{aj:Bool}{F:Fn}{EX:XS}{a b tg:Expr}{A B:E}{pos pp:Pos}
noncomputable def tI(K:W.Frag)(cA:Cl)(EX:XS)(m:Vs->M (Src×Nat)):TI:=λZ H R=>∃U J s,aY K cA U H Z J/\aD K cA U H s/\Run K cA (m J) U H s (λcn _ U1 H1=>∀bf,jJ K cA cn.1 U1 H1 bf->R bf H1) (eX K cA EX Z)
def SI(X:Cx)(cA:Cl)(aq:Nat->Nat->Bool)(aj:Bool)(F:Fn)(EX:XS)(tg iter:Expr)(w:Wk):Prop:=PI X tg iter (tI X.K cA EX (gO aq aj F w))
theorem PI.weak{iter:Expr}{t t':TI}(h:PI X tg iter t)(f:∀Z H Q,t' Z H Q->t Z H Q):PI X tg iter t':=λao s Z H Q I q=>h ao s Z H Q I (f Z H Q q)
theorem zly(ha:SE X cA aq aj F EX a A):SI X cA aq aj F EX tg a (.seq A):=PI.weak (zkr ha) λZ H R hh=>un hh λU J s hL hS h=>by
 refine bw hL hS h λv H1 U1 d s1 x1 hL1 aJ r1 h1=>?_;cases r1 with
 |@l n ad hl=>
  unfold Run src at h1;dsimp only at h1;cases e:s1[n]? with
  |none=>rw[e] at h1;exact h1.elim
  |some o=>
   rw[e] at h1;cases o with
   |lst xs=>
    obtain⟨vs,q1,q2⟩:=aJ.obj n _ _ e hl;exact⟨ad,rfl,.inl ⟨⟨vs,dj.of q1⟩,h1 U1 H1 Ext.refl aJ _ (jJ.live hl)⟩⟩
   |_=>exact h1.elim
 |d r1=>
  cases r1 with
  |tup q r=>exact⟨_,rfl,.inr ⟨⟨_,q.ju⟩,h1 U1 H1 Ext.refl aJ _ (jJ.tuple aJ.lz q r)⟩⟩
  |fl q r=>exact⟨_,rfl,.inl ⟨⟨_,q.sU⟩,h1 U1 H1 Ext.refl aJ _ (jJ.list aJ.lz q r)⟩⟩
  |_=>exact h1.elim
theorem ZK{i:Int}(h:gF i=true) : -(2^62)<=i/\i<2^62:=by
 unfold gF at h;rw[fu,yZ,yZ] at h;exact⟨by lia,h.2⟩
theorem ZL{K:W.Frag}{U:Ph}{H:Hp}{s:S}{i j:Int}{P:Src×Nat->S->Ph->Hp->Prop}{Ee:Nat->List D->S->Ph->Hp->Prop}(hS:aD K cA U H s)(h:Run K cA (if (gF i&&gF j)=true then M.ret (Src.fix (mF i j),(mF i j).length) else M.no) U H s P Ee):(-(2^62)<=i/\i<2^62/\-(2^62)<=j/\j<2^62)/\P (.fix (mF i j),(mF i j).length) s U H:=by
 by_cases hk:(gF i&&gF j)=true
 ·rw[if_pos hk] at h;rw[fu] at hk;obtain⟨a,b⟩:=ZK hk.1;obtain⟨c,d⟩:=ZK hk.2;exact⟨⟨a,b,c,d⟩,h.bK hS⟩
 ·rw[if_neg hk] at h;exact h.elim
theorem zmL(qw:Gl X "range")(hmg:X.mg "range"=none)(ha:SE X cA aq aj F EX a A)(hb:SE X cA aq aj F EX b B)(h1:starEach [a,b] X.env=(false,eval a X.env)::starEach [b] X.env)(h2:starEach [b] X.env=(false,eval b X.env)::starEach [] X.env) :
  SI X cA aq aj F EX tg (.Call (.Name "range" pp) [a,b] [] pos) (.rg A B):=PI.weak (zgC qw hmg (rW ha (rW hb xH h2) h1) (by rw[h1,h2];rfl) (by rw[h2];rfl)) λZ H R hh=>un hh λU J s hL hS h=>by
 refine bw hL hS h λx H1 U1 d1 s1 x1 hL1 aJ r1 h1=>bw hL1 aJ h1 λy H2 U2 d2 s2 x2 hL2 aR r2 h2=>?_;obtain⟨i,_,e1,h3⟩:=CW (r1.mono x2 aJ.lz) h2;obtain⟨j,_,e2,h4⟩:=CW r2 h3;obtain⟨hz,q⟩:=ZL aR h4;subst e1 e2;exact⟨i,j,rfl,hz,q _ jJ.range⟩
theorem zlf(qw:Gl X "range")(hmg:X.mg "range"=none)(hb:SE X cA aq aj F EX b B)(h2:starEach [b] X.env=(false,eval b X.env)::starEach [] X.env) :
  SI X cA aq aj F EX tg (.Call (.Name "range" pp) [b] [] pos) (.rg (.c (.int 0)) B):=PI.weak (zgE qw hmg (rW hb xH h2) (by rw[h2];rfl)) λZ H R hh=>un hh λU J s hL hS h=>by
 have h:Run X.K cA (M.bd (ev aq aj F B J) λy=>M.bd (int (.d (.int 0))) λi=>M.bd (int y) λj=>if (gF i&&gF j)=true then M.ret (Src.fix (mF i j),(mF i j).length) else M.no) U H s _ _:=h;refine bw hL hS h λy H2 U2 d2 s2 x2 hL2 aR r2 h2=>?_;obtain⟨j,_,e2,h4⟩:=CW r2 (show Run X.K cA (M.bd (int d2) λj=>if (gF 0&&gF j)=true then M.ret (Src.fix (mF 0 j),(mF 0 j).length) else M.no) U2 H2 s2 _ _ from h2);obtain⟨hz,q⟩:=ZL aR h4;subst e2;refine⟨j,rfl,hz.2.2.1,hz.2.2.2,q _ ?_⟩;have:=jJ.range (K:=X.K) (cA:=cA) (U:=U2) (H:=H2) (a:=0) (b:=j);rw[Int.sub_zero] at this;exact this
end
section
variable {K:W.Frag}{cA:Cl}{U U' U0:Ph}{H H' H0:Hp}{s:S}
theorem Run.bd0(x:Ext U0 H0 U H)(h:Run K cA (M.bd m k) U0 H0 s P Ee) :
  Run K cA m U H s (λa s1 U1 H1=>Ext U H U1 H1/\aD K cA U1 H1 s1/\Run K cA (k a) U0 H0 s1 P Ee) Ee:=by
 unfold Run M.bd at *;cases e:m s with
 |none=>rw[e] at h;exact h
 |some r=>
  obtain⟨r,s1⟩:=r;rw[e] at h;cases r with
  |er c f=>exact λU1 H1 x1 r1=>h U1 H1 (x.trans x1) r1
  |ok a=>exact λU1 H1 x1 r1=>⟨x1,r1,h⟩
theorem JD{α β:Type}{m:M α}{k:α->M β}{P:β->S->Ph->Hp->Prop}{Ee Ee':Nat->List D->S->Ph->Hp->Prop}(x:Ext U0 H0 U H)(h:Run K cA (M.bd (M.qt m) k) U0 H0 s P Ee) :
  Run K cA m U H s (λa s1 U1 H1=>Ext U H U1 H1/\aD K cA U1 H1 s1/\Run K cA (k a) U0 H0 s1 P Ee) Ee':=by
 have h2:=h.bd0 x;unfold Run at h2 ⊢;unfold M.qt at h2;cases e:m s with
 |none=>rw[e] at h2;exact h2
 |some r=>
  obtain⟨r,s1⟩:=r;rw[e] at h2;cases r with
  |ok a=>exact h2
  |er c f=>exact h2.elim
theorem SN{α β:Type}{m m':M α}{k:α->M β}{P:β->S->Ph->Hp->Prop}{Ee:Nat->List D->S->Ph->Hp->Prop}(e:m s=m' s)(h:Run K cA (M.bd m k) U H s P Ee):Run K cA (M.bd m' k) U H s P Ee:=by
 unfold Run M.bd at *;rw[<-e];exact h
end
section
variable {X:Cx}{cA:Cl}{aq:Nat->Nat->Bool}{aj:Bool}{F:Fn}{EX:XS}{elt iter tg:Expr}{A B:E}{pos p:Pos}{ifs:List Expr}{scope:Scope}{N:List Str}{cond:Eo}{fr aP:List Nat}{many:Nat}{fz:Bool}{w:Wk}
def FW(X:Cx)(cA:Cl)(aq:Nat->Nat->Bool)(aj:Bool)(F:Fn)(EX:XS)(ifs:List Expr)(m:Eo):Prop:=Fq X ifs (qY X.K cA EX (m_ aq aj F m))
theorem zlX:FW X cA aq aj F EX [] .no:=λao s Z H Q I ⟨U,J,st,hL,hS,h⟩=>zj0 ao s Z H Q I (h.bK hS)
theorem ziQ(h:ST X cA aq aj F EX c C):FW X cA aq aj F EX [c] (.yes C):=zkc h
structure gJ(K:W.Frag)(cA:Cl)(g:TG)(aP:List Nat):Prop where
 run:∀(U:Ph) (H:Hp) (s:S) (Z:L2.St) (J J':Vs) (d:D) (v:V) (Q:L2.St->Hp->Prop),aY K cA U H Z J->aD K cA U H s->Rep K cA U H d v->fP aP d J=some J'->
  (∀Z',aY K cA U H Z' J'->Z'.length=Z.length->(∀i,i∉aP->Z'[i]?=Z[i]?)->Q Z' H)->g v Z H Q
theorem mJ{K:W.Frag}(i:Nat):gJ K cA (dW i) [i] where
 run:=λU H s Z J J' d v Q hL hS r e k=>by
  cases e;exact k _ (hL.set (.d r)) (pL ..) λj hj=>qF (by simpa using λz=>hj (by simp[z]))
theorem JF{K:W.Frag}(i j:Nat):gJ K cA (ur K 2 (iJ (dW i) (iJ (dW j) uq))) [i,j] where
 run:=λU H s Z J J' d v Q hL hS r e k=>by
  have e:(j_ d).bind (λds=>gH [i,j] (ds.map Xv.d) J)=some J':=e;obtain⟨ds,e1,e2⟩:=yS.mp e;cases r with
  |@tup ad xs vs h1 h2=>
   have e1:xs=ds:=cW e1;subst e1;cases h2 with
   |nil=>cases e2
   |cons r1 t1=>
    cases t1 with
    |nil=>cases e2
    |cons r2 t2=>
     cases t2 with
     |nil=>
      have e2:=cW e2;subst e2;refine⟨ad,_,rfl,h1.ju,rfl,_,_,rfl,_,_,rfl,rfl,k _ ((hL.set (.d r1)).set (.d r2)) (by rw[pL,pL]) λm hm=>?_⟩;rw[qF (λz=>hm (by simp[z])),qF (λz=>hm (by simp[z]))]
     |cons r3 t3=>cases e2
  |_=>cases e1
noncomputable def bL(many:Nat)(fr:List Nat)(Z:L2.St):L2.St:=List.replicate many none++fr.map λj=>(Z[j]?).join
theorem ZM{U:Ph}{H:Hp}{Z:L2.St}{J:Vs}(hL:aY X.K cA U H Z J){Z':L2.St}(hl:Z'.length=many+fr.length)(hf:∀(i:Nat) j v,fr[i]?=some j->Z[j]?=some (some v)->Z'[many+i]?=some (some v)):aY X.K cA U H Z' (blk many fr J):=by
 refine⟨by unfold blk;simp[hl],λi d e=>?_⟩;unfold blk at e;by_cases hi:i<many
 ·rw[pB (by simpa using hi),Al,if_pos hi] at e;cases e
 ·rw[pJ (by simpa using Lw hi),Gv,jN] at e;cases z:fr[i-many]? with
  |none=>rw[z] at e;cases e
  |some j=>
   rw[z] at e;have e3:J[j]?.join=some d:=by simpa using e
   obtain⟨v,q1,q2⟩:=hL.2 j d (Ng e3);refine⟨v,?_,q2⟩;have:=hf (i-many) j v z q1;rw[show many+(i-many)=i by omega] at this;exact this
structure fQ(U:Ph)(H:Hp)(Dd:Addr)(o:HO):Prop where
 at_:H Dd=some o
 nl:Dd∉U.l
 z:U.z Dd
 t:NT o:=by exact trivial
abbrev Keep(U:Ph)(H:Hp)(Dd:Addr)(vs:List V):Prop:=fQ U H Dd (.lst vs)
theorem fQ.mono{U U':Ph}{H H':Hp}{Dd:Addr}{o:HO}(x:Ext U H U' H')(k:fQ U H Dd o):fQ U' H' Dd o:=by
 refine⟨x.frame _ _ k.at_ k.t k.nl,λz=>?_,x.qu _ k.z,k.t⟩;obtain⟨r,er,hr⟩:=x.more;rw[er] at z;rcases nJ.mp z with z|z
 ·exact k.nl z
 ·have:=hr _ z;rw[k.at_] at this;cases this
theorem fQ.ext{U:Ph}{H:Hp}{Dd:Addr}{o u:HO}(k:fQ U H Dd o)(tu:NT u:=by exact trivial):(∀a o,H a=some o->¬U.z a->(upd H Dd u) a=some o)/\fQ U (upd H Dd u) Dd u:=
 ⟨λa o e n=>by rw[bZ (λz=>n (by rw[z];exact k.z))];exact e,iH,k.nl,k.z,tu⟩
end
section
variable {K:W.Frag}{cA:Cl}{U U':Ph}{H H':Hp}
theorem aD.keep{s:S}{Dd:Addr}{o u:HO}(h:aD K cA U H s)(k:fQ U H Dd o)(tu:NT u:=by exact trivial):aD K cA U (upd H Dd u) s:=by
 have x:cR U H (upd H Dd u):=(k.ext tu).1;refine⟨h.len,λn o a e1 e2=>?_,h.uniq,h.lz,λa z=>?_⟩
 ·have na:a≠Dd:=λy=>k.nl (by rw[<-y];exact gU e2);exact(h.obj n o a e1 e2).map (λ_ _ q=>by rw[bZ na];exact q) λ_ _ r=>r.out x
 ·by_cases e:a=Dd
  ·subst e;exact⟨_,iH⟩
  ·obtain⟨o,q⟩:=h.zt a z;exact⟨o,by rw[bZ e];exact q⟩
theorem Ext.keep{U1:Ph}{H1:Hp}{Dd:Addr}{vs:List V}{u:HO}(x:Ext U1 H1 U H)(hD:H1 Dd=none):Ext U1 H1 U (upd H Dd u):=by
 refine⟨x.more,x.qu,x.kh,λa o h t n=>?_,λa o h=>?_⟩
 ·rw[bZ (λz=>by rw[z,hD] at h;cases h)];exact x.frame a o h t n
 ·rw[bZ (λz=>by rw[z,hD] at h;cases h)];exact x.stay a o h
theorem ZP{U1:Ph}{H1:Hp}{s':S}{fz:Bool}{acc:List D}{vs:List V}{Dd:Addr}{Q:VK}{Ee:Nat->List D->S->Ph->Hp->Prop}(h:Run K cA (newL fz acc) U1 H1 s' (λd _ U' H'=>∀v,aU K cA U' H' d v->Q v H') Ee)
  (x2:Ext U1 H1 U' H') (hD:H1 Dd=none) (nz:¬U1.z Dd) (aR:aD K cA U' H' s') (k:Keep U' H' Dd vs) (pG:aC K cA U' H' acc vs):Q (.ref Dd) H':=by
 cases fz with
 |true=>
  have zq:∀a,(λa=>U'.z a/\a≠Dd) a->U'.z a:=λa z=>z.1;refine h ⟨λa=>U'.z a/\a≠Dd,U'.l⟩ H' ⟨x2.more,λa z=>⟨x2.qu a z,λe=>nz (by rw[<-e];exact z)⟩,λa z=>x2.kh a z.1,x2.frame,x2.stay⟩ ?_ _ (.d (.fl (.inl ⟨.inl k.at_,λz=>z.2 rfl⟩) (aC.kI (U:=U') zq pG)));refine⟨aR.len,λn o a e1 e2=>lu.kI (U:=U') zq (aR.obj n o a e1 e2),aR.uniq,λa ha=>⟨aR.lz a ha,λe=>k.nl (by rw[<-e];exact ha)⟩,λa z=>aR.zt a z.1⟩
 |false=>
  obtain⟨r,er,hr⟩:=x2.more;refine h ⟨U'.z,U'.l++[Dd]⟩ H' ⟨⟨r++[Dd],by show U'.l++[Dd]=_;rw[er,Lq],λb hb=>?_⟩,x2.qu,x2.kh,x2.frame,x2.stay⟩ ?_ _ (.l (by show (U'.l++[Dd])[s'.length]?=_;rw[<-aR.len];simp))
  ·rcases nJ.mp hb with z|z
   ·exact hr b z
   ·simp at z;subst z;exact hD
  ·refine⟨by show (U'.l++[Dd]).length=_;rw[pC,pC,aR.len];rfl,λm o' a' e1 e2=>?_,?_,λb hb=>?_,aR.zt⟩
   ·have e2:(U'.l++[Dd])[m]?=some a':=e2;by_cases hm:m<s'.length
    ·rw[pB hm] at e1;rw[pB (by rw[aR.len];exact hm)] at e2;exact lu.zl (aR.obj m o' a' e1 e2) _
    ·have v8:m=s'.length:=by
      have z:=(f9.mp e2).1;rw[pC,aR.len] at z;simp at z;omega
     subst v8;rw[pJ (cD _)] at e1;rw[pJ (by rw[aR.len];exact cD _)] at e2;simp at e1;simp[aR.len] at e2;subst e1 e2;exact⟨vs,k.at_,aC.zl pG _⟩
   ·show (U'.l++[Dd]).Nodup;rw[Ls];refine⟨aR.uniq,by simp,λb hb c hc e=>?_⟩;simp at hc;subst hc e;exact k.nl hb
   ·have hb:b∈U'.l++[Dd]:=hb;rcases nJ.mp hb with z|z
    ·exact aR.lz b z
    ·simp at z;subst z;exact k.z
noncomputable def Ph.mark(U:Ph)(p:Addr):Ph:=⟨λa=>U.z a\/a=p,U.l⟩
theorem ZQ{s:S}{p:Addr}(hS:aD K cA U H s)(hp:H p=none):Ext U H (U.mark p) (upd H p (.lst []))/\aD K cA (U.mark p) (upd H p (.lst [])) s/\Keep (U.mark p) (upd H p (.lst [])) p []:=by
 have g:=bG.new (o:=.lst []) hp;have nz:=hS.nz hp;refine⟨⟨⟨[],by simp[Ph.mark],by simp⟩,λa z=>.inl z,λa z=>z.imp id λe=>by rw[e];exact hp,λa o h _ _=>g a o h,λa o h=>⟨o,g a o h⟩⟩,⟨hS.len,λn o a e1 e2=>?_,hS.uniq,λa ha=>.inl (hS.lz a ha),λa z=>?_⟩,iH,λz=>nz (hS.lz p z),.inr rfl,trivial⟩
 ·have x:Ext U H (U.mark p) (upd H p (.lst [])):=⟨⟨[],by simp[Ph.mark],by simp⟩,λa z=>.inl z,λa z=>z.imp id λe=>by rw[e];exact hp,λa o h _ _=>g a o h,λa o h=>⟨o,g a o h⟩⟩;exact(hS.obj n o a e1 e2).map (λu _=>g _ u) λ_ _ r=>r.mono x hS.lz
 ·rcases z with z|z
  ·obtain⟨o,e⟩:=hS.zt a z;exact⟨o,g _ _ e⟩
  ·subst z;exact⟨_,iH⟩
end
section
variable {X:Cx}{cA:Cl}{aq:Nat->Nat->Bool}{aj:Bool}{F:Fn}{EX:XS}{elt iter tg:Expr}{A B:E}{pos p:Pos}{ifs:List Expr}{scope:Scope}{N:List Str}{cond:Eo}{fr aP:List Nat}{many:Nat}{fz:Bool}{w:Wk}
noncomputable abbrev cg(aq:Nat->Nat->Bool)(aj:Bool)(F:Fn)(B:E)(cond:Eo)(aP:List Nat)(Jb:Vs):D->List D->M (List D):=λd acc=>M.bd (M.opt (fP aP d Jb)) λJ'=>M.bd (M.qt (m_ aq aj F cond J')) λok=>
    if ok=true then M.bd (M.qt (ev aq aj F B J')) λy=>M.bd (dat y) λe=>if acc.length<sizeLine then M.ret (acc++[e]) else M.no else M.ret acc
theorem FZ{H:Hp}{a:Addr}{o:HO}(h:H a=some o):upd H a o=H:=funext λb=>by
 by_cases z:b=a
 ·subst z;rw[iH,h]
 ·rw[bZ z]
theorem zg7{K:W.Frag}{g:TG}{U1 U':Ph}{H1 H2:Hp}{s':S}{Z':L2.St}{Jb:Vs}{Dd:Addr}{acc:List D}{vs:List V}{xi:D}{v:V}{β:Type}{kk:List D->M β}{P:β->S->Ph->Hp->Prop}{Ee:Nat->List D->S->Ph->Hp->Prop}(hT:gJ K cA g aP)(dX:∀i∈aP,i<many)
  (hD:H1 Dd=none) (x2:Ext U1 H1 U' H2) (hL2:aY K cA U' H2 Z' Jb) (aR:aD K cA U' H2 s') (kp:Keep U' H2 Dd vs) (pG:aC K cA U' H2 acc vs) (rx:Rep K cA U' H2 xi v)
  (h:Run K cA (M.bd (cg aq aj F B cond aP Jb xi acc) kk) U1 H1 s' P Ee) {Nn:L2.St->Hp->Prop}
  (hN:∀Z3 H3 U3 s3 nA yh,Z3.length=Z'.length->(∀i,many<=i->Z3[i]?=Z'[i]?)->Ext U1 H1 U3 H3->Ext U' H2 U3 (upd H3 Dd (.lst vs))->aD K cA U3 H3 s3->Keep U3 H3 Dd yh->aC K cA U3 H3 nA yh->Run K cA (kk nA) U1 H1 s3 P Ee->Nn Z3 H3) :
  g v Z' H2 λZ3 H3=>qY K cA (λ_ _ _ _=>False) (m_ aq aj F cond) Z3 H3 λok H4=>
   if ok=true then tE K cA (λ_ _ _ _=>False) (ev aq aj F B) Z3 H4 λy H5=>∃ys,H5 Dd=some (.lst ys)/\ys.length<sizeLine/\Nn Z3 (upd H5 Dd (.lst (ys++[y]))) else Nn Z3 H4:=by
 unfold cg at h;rw[gP] at h;obtain⟨J',e1,h1⟩:=Run.nu h;refine hT.run U' H2 s' Z' Jb J' xi v _ hL2 aR rx e1 λZ3 oW Dg Ga=>?_;rw[gP] at h1;have kf:∀i,many<=i->Z3[i]?=Z'[i]?:=λi hi=>Ga i λz=>absurd (dX i z) (EY.mpr hi);refine⟨U',J',s',oW,aR,(JD x2 h1).imp λok s4 U4 H4 ⟨x4,qZ,h6⟩=>?_⟩;cases ok with
 |false=>
  refine iF (hN Z3 H4 U4 s4 acc vs Dg kf (x2.trans x4) (by rw[FZ (kp.mono x4).at_];exact x4) qZ (kp.mono x4) (pG.mono x4 aR.lz) ?_);rw[if_neg (by decide)] at h6;exact h6
 |true=>
  rw[if_pos rfl,gP] at h6;refine iT ⟨U4,J',s4,oW.mono x4 aR.lz,qZ,(JD (x2.trans x4) h6).imp λy s5 U5 H5 ⟨x5,JM,h7⟩ u ru=>?_⟩;rw[gP] at h7;have k5:=(kp.mono x4).mono x5;have r5:=(pG.mono x4 aR.lz).mono x5 qZ.lz;have SQ:=(x2.trans x4).trans x5;obtain⟨dd,ey,rd,h8⟩ : ∃d,y=.d d/\Rep K cA U5 H5 d u/\Run K cA (M.bd (if acc.length<sizeLine then M.ret (acc++[d]) else M.no) kk) U1 H1 s5 P Ee:=by
   cases ru with
   |l _=>exact h7.elim
   |d r=>exact⟨_,rfl,r,h7⟩
  by_cases hz:acc.length<sizeLine
  ·rw[if_pos hz] at h8;refine⟨vs,k5.at_,by rw[<-r5.len];exact hz,?_⟩;have ox:cR U5 H5 (upd H5 Dd (.lst (vs++[u]))):=k5.ext.1;exact hN Z3 _ U5 s5 (acc++[dd]) (vs++[u]) Dg kf (Ext.keep (vs:=vs) SQ hD) (by rw[Xm,FZ k5.at_];exact x4.trans x5) (JM.keep k5) k5.ext.2 ((r5.app (.cons rd .nil)).out ox) h8
  ·rw[if_neg hz] at h8;exact h8.elim
theorem ZR{g:TG}{iter':Expr}(hT:gJ X.K cA g aP)(dX:∀i∈aP,i<many){Z:L2.St}{H:Hp}{Q:VK}(hh:tE X.K cA EX (ev aq aj F (.comp fz B aP w fr many cond)) Z H Q) :
  uK (tI X.K cA EX (gO aq aj F w)) (bL many fr) g (qY X.K cA (λ_ _ _ _=>False) (m_ aq aj F cond)) (tE X.K cA (λ_ _ _ _=>False) (ev aq aj F B)) Z H Q:=un hh λU J s hL hS h=>by
 by_cases dI:aj=true
 ·have h:Run X.K cA (if aj=true then M.bd (gO aq aj F w J) λcn=>M.bd (walk cn.1 (cg aq aj F B cond aP (blk many fr J)) (cn.2+1) 0 []) λxs=>newL fz xs else M.no) U H s (λd _ U' H'=>∀v,aU X.K cA U' H' d v->Q v H') (eX X.K cA EX Z):=h;rw[if_pos dI] at h;refine⟨U,J,s,hL,hS,h.bd.imp λcn s1 U1 H1 ⟨x1,aJ,h1⟩ bf hJ=>?_⟩;have hL1:=hL.mono x1 hS.lz;obtain⟨c,n⟩:=cn;dsimp only at h1 hJ;intro Dd hD;obtain⟨x0,SX,k0⟩:=ZQ aJ hD;have Dh:∀{Z':L2.St},(Z'.length=many+fr.length/\∀i,many<=i->Z'[i]?=(bL many fr Z)[i]?)->∀{U' H'},Ext U1 H1 U' H'->aY X.K cA U' H' Z' (blk many fr J):=λ{Z'} hZ {U' H'} x=>ZM (hL1.mono x aJ.lz) hZ.1 λi j v e1 e2=>by
   rw[hZ.2 _ (by omega)];unfold bL;rw[pJ (by simp),Gv,jN,show many+i-many=i by omega,e1];simp[e2]
  refine⟨λi m Z' H'=>m=n+1-i/\(Z'.length=many+fr.length/\∀i,many<=i->Z'[i]?=(bL many fr Z)[i]?)/\∃U' s' acc vs,Ext U1 H1 U' H'/\aD X.K cA U' H' s'/\Keep U' H' Dd vs/\aC X.K cA U' H' acc vs /\
   Run X.K cA (M.bd (walk c (cg aq aj F B cond aP (blk many fr J)) (n+1-i) i acc) λxs=>newL fz xs) U1 H1 s' (λd _ U' H'=>∀v,aU X.K cA U' H' d v->Q v H') (eX X.K cA EX Z),⟨n+1,rfl,⟨by simp[bL],λi _=>rfl⟩,U1.mark Dd,s1,[],[],x0,SX,k0,.nil,h1⟩,?_⟩
  rintro i m Z' H' ⟨rfl,hZ,U',s',acc,vs,x2,aR,kp,pG,h3⟩;have hL2:=Dh hZ x2;cases ek:n+1-i with
  |zero=>rw[ek] at h3;exact h3.elim
  |succ k=>
   rw[ek] at h3;cases ei:c.at i s' with
   |none=>
    exfalso
    unfold Run M.bd walk at h3;simp only[ei] at h3
   |some oi=>
    cases oi with
    |none=>
     refine .inl ⟨hJ.stop U' H' H' s' i x2 cR.refl aR ei,?_⟩;have h4:Run X.K cA (newL fz acc) U1 H1 s' (λd _ U' H'=>∀v,aU X.K cA U' H' d v->Q v H') (eX X.K cA EX Z):=by
      unfold Run M.bd walk at h3;simp only[ei] at h3;exact h3
     exact ZP h4 x2 hD (aJ.nz hD) aR kp pG
    |some xi=>
     refine .inr ⟨hJ.go U' H' H' s' i xi x2 cR.refl aR ei,λZ2 H2=>(Z2.length=many+fr.length/\∀i,many<=i->Z2[i]?=(bL many fr Z)[i]?)/\∃U' s' acc vs,Ext U1 H1 U' H2/\aD X.K cA U' H2 s'/\Keep U' H2 Dd vs/\aC X.K cA U' H2 acc vs /\
      Run X.K cA (M.bd (walk c (cg aq aj F B cond aP (blk many fr J)) k (i+1) acc) λxs=>newL fz xs) U1 H1 s' (λd _ U' H'=>∀v,aU X.K cA U' H' d v->Q v H') (eX X.K cA EX Z),λZ2 H2 hn=>⟨k,by omega,by omega,hn.1,?_⟩,λv H2 hy=>?_⟩
     ·have:n+1-(i+1)=k:=by omega
      rw[this];exact hn.2
     ·obtain⟨gr,rx⟩:=hJ.ux U' H' H' s' i xi v H2 x2 cR.refl aR ei hy;have h4:Run X.K cA (M.bd (cg aq aj F B cond aP (blk many fr J) xi acc) λacc'=>M.bd (walk c (cg aq aj F B cond aP (blk many fr J)) k (i+1) acc') λxs=>newL fz xs) U1 H1 s' (λd _ U' H'=>∀v,aU X.K cA U' H' d v->Q v H') (eX X.K cA EX Z):=by
       have h5:=SN (m':=M.bd (cg aq aj F B cond aP (blk many fr J) xi acc) λacc'=>walk c (cg aq aj F B cond aP (blk many fr J)) k (i+1) acc') (by rw[walk];simp only[ei]) h3;rw[gP] at h5;exact h5
      exact zg7 hT dX hD (x2.trans gr.ext) (hL2.mono gr.ext aR.lz) (aR.grow gr) (kp.mono gr.ext) (pG.mono gr.ext aR.lz) rx h4 λZ3 H3 U3 s3 nA yh l3 f3 x3 _ gQ k3 r3 h6=>⟨⟨l3.trans hZ.1,λi hi=>(f3 i hi).trans (hZ.2 i hi)⟩,U3,s3,nA,yh,x3,gQ,k3,r3,h6⟩
 ·have h:Run X.K cA (if aj=true then M.bd (gO aq aj F w J) λcn=>M.bd (walk cn.1 (cg aq aj F B cond aP (blk many fr J)) (cn.2+1) 0 []) λxs=>newL fz xs else M.no) U H s (λd _ U' H'=>∀v,aU X.K cA U' H' d v->Q v H') (eX X.K cA EX Z):=h;rw[if_neg dI] at h;exact h.elim
theorem S5{XN:List Str}(qQ:∀(i:Nat) (y:Str) (j:Nat),N[many+i]?=some y->fr[i]?=some j->scope.names.lookup y=some .free/\XN[j]?=some y)(Z:L2.St)(i:Nat)(x:Str)(v:V)(e1:N[i]?=some x)(e2:(bL many fr Z)[i]?=some (some v)):scope.names.lookup x=some .free/\∃j:Nat,XN[j]?=some x/\Z[j]?=some (some v):=by
 unfold bL at e2;by_cases hi:i<many
 ·rw[pB (by simpa using hi),Al,if_pos hi] at e2;cases e2
 ·rw[pJ (by simpa using Lw hi),Gv,jN] at e2;cases z:fr[i-many]? with
  |none=>rw[z] at e2;cases e2
  |some j=>
   rw[z] at e2;have e3:(Z[j]?).join=some v:=by simpa using e2
   obtain⟨a1,a2⟩:=qQ (i-many) x j (by rw[show many+(i-many)=i by omega];exact e1) z;exact⟨a1,j,a2,Ng e3⟩
theorem ZS{g:TG}(hc:X.aj=true)(B':cV X.env.scope scope)(hi:SI X cA aq aj F EX tg iter w)(hN:N.length=many+fr.length)
  (qQ:∀(i:Nat) (y:Str) (j:Nat),N[many+i]?=some y->fr[i]?=some j->scope.names.lookup y=some .free/\X.N[j]?=some y)
  (hg:∀cl C s3 H3 fp ao,PG (X.blk scope cl N C s3 H3 fp ao) tg g) (hT:gJ X.K cA g aP) (dX:∀i∈aP,i<many)
  (ht:∀cl C s3 H3 fp ao,FW (X.blk scope cl N C s3 H3 fp ao) cA aq aj F (λ_ _ _ _=>False) ifs cond) (he:∀cl C s3 H3 fp ao,SE (X.blk scope cl N C s3 H3 fp ao) cA aq aj F (λ_ _ _ _=>False) elt B)
  (hs:∀x,foldedSetIterable iter X.env x=pure x:=by intro _;rfl):SE X cA aq aj F EX (.ListComp elt [⟨tg,iter,ifs,0⟩] scope pos) (.comp fz B aP w fr many cond):=
 PE.weak (zi5 hc B' hi (⟨hg,ht,he⟩ : Parts X elt tg ifs scope N g (qY X.K cA (λ_ _ _ _=>False) (m_ aq aj F cond)) (tE X.K cA (λ_ _ _ _=>False) (ev aq aj F B))) (ZY:=bL many fr) (λZ=>by simp[bL,hN]) (λZ i x v e1 e2=>S5 qQ Z i x v e1 e2) hs) λZ H Q hh=>ZR (iter':=iter) hT dX hh
end
section
variable (K:W.Frag)(cA:Cl)
def aX(m:MS)(U:Ph)(H:Hp)(s:S)(D:Ends)(EX:XS):Prop:=match m s with
 |some (.nx J,s')=>∀U' H' Z',Ext U H U' H'->aD K cA U' H' s'->aY K cA U' H' Z' J->D.nx Z' H'
 |some (.bk J,s')=>∀U' H' Z',Ext U H U' H'->aD K cA U' H' s'->aY K cA U' H' Z' J->D.bk Z' H'
 |some (.ct J,s')=>∀U' H' Z',Ext U H U' H'->aD K cA U' H' s'->aY K cA U' H' Z' J->D.ct Z' H'
 |some (.rt d,s')=>∀U' H' v,Ext U H U' H'->aD K cA U' H' s'->aU K cA U' H' d v->D.rt v H'
 |some (.er c fs J,s')=>∀U' H' Z',Ext U H U' H'->aD K cA U' H' s'->aY K cA U' H' Z' J->∀dx,kE K cA U' H' c fs dx->EX Z' (.ref (cA.a c)) dx H'
 |none=>False
noncomputable def tS(EX:XS)(m:Vs->MS):TS:=λD Z H=>∃U J s,aY K cA U H Z J/\aD K cA U H s/\aX K cA (m J) U H s D EX
end
section
variable {K:W.Frag}{cA:Cl}{U U':Ph}{H H':Hp}{s:S}{Z:L2.St}{J:Vs}{EX:XS}{D:Ends}
theorem aX.ext{m:MS}(x:Ext U H U' H')(h:aX K cA m U H s D EX):aX K cA m U' H' s D EX:=by
 unfold aX at *;split at h<;>first
  |exact λU2 H2 a y r l=>h U2 H2 a (x.trans y) r l
  |exact h.elim
theorem aX.ofM{α:Type}{m:M α}{k:α->MS}(hL:aY K cA U H Z J)(hz:∀a∈U.l,U.z a)(h:aX K cA (ofM m J k) U H s D EX):Run K cA m U H s (λa s1 U1 H1=>Ext U H U1 H1/\aD K cA U1 H1 s1/\aX K cA (k a) U1 H1 s1 D EX) (eX K cA EX Z):=by
 unfold aX Mi.ofM at h;unfold Run;cases e:m s with
 |none=>rw[e] at h;exact h
 |some r=>
  obtain⟨r,s1⟩:=r;rw[e] at h;cases r with
  |er c fs=>exact λU1 H1 x r=>h U1 H1 Z x r (hL.mono x hz)
  |ok a=>
   intro U1 H1 x r;refine⟨x,r,?_⟩;have h2:aX K cA (k a) U H s1 D EX:=h;exact h2.ext x
theorem aX.then_(h:aX K cA (bV m k) U H s D EX):aX K cA m U H s {D with nx:=λZ' H'=>∃U' J' s',aY K cA U' H' Z' J'/\aD K cA U' H' s'/\aX K cA (k J') U' H' s' D EX} EX:=by
 unfold aX bV at h;unfold aX;cases e:m s with
 |none=>rw[e] at h;exact h
 |some r=>
  obtain⟨r,s1⟩:=r;rw[e] at h;cases r with
  |nx J=>
   intro U1 H1 Z1 x r l;have h2:aX K cA (k J) U H s1 D EX:=h;exact⟨U1,J,s1,l,r,h2.ext x⟩
  |bk J=>exact h
  |ct J=>exact h
  |rt d=>exact h
  |er c fs J=>exact h
end
section
variable (X:Cx)(cA:Cl)(aq:Nat->Nat->Bool)(aj:Bool)(F:Bool->Fn)(EX:XS)
def SS(st:Stmt)(m:St):Prop:=PS X st (tS X.K cA EX (ex aq aj F m))
def v9(st:List Stmt)(m:bR):Prop:=pQ X st (tS X.K cA EX (exs aq aj F m))
end
section
variable {X:Cx}{cA:Cl}{aq:Nat->Nat->Bool}{aj:Bool}{F:Bool->Fn}{EX:XS}{a b c d e:Expr}{A B C:E}{pos p p2:Pos}{st:Stmt}{sts body orelse:List Stmt}{m:St}{ms mb me mh:bR}{es:List Expr}{Xs:Es}{x y n:Str}{i j:Nat}
theorem PS.weak{t t':TS}(h:PS X st t)(f:∀D Z H,t' D Z H->t D Z H):PS X st t':=λao s Z H D I q=>h ao s Z H D I (f D Z H q)
theorem pQ.weak{t t':TS}(h:pQ X sts t)(f:∀D Z H,t' D Z H->t D Z H):pQ X sts t':=λao s Z H D I q=>h ao s Z H D I (f D Z H q)
theorem znb:SS X cA aq aj F EX st .no:=λ_ _ _ _ _ _ ⟨_,_,_,_,_,h⟩=>h.elim
theorem zkf:v9 X cA aq aj F EX [] .nil:=pQ.weak XH λD Z H hh=>un hh λU J s hL hS h=>h U H Z Ext.refl hS hL
theorem zg2(h1:SS X cA aq aj F EX st m)(h2:v9 X cA aq aj F EX sts ms):v9 X cA aq aj F EX (st::sts) (.cons m ms):=pQ.weak (XJ h1 h2) λD Z H hh=>un hh λU J s hL hS h=>by
 have h:aX X.K cA (bV (ex aq aj F m J) λJ'=>exs aq aj F ms J') U H s D EX:=h;exact⟨U,J,s,hL,hS,h.then_⟩
theorem zm9(ha:SE X cA aq aj (F aj) EX a A)(hs:swapsWith a none pos.line X.env=pure false:=by rfl):SS X cA aq aj F EX (.Expr a pos) (.ex A):=PS.weak (zjU ha hs) λD Z H hh=>un hh λU J s hL hS h=>
 ⟨U,J,s,hL,hS,(aX.ofM hL hS.lz h).imp λd s1 U1 H1 ⟨x1,aJ,h1⟩ v rv=>h1 U1 H1 Z Ext.refl aJ (hL.mono x1 hS.lz)⟩
theorem zkB(ha:SE X cA aq aj (F aj) EX a A):SS X cA aq aj F EX (.Return (some a) pos) (.ret A):=PS.weak (zme ha) λD Z H hh=>un hh λU J s hL hS h=>
 ⟨U,J,s,hL,hS,(aX.ofM hL hS.lz h).imp λd s1 U1 H1 ⟨x1,aJ,h1⟩ v rv=>h1 U1 H1 v Ext.refl aJ rv⟩
theorem zkT(hN:X.N.Nodup)(hi:X.N[i]?=some x)(hx:Loc X.env.scope x)(ha:SE X cA aq aj (F aj) EX a A)(hs:swapsWith a (some (.Name x p)) pos.line X.env=pure false:=by rfl)(hf:X.fn x=true\/X.env.scope.names.lookup x=some .local:=by first|exact .inl rfl|exact .inr rfl) :
  SS X cA aq aj F EX (.Assign [.Name x p] a pos) (.asg (.nm i) A):=PS.weak (zmw hN hi hx ha hs hf) λD Z H hh=>un hh λU J s hL hS h=>
 ⟨U,J,s,hL,hS,(aX.ofM hL hS.lz h).imp λd s1 U1 H1 ⟨x1,aJ,h1⟩ v rv=>h1 U1 H1 _ Ext.refl aJ ((hL.mono x1 hS.lz).set rv)⟩
theorem S6{k}(hc:X.aj=true)(hN:X.N.Nodup)(hi:X.N[i]?=some x)(hj:X.N[j]?=some y)(hx:Loc X.env.scope x)(hy:Loc X.env.scope y)(yj:X.fn x=true\/X.env.scope.names.lookup x=some .local)(yp:X.fn y=true\/X.env.scope.names.lookup y=some .local) :
  PG X (.Tuple [.Name x px,.Name y py] k pos) (ur X.K 2 (iJ (dW i) (iJ (dW j) uq))):=zmf hc (XQ (Ms hN hi hx yj) (XQ (Ms hN hj hy yp) zkb))
theorem ZV{K:W.Frag}{U:Ph}{H:Hp}{s:S}{J:Vs}{Z:L2.St}{D:Ends}{d:Xv}{v:V}(dI:aj=true)(hL:aY K cA U H Z J)(hS:aD K cA U H s)(rv:aU K cA U H d v)(h:aX K cA (store aq aj (F aj) (.tp [i,j]) d J) U H s D EX):ur K 2 (iJ (dW i) (iJ (dW j) uq)) v Z H D.nx:=by
 have h:aX K cA (if aj=true then ofM (M.bd (dat d) λd=>M.opt ((j_ d).bind λds=>gH [i,j] (ds.map Xv.d) J)) J (λJ' s=>some (Out.nx J',s)) else λ_=>none) U H s D EX:=h;rw[if_pos dI] at h;obtain⟨dd,e0,rd,h1⟩:=Nb rv (aX.ofM hL hS.lz h);obtain⟨J',e,_,aJ,h2⟩:=Run.opt hS h1;refine(JF i j).run U H s Z J J' dd v _ hL hS rd e λZ' hL' _ _=>h2 U H Z' Ext.refl hS hL'
theorem zjA{k}(hc:X.aj=true)(dI:aj=true)(hN:X.N.Nodup)(hi:X.N[i]?=some x)(hj:X.N[j]?=some y)(hx:Loc X.env.scope x)(hy:Loc X.env.scope y)(yj:X.fn x=true\/X.env.scope.names.lookup x=some .local)(yp:X.fn y=true\/X.env.scope.names.lookup y=some .local)(ha:SE X cA aq aj (F aj) EX a A)
  (hs:swapsWithSole [.Tuple [.Name x px,.Name y py] k pt] a pos.line X.env=pure false:=by rfl) (hw:swappedStores [.Tuple [.Name x px,.Name y py] k pt] a X.env=pure none:=by rfl)
  (h1:(assignEach [.Tuple [.Name x px,.Name y py] k pt] X.env).map (·.2)=[assign (.Tuple [.Name x px,.Name y py] k pt) X.env]:=by rfl) :
  SS X cA aq aj F EX (.Assign [.Tuple [.Name x px,.Name y py] k pt] a pos) (.asg (.tp [i,j]) A):=PS.weak (XR ha (S6 hc hN hi hj hx hy yj yp) hs hw h1) λD Z H hh=>un hh λU J s hL hS h=>
 ⟨U,J,s,hL,hS,(aX.ofM hL hS.lz h).imp λd s1 U1 H1 ⟨x1,aJ,h1⟩ v rv=>ZV dI (hL.mono x1 hS.lz) aJ rv h1⟩
theorem zkW(hO:SE X cA aq aj (F aj) EX oo O)(hI:SE X cA aq aj (F aj) EX ii I')(ha:SE X cA aq aj (F aj) EX a A)
  (S7:∀v,assign (.Subscript oo ii p) X.env v=(do
   let ov <-holding [v] (eval oo X.env)
   let iv <-holding [v,ov] (eval ii X.env)
   standAt p
   holding [v,ov,iv] (setItem ov iv v)
   release [v,ov,iv] []):=by intro _;rfl) (hs:swapsWithSole [.Subscript oo ii p] a pos.line X.env=pure false:=by rfl) (hw:swappedStores [.Subscript oo ii p] a X.env=pure none:=by rfl)
  (h1:(assignEach [.Subscript oo ii p] X.env).map (·.2)=[assign (.Subscript oo ii p) X.env]:=by rfl) :
  SS X cA aq aj F EX (.Assign [.Subscript oo ii p] a pos) (.asg (.aq O I') A):=PS.weak (XR ha (zkP hO hI zhs S7) hs hw h1) λD Z H hh=>un hh λU J s hL hS h=>by
 refine⟨U,J,s,hL,hS,(aX.ofM hL hS.lz h).imp λd s1 U1 H1 ⟨x1,aJ,h1⟩ v rv=>?_⟩;obtain⟨dd,e0,rd,h2⟩:=Nb rv (aX.ofM (hL.mono x1 hS.lz) aJ.lz h1);refine bw (hL.mono x1 hS.lz) aJ h2 λxo H2 U2 d2 s2 x2 hL2 aR r2 h3=>bw hL2 aR h3 λyi H3 U3 d3 s3 x3 oW gQ r3 h4=>?_;obtain⟨k,_,ek,h5⟩:=CW r3 h4;obtain⟨n,ad,xs,vs,_,ea,e1,f1,g1,q1,h6⟩:=Sx gQ (r2.mono x3 aR.lz) h5;subst ek ea;cases ej:L2.sy xs.length k with
 |none=>simp only[ej] at h6;exact h6.elim
 |some jj=>
  simp only[ej] at h6;refine⟨ad,vs,k,jj,rfl,rfl,g1,by rw[<-q1.len];exact ej,?_⟩;have rv3:=(rd.mono x2 aJ.lz).mono x3 aR.lz;have qZ:=gQ.write e1 f1 (q1.set rv3 jj);have x4:Ext U3 H3 U3 (upd H3 ad (.lst (vs.set jj v))):=Ext.write f1 ⟨_,g1⟩;obtain⟨_,_,h8⟩:=h6 U3 _ x4 qZ;exact h8 U3 _ Z Ext.refl qZ (oW.mono x4 gQ.lz)
theorem zmc{kt k2 uw}(hc:X.aj=true)(dI:aj=true)(hN:X.N.Nodup)(hi:X.N[i]?=some x)(hj:X.N[j]?=some y)(xq:i≠j)(hx:X.env.scope.names.lookup x=some .local)(hy:X.env.scope.names.lookup y=some .local)
  (ha:SE X cA aq aj (F aj) EX a A) (hb:SE X cA aq aj (F aj) EX b B) (h1:starEach [a,b] X.env=(false,eval a X.env)::starEach [b] X.env) (h2:starEach [b] X.env=(false,eval b X.env)::starEach [] X.env)
  (hw:swappedStores [.Tuple [.Name x px,.Name y py] kt pt] (.Tuple [a,b] k2 uw) X.env=pure (some [x,y]))
  (hs:swapsWithSole [.Tuple [.Name x px,.Name y py] kt pt] (.Tuple [a,b] k2 uw) pos.line X.env=pure false:=by rfl) :
  SS X cA aq aj F EX (.Assign [.Tuple [.Name x px,.Name y py] kt pt] (.Tuple [a,b] k2 uw) pos) (.par i j A B):=PS.weak (zkv hc hN hi hj xq hx hy (rW ha (rW hb xH h2) h1) hw hs) λD Z H hh=>un hh λU J s hL hS h=>by
 have h:aX X.K cA (if aj=true then ofM (M.bd (ev aq aj (F aj) A J) λx=>M.bd (ev aq aj (F aj) B J) λy=>M.ret (x,y)) J (λxy s=>some (.nx ((J.set i (some xy.1)).set j (some xy.2)),s)) else λ_=>none) U H s D EX:=h;rw[if_pos dI] at h;refine bw hL hS (aX.ofM hL hS.lz h) λx H1 U1 d1 s1 x1 hL1 aJ r1 h1=>bw hL1 aJ h1 λy H2 U2 d2 s2 x2 hL2 aR r2 h2=>?_;obtain⟨_,_,h3⟩:=h2.bK aR;exact⟨x,y,rfl,h3 U2 H2 _ Ext.refl aR ((hL2.set (r1.mono x2 aJ.lz)).set r2)⟩
theorem zmy{pos':Pos}(hN:X.N.Nodup)(hi:X.N[i]?=some x)(hx:Loc X.env.scope x)(ha:SE X cA aq aj (F aj) EX a A)(hf:X.fn x=true\/X.env.scope.names.lookup x=some .local)(hr:PS X (.AugAssign (.Name x p) .Add a pos) (HD i (tE X.K cA EX (ev aq aj (F aj) A)) (X3 λi j=>i+j))) :
  SS X cA aq aj F EX (.AugAssign (.Name x p) .Add a pos) (.aug i A):=PS.weak hr λD Z H hh=>un hh λU J s hL hS h=>by
 have h:=aX.ofM hL hS.lz h;obtain⟨xv,e,h1⟩:=Run.nu h;obtain⟨v,q1,q2⟩:=hL.2 i xv (Ng e);refine⟨v,q1,bw hL hS h1 λy H1 U1 d1 s1 x1 hL1 aJ r1 h2=>?_⟩;obtain⟨p1,_,e1,h3⟩:=CW (q2.mono x1 hS.lz) h2;obtain⟨p2,_,e2,h4⟩:=CW r1 h3;obtain⟨_,_,h5⟩:=h4.bK aJ;exact⟨p1,p2,e1,e2,h5 U1 H1 _ Ext.refl aJ (hL1.set (.d (.int _)))⟩
theorem znK(hc:ST X cA aq aj (F aj) EX c C)(ht:v9 X cA aq aj F EX body mb)(he:v9 X cA aq aj F EX orelse me):SS X cA aq aj F EX (.If c body orelse pos) (.iff C mb me):=PS.weak (znt hc ht he) λD Z H hh=>un hh λU J s hL hS h=>by
 refine⟨U,J,s,hL,hS,(aX.ofM hL hS.lz h).imp λk s1 U1 H1 ⟨x1,aJ,h1⟩=>?_⟩;cases k with
 |true=>exact iT ⟨U1,J,s1,hL.mono x1 hS.lz,aJ,h1⟩
 |false=>exact iF ⟨U1,J,s1,hL.mono x1 hS.lz,aJ,h1⟩
theorem zjy{g:TG}{elt iter tg:Expr}{ifs:List Expr}{scope:Scope}{N:List Str}{cond:Eo}{fr aP:List Nat}{many:Nat}{fz:Bool}{w:Wk}{spos py:Pos}(hc:X.aj=true)(rm:X.N.Nodup)(sE:X.N[i]?=some y)(hx:Loc X.env.scope y)(hf:X.fn y=true\/X.env.scope.names.lookup y=some .local)(B':cV X.env.scope scope)(hi:SI X cA aq aj (F aj) EX tg iter w)(hN:N.length=many+fr.length)
  (qQ:∀(i:Nat) (y:Str) (j:Nat),N[many+i]?=some y->fr[i]?=some j->scope.names.lookup y=some .free/\X.N[j]?=some y)
  (hg:∀cl C s3 H3 fp ao,PG (X.blk scope cl N C s3 H3 fp ao) tg g) (hT:gJ X.K cA g aP) (dX:∀i∈aP,i<many)
  (ht:∀cl C s3 H3 fp ao,FW (X.blk scope cl N C s3 H3 fp ao) cA aq aj (F aj) (λ_ _ _ _=>False) ifs cond) (he:∀cl C s3 H3 fp ao,SE (X.blk scope cl N C s3 H3 fp ao) cA aq aj (F aj) (λ_ _ _ _=>False) elt B)
  (uL:swapsWith (.ListComp elt [⟨tg,iter,ifs,0⟩] scope pos) (some (.Name y py)) spos.line X.env=pure true) (hs:∀x,foldedSetIterable iter X.env x=pure x:=by intro _;rfl) :
  SS X cA aq aj F EX (.Assign [.Name y py] (.ListComp elt [⟨tg,iter,ifs,0⟩] scope pos) spos) (.asg (.nm i) (.comp fz B aP w fr many cond)):=
 PS.weak (zfi hc rm sE hx hf B' hi (⟨hg,ht,he⟩ : Parts X elt tg ifs scope N g (qY X.K cA (λ_ _ _ _=>False) (m_ aq aj (F aj) cond)) (tE X.K cA (λ_ _ _ _=>False) (ev aq aj (F aj) B))) (ZY:=bL many fr) (λZ=>by simp[bL,hN]) (λZ i x v e1 e2=>S5 qQ Z i x v e1 e2) uL hs) λD Z H hh=>un hh λU J s hL hS h=>
  ZR (iter':=iter) hT dX ⟨U,J,s,hL,hS,(aX.ofM hL hS.lz h).imp λd s1 U1 H1 ⟨x1,aJ,h1⟩ v rv=>h1 U1 H1 _ Ext.refl aJ ((hL.mono x1 hS.lz).set rv)⟩
noncomputable def oX(m:MS)(kN:Vs->MS):MS:=λs=>match m s with
 |some (.nx J',s')=>kN J' s'
 |some (.ct J',s')=>kN J' s'
 |some (.bk J',s')=>some (.nx J',s')
 |r=>r
theorem ZW{K:W.Frag}{U:Ph}{H:Hp}{s:S}{D:Ends}{m:MS}{kN:Vs->MS}{N:L2.St->Hp->Prop}(hN:∀U' J' s' Z' H',Ext U H U' H'->aY K cA U' H' Z' J'->aD K cA U' H' s'->aX K cA (kN J') U' H' s' D EX->N Z' H')(h:aX K cA (oX m kN) U H s D EX) :
  aX K cA m U H s {D with nx:=N,ct:=N,bk:=D.nx} EX:=by
 unfold aX oX at h;unfold aX;cases e:m s with
 |none=>rw[e] at h;exact h
 |some r=>
  obtain⟨r,s1⟩:=r;rw[e] at h;cases r with
  |nx J'=>
   intro U1 H1 Z1 x r l;have h2:aX K cA (kN J') U H s1 D EX:=h;exact hN U1 J' s1 Z1 H1 x l r (h2.ext x)
  |ct J'=>
   intro U1 H1 Z1 x r l;have h2:aX K cA (kN J') U H s1 D EX:=h;exact hN U1 J' s1 Z1 H1 x l r (h2.ext x)
  |bk J'=>exact h
  |rt d=>exact h
  |er c fs J'=>exact h
theorem zg1(hp:PassesOwn (model X.prog X.w) X.A X.env X.xe)(hc:ST X cA aq aj (F aj) EX c C)(hb:v9 X cA aq aj F EX body mb):SS X cA aq aj F EX (.While c body [] pos) (.wh C mb):=PS.weak (zhM hp hc hb) λD Z H hh=>un hh λU J s hL hS h=>by
 refine⟨λm Z H=>∃U J s,aY X.K cA U H Z J/\aD X.K cA U H s/\aX X.K cA (dw (λJ=>M.bd (ev aq aj (F aj) C J) bool) (λJ=>exs aq aj F mb J) m J) U H s D EX,⟨zR,U,J,s,hL,hS,h⟩,?_⟩;rintro m Z H ⟨U,J,s,hL,hS,h⟩;cases m with
 |zero=>exact h.elim
 |succ m=>
  refine⟨U,J,s,hL,hS,(aX.ofM (k:=λok=>if ok=true then oX (exs aq aj F mb J) (dw (λJ=>M.bd (ev aq aj (F aj) C J) bool) (λJ=>exs aq aj F mb J) m) else λs=>some (.nx J,s)) hL hS.lz h).imp λk s1 U1 H1 ⟨x1,aJ,h1⟩=>?_⟩;cases k with
  |true=>
   rw[if_pos rfl] at h1 ⊢;refine⟨_,λZ' H' z=>⟨m,Aq m,z⟩,U1,J,s1,hL.mono x1 hS.lz,aJ,ZW (λU' J' s' Z' H' _ l r q=>?_) h1⟩;exact⟨U',J',s',l,r,q⟩
  |false=>
   rw[if_neg Gz] at h1 ⊢;exact h1 U1 H1 Z Ext.refl aJ (hL.mono x1 hS.lz)
def SG(X:Cx)(cA:Cl)(aq:Nat->Nat->Bool)(aj:Bool)(F:Bool->Fn)(EX:XS)(tg:Expr)(t:Tg):Prop:=∃g:TG,PG X tg g/\∀(U:Ph) (H:Hp) (s:S) (Z:L2.St) (J:Vs) (d:Xv) (v:V) (D:Ends),aY X.K cA U H Z J->aD X.K cA U H s->aU X.K cA U H d v->
 aX X.K cA (store aq aj (F aj) t d J) U H s D EX->g v Z H D.nx
theorem zi4(hN:X.N.Nodup)(hi:X.N[i]?=some x)(hx:Loc X.env.scope x)(hf:X.fn x=true\/X.env.scope.names.lookup x=some .local:=by first|exact .inl rfl|exact .inr rfl):SG X cA aq aj F EX (.Name x pos) (.nm i):=
 ⟨_,Ms hN hi hx hf,λU H s Z J d v D hL hS r h=>h U H _ Ext.refl hS (hL.set r)⟩
theorem zjl{k}(hc:X.aj=true)(dI:aj=true)(hN:X.N.Nodup)(hi:X.N[i]?=some x)(hj:X.N[j]?=some y)(hx:Loc X.env.scope x)(hy:Loc X.env.scope y)(yj:X.fn x=true\/X.env.scope.names.lookup x=some .local)(yp:X.fn y=true\/X.env.scope.names.lookup y=some .local) :
  SG X cA aq aj F EX (.Tuple [.Name x px,.Name y py] k pos) (.tp [i,j]):=
 ⟨_,S6 hc hN hi hj hx hy yj yp,λU H s Z J d v D hL hS r h=>ZV dI hL hS r h⟩
theorem zlH(hp:PassesOwn (model X.prog X.w) X.A X.env X.xe)(hc:X.aj=true)(dI:aj=true)(ha:SI X cA aq aj (F aj) EX tg a w)(hg:SG X cA aq aj F EX tg t)(hb:v9 X cA aq aj F EX body mb)
  (hs:∀x,foldedSetIterable a X.env x=pure x:=by intro _;rfl):SS X cA aq aj F EX (.For tg a body [] pos) (.fr t w mb):=by
 obtain⟨g,hG,hg⟩:=hg;refine PS.weak (zl4 hp hc ha hG hb hs) λD Z H hh=>un hh λU J s hL hS h=>?_;have h:aX X.K cA (if aj=true then ofM (gO aq aj (F aj) w J) J λcn=>cQ cn.1 (λd J=>bV (store aq aj (F aj) t (.d d) J) λJ'=>exs aq aj F mb J') (cn.2+1) 0 J else λ_=>none) U H s D EX:=h;rw[if_pos dI] at h;refine⟨U,J,s,hL,hS,(aX.ofM hL hS.lz h).imp λcn s1 U1 H1 ⟨x1,aJ,h1⟩ bf hJ=>?_⟩;have hL1:=hL.mono x1 hS.lz;obtain⟨c,n⟩:=cn;dsimp only at h1 hJ;refine⟨λi m Z' H'=>∃U' J' s',Ext U1 H1 U' H'/\aY X.K cA U' H' Z' J'/\aD X.K cA U' H' s'/\aX X.K cA (cQ c (λd J=>bV (store aq aj (F aj) t (.d d) J) λJ'=>exs aq aj F mb J') m i J') U' H' s' D EX,⟨n+1,U1,J,s1,Ext.refl,hL1,aJ,h1⟩,?_⟩;rintro i m Z' H' ⟨U',J',s',x2,hL2,aR,h4⟩;cases m with
 |zero=>exact h4.elim
 |succ m=>
  cases ei:c.at i s' with
  |none=>
   exfalso
   unfold aX cQ at h4;simp only[ei] at h4
  |some oi=>
   cases oi with
   |none=>
    refine .inl ⟨hJ.stop U' H' H' s' i x2 cR.refl aR ei,?_⟩;unfold aX cQ at h4;simp only[ei] at h4;exact h4 U' H' Z' Ext.refl aR hL2
   |some xi=>
    refine .inr ⟨hJ.go U' H' H' s' i xi x2 cR.refl aR ei,_,λZ3 H3 z=>⟨m,Aq m,z⟩,λv H3 hy=>?_⟩;obtain⟨gr,rx⟩:=hJ.ux U' H' H' s' i xi v H3 x2 cR.refl aR ei hy;have h5:aX X.K cA (oX (bV (store aq aj (F aj) t (.d xi) J') λJ'=>exs aq aj F mb J') (cQ c (λd J=>bV (store aq aj (F aj) t (.d d) J) λJ'=>exs aq aj F mb J') m (i+1))) U' H' s' D EX:=by
     unfold aX at h4 ⊢;have e:cQ c (λd J=>bV (store aq aj (F aj) t (.d d) J) λJ'=>exs aq aj F mb J') (m+1) i J' s'=oX (bV (store aq aj (F aj) t (.d xi) J') λJ'=>exs aq aj F mb J') (cQ c (λd J=>bV (store aq aj (F aj) t (.d d) J) λJ'=>exs aq aj F mb J') m (i+1)) s':=by
      rw[cQ];simp only[ei];rfl
     rw[e] at h4;exact h4
    exact hg U' H3 s' Z' J' (.d xi) v _ (hL2.mono gr.ext aR.lz) (aR.grow gr) (.d rx) (aX.then_ (ZW (λU4 J4 s4 Z4 H4 x4 l4 r4 q4=>⟨U4,J4,s4,(x2.trans gr.ext).trans x4,l4,r4,q4⟩) (h5.ext gr.ext)))
end
end Mi
namespace L2
open PySem PySem.Spec PyProof.Rows
structure oY(K:W.Frag)(x qual:Str)(st:Stmt)(f:Addr)(fd:FuncData):Prop where
 ex:∃(oc:Value) (od:Option Addr) (kV doc pm:Value) (an:Option Addr) (cdv ct:Value) (osl:Array (Option Value)),
  fd=PySem.W.fnOf x qual (aZ st) (aL st) (au st) .none kV doc pm an cdv ct/\K.lookup f=some ⟨oc,od,.func fd,osl⟩/\PySem.W.codeIn K cdv qual=true
 kp:PySem.W.keepIn K (.ref f)=true
section
variable {P:Program}{w:World}{K:W.Frag}{mg:Str->Option Value}{base:Heap}
end
end L2
namespace Mi
open PySem PySem.Spec PyProof.Rows L2
section
variable {P:Program}{w:World}{K:W.Frag}{mg:Str->Option Value}{base:Heap}{cA:Cl}{aq:Nat->Nat->Bool}{T:Nat->Option Df}
theorem S8{U:Ph}{H:Hp}{N:List Str}{ds:List Xv}{vs:List V}{m p:Nat}(r:aQ K cA U H ds vs)(hp:p=ds.length)(hm:m=N.length):aY K cA U H (L2.start N vs) (ds.map some++List.replicate (m-p) none):=by
 subst hp hm;unfold L2.start;have hl:=r.len;refine⟨by simp[hl],λi d e=>?_⟩;by_cases hi:i<ds.length
 ·rw[pB (by simpa using hi),jN] at e;cases z:ds[i]? with
  |none=>rw[z] at e;cases e
  |some x=>
   rw[z] at e;cases e;obtain⟨v,a,b⟩:=r.get z;exact⟨v,by rw[pB (by simp;lia),jN,a];rfl,b⟩
 ·rw[pJ (by simpa using hi),Al] at e;split at e<;>cases e
theorem Nm{U:Ph}{H:Hp}{s:S}{ds:List Xv}{k n:Nat}{cm:Bool}{df:Df}{Q:VK}{E:XK}(hT:T n=some df)
  (h:Run K cA (call aq T (k+1) cm n ds) U H s (λd _ U' H'=>∀v,aU K cA U' H' d v->Q v H') (λc fs _ U' H'=>∀dx,kE K cA U' H' c fs dx->E (.ref (cA.a c)) dx H')) :
  ds.length=df.fC/\aX K cA (exs aq cm (λc=>call aq T k c) df.body (ds.map some++List.replicate (df.many-df.fC) none)) U H s {nx:=λ_ H'=>Q .non H',rt:=Q} (λ_ C dx H'=>E C dx H'):=by
 unfold call at h;simp only[hT] at h;by_cases hl:ds.length=df.fC
 ·refine⟨hl,?_⟩;rw[if_pos hl] at h;unfold Run at h;unfold aX;cases e:exs aq cm (λc=>call aq T k c) df.body (ds.map some++List.replicate (df.many-df.fC) none) s with
  |none=>simp only[e] at h
  |some r=>
   obtain⟨r,s1⟩:=r;simp only[e] at h;cases r with
   |nx J=>exact λU' H' Z' x r l=>h U' H' x r _ (.d .non)
   |rt d=>exact λU' H' v x r rv=>h U' H' x r v rv
   |er c fs J=>exact λU' H' Z' x r l=>h U' H' x r
   |bk J=>exact h.elim
   |ct J=>exact h.elim
 ·rw[if_neg hl] at h;exact h.elim
theorem cT:cJ P w K mg base (fL P w) cm 0 f fd ps (lM K cA (call aq T 0 cm n)):=
 ⟨λvs H Q E ⟨_,_,_,_,_,h⟩=>h.elim,λA outer s H args us vs Q E _ _ _ _ _ ⟨_,_,_,_,_,h⟩=>h.elim⟩
theorem ZX{x qual:Str}{st:Stmt}{f:Addr}{fd:FuncData}{N ps:List Str}{k n:Nat}{cm:Bool}{df:Df}(F:oY K x qual st f fd)(S:cj N ps (au st))(hT:T n=some df)(hp:df.fC=ps.length)(hm:df.many=N.length)
  (hb:∀(cdv:Value) (A:Around) (outer:List Env) (s:Shared) (H:Hp) (E:XK),bC (k+1) A->
   v9 (dN (fL P w) P w K mg base N qual (au st) f cdv A outer s H E cm) cA aq cm (λc=>call aq T k c) (λ_ C dx H'=>E C dx H') (aL st) df.body) :
  cJ P w K mg base (fL P w) cm (k+1) f fd ps (lM K cA (call aq T (k+1) cm n)):=by
 obtain⟨oc,od,kV,doc,pm,an,cdv,ct,osl,rfl,lk,iI⟩:=F.ex;refine QS lk iI S (λvs H Q E ⟨U,ds,s,r,hS,h⟩=>?_) λA outer s H vs Q E hr ⟨U,ds,st',r,hS,h⟩=>?_
 ·rw[<-r.len,(Nm hT h).1,hp]
 ·obtain⟨hl,h2⟩:=Nm hT h;exact⟨_,hb cdv A outer s H E hr,U,_,st',S8 r hl.symm hm,hS,h2⟩
theorem zk5{x qual:Str}{st:Stmt}{f:Addr}{fd:FuncData}{N ps:List Str}{k n:Nat}{cm:Bool}{df:Df}(F:oY K x qual st f fd)(S:cj N ps (au st))(hT:T n=some df)(hp:df.fC=ps.length)(hm:df.many=N.length)
  (hb:∀(cdv:Value) (A:Around) (outer:List Env) (s:Shared) (H:Hp) (E:XK),bC k (A.deeper (envOfC qual (au st) s.heap.objs.size f cdv))->
   v9 (dN (fL P w) P w K mg base N qual (au st) f cdv A outer s H E cm) cA aq cm (λc=>call aq T k c) (λ_ C dx H'=>E C dx H') (aL st) df.body) :
  cJ P w K mg base (fL P w) cm (k+1) f fd ps (lM K cA (call aq T (k+1) cm n)):=ZX F S hT hp hm λcdv A outer s H E hr=>hb cdv A outer s H E (hr.deeper _)
end
theorem zmz{K:W.Frag}{cA:Cl}{m:List Xv->M Xv}{H:Hp}{a:Addr}{ns:List Int}(hq:dj K H a (ns.map V.int))(hm:∃s',m [.d (.fl (ns.map D.int))] []=some (.ok (.d (.bl true)),s')) :
  lM K cA m [.ref a] H (λv _=>v=.bl true) λ_ _ _=>False:=by
 have rs:∀(l:List Int) U,aC K cA U H (l.map D.int) (l.map V.int):=λl U=>by
  induction l with
  |nil=>exact .nil
  |cons i l ih=>exact .cons (.int i) ih
 have hl:LstAt K ⟨λ_=>False,[]⟩ H a (ns.map V.int):=by
  rcases hq with h|h
  ·exact .inl ⟨h,λz=>z⟩
  ·exact .inr (.inr h)
 refine⟨⟨λ_=>False,[]⟩,[.d (.fl (ns.map D.int))],[],.cons (.d (.fl hl (rs ns _))) .nil,⟨rfl,(λn o b e1 e2=>by simp at e1),Az,(λb hb=>by cases hb),(λb z=>False.elim z)⟩,?_⟩;obtain⟨s',e⟩:=hm;unfold Run;rw[e];intro U' H' _ _ v rv;cases rv with
 |d rv=>cases rv;rfl
theorem zgv:Raises X (λ_ _ _ _=>False):=λ_ _ _ _ _ _ _ _ _ _ _ _ _ z=>z.elim
theorem u_(r:bC k A):A.units+60<cLine:=by have:=r.un;lia
noncomputable def aF:Expr->Bool
 |.Starred _ _=>false
 |_=>true
theorem bA(h:aF e=true):starEach (e::es) env=(false,eval e env)::starEach es env:=by
 cases e<;>first|rfl|cases h
theorem bD:∀{es:List Expr} {env:Env} {pos:Pos},es.all aF=true->(backTo pos (starEach es env)).any (·.1)=false
 |[],_,_,_=>rfl
 |e::es,env,pos,h=>by
  rw[Ba,fu] at h;rw[bA h.1];show (false||(backTo pos (starEach es env)).any (·.1))=false;rw[bD h.2];rfl
theorem rz:∀{es:List Expr} {env:Env} {pos:Pos},es.all aF=true->(backTo pos (starEach es env)).all (λx=>!x.1)=true
 |[],_,_,_=>rfl
 |e::es,env,pos,h=>by
  rw[Ba,fu] at h;rw[bA h.1];show (true&&(backTo pos (starEach es env)).all (λx=>!x.1))=true;rw[rz h.2];rfl
theorem yq(h1:aF e=true)(h2:es.all aF=true)(h3:decide (es.length<28)=true):((backTo pos (starEach (e::es) env)).all (λx=>!x.1)&&(backToKw pos (keywordEach [] env)).all (λx=>x.1.isSome)&&decide ((e::es).length+([]:List Keyword).length+(if ([]:List Keyword).isEmpty then 0 else 1)<30))=true:=by
 rw[rz (es:=e::es) (by rw[Ba,h1,h2];rfl)];have:=jU h3;have z:(e::es).length+([]:List Keyword).length+(if ([]:List Keyword).isEmpty then 0 else 1)<30:=by
  show es.length+1+0+0<30
  lia
 rw[mR z];rfl
noncomputable def sX(sc scope:Scope):Bool:=(match scope.kind with|.function=>true|_=>false)&&scope.names.all λy=>match y.2 with
 |.cell=>(match scope.names.lookup y.1 with|some .cell=>true|_=>false)
 |.free=>(match sc.names.lookup y.1 with|some .cell=>true|some .free=>true|_=>false)
 |.local=>(match scope.names.lookup y.1 with|some .local=>true|_=>false)
 |_=>true
theorem cV.of(h:sX sc scope=true):cV sc scope:=by
 unfold sX at h;rw[fu,iu] at h;obtain⟨h1,h2⟩:=h;refine⟨?_,λy hy z=>?_,λy hy z=>?_,λy hy z=>?_⟩
 ·split at h1
  ·assumption
  ·cases h1
 ·have:=h2 y hy;rw[z] at this;dsimp only at this;split at this
  ·assumption
  ·cases this
 ·have:=h2 y hy;rw[z] at this;dsimp only at this;split at this
  ·exact .inl (by assumption)
  ·exact .inr (by assumption)
  ·cases this
 ·have:=h2 y hy;rw[z] at this;dsimp only at this;split at this
  ·assumption
  ·cases this
noncomputable def frB(scope:Scope)(XN:List Str):List Str->List Nat->Bool
 |y::N,j::fr=>(match scope.names.lookup y with|some .free=>true|_=>false)&&decide (XN[j]?=some y)&&frB scope XN N fr
 |[],[]=>true
 |_,_=>false
theorem Z0:∀{N:List Str} {fr:List Nat},frB scope XN N fr=true->N.length=fr.length/\∀(i:Nat) (y:Str) (j:Nat),N[i]?=some y->fr[i]?=some j->scope.names.lookup y=some .free/\XN[j]?=some y
 |[],[],_=>⟨rfl,λi y j h=>by simp at h⟩
 |[],_::_,h=>by cases h
 |_::_,[],h=>by cases h
 |y::N,j::fr,h=>by
  unfold frB at h;rw[fu,fu,yZ] at h;obtain⟨⟨h1,h2⟩,h3⟩:=h;obtain⟨l,q⟩:=Z0 h3;refine⟨by simp[l],λi z m e1 e2=>?_⟩;cases i with
  |zero=>
   simp at e1 e2;subst e1 e2;refine⟨?_,h2⟩;split at h1
   ·assumption
   ·cases h1
  |succ i=>exact q i z m (by simpa using e1) (by simpa using e2)
noncomputable def okN(x:Str):Bool:=!(x==("__debug__" : Str)) && !(x==("__classdict__" : Str)) && !decide (x="__name__")
theorem vd(h:okN x=true):(x==("__debug__" : Str))=false/\(x==("__classdict__" : Str))=false/\x≠"__name__":=by
 unfold okN at h;simp only[fu,Bool.not_eq_true',decide_eq_false_iff_not] at h;exact⟨h.1.1,h.1.2,h.2⟩
theorem Np{env:Env}{k:NameKind}(hk:k≠.free):∀{names:List (Str×NameKind)} {x:Str},names.lookup x=some k->
  (names.map λ(n,k)=>if (k==NameKind.free&&env.scope.kind==.function&&env.kindOf n==some .cell) then (n,NameKind.cell) else (n,k)).lookup x=some k
 |[],x,h=>by simp at h
 |(n,q)::r,x,h=>by
  rw[pK] at h;rw[jo,pK];have hd:∀c:Bool,(if c=true then (n,NameKind.cell) else (n,q)).1=n:=λc=>by cases c<;>rfl
  rw[hd];by_cases z:x=n
  ·subst z;simp only[Em] at h ⊢;cases h
   split
   ·rename_i y;simp only[fu,nW] at y;exact absurd y.1.1 hk
   ·rfl
  ·have z':(x==n)=false:=by simpa using z
   simp only[z'] at h ⊢;exact Np hk h
noncomputable def vf(K:W.Frag):Sp:=λvs H Q _=>∃(a:Addr) (ns:List Int),vs=[.ref a]/\dj K H a (ns.map V.int)/\ns.length<=63/\True/\∀H',Q (.bl true) H'
theorem ziL{K:W.Frag}{cA:Cl}{m:List Xv->M Xv}(hm:∀ns:List Int,ns.length<=63->∃s',m [.d (.fl (ns.map D.int))] []=some (.ok (.d (.bl true)),s'))(vs:List V)(H:Hp)(Q:VK)(E:XK)(h:vf K vs H Q E):lM K cA m vs H Q E:=by
 obtain⟨a,ns,rfl,hq,hl,hO,k⟩:=h;obtain⟨U,ds,s,r1,r2,h⟩:=zmz (cA:=cA) (m:=m) hq (hm ns hl);refine⟨U,ds,s,r1,r2,?_⟩;unfold Run at h ⊢;split at h
 ·intro U' H' x r v rv;rw[h U' H' x r v rv];exact k H'
 ·exact λU' H' x r dx q=>(h U' H' x r dx q).elim
 ·exact h
theorem Di{K:W.Frag}{fd:FuncData}{p:Str}(h:∀a,bindArgs fd ⟨[a],[]⟩=pure [(p,a)]):Binds K fd [p] []:=.all λus hl=>by
 cases us with
 |nil=>cases hl
 |cons a r=>cases r with
  |nil=>exact h a
  |cons b r=>cases hl
theorem vg{K:W.Frag}{fd:FuncData}{p q:Str}(h:∀a b,bindArgs fd ⟨[a,b],[]⟩=pure [(p,a),(q,b)]):Binds K fd [p,q] []:=.all λus hl=>by
 cases us with
 |nil=>cases hl
 |cons a r=>cases r with
  |nil=>cases hl
  |cons b r=>cases r with
   |nil=>exact h a b
   |cons c r=>cases hl
theorem vh{K:W.Frag}{fd:FuncData}{p q t:Str}(h:∀a b c,bindArgs fd ⟨[a,b,c],[]⟩=pure [(p,a),(q,b),(t,c)]):Binds K fd [p,q,t] []:=.all λus hl=>by
 cases us with
 |nil=>cases hl
 |cons a r=>cases r with
  |nil=>cases hl
  |cons b r=>cases r with
   |nil=>cases hl
   |cons c r=>cases r with
    |nil=>exact h a b c
    |cons d r=>cases hl
theorem vm{K:W.Frag}{fd:FuncData}{p q t u:Str}(h:∀a b c d,bindArgs fd ⟨[a,b,c,d],[]⟩=pure [(p,a),(q,b),(t,c),(u,d)]):Binds K fd [p,q,t,u] []:=.all λus hl=>by
 cases us with
 |nil=>cases hl
 |cons a r=>cases r with
  |nil=>cases hl
  |cons b r=>cases r with
   |nil=>cases hl
   |cons c r=>cases r with
    |nil=>cases hl
    |cons d r=>cases r with
     |nil=>exact h a b c d
     |cons e r=>cases hl
theorem zk9:bootBuiltins "int"=some (.type "int"):=by decide +kernel
theorem zjp:bootBuiltins "bool"=some (.type "bool"):=by decide +kernel
theorem Nq:bootBuiltins "tuple"=some (.type "tuple"):=by decide +kernel
theorem Z9:bootBuiltins "list"=some (.type "list"):=by decide +kernel
structure JE(X:Cx)(cA:Cl)(aq:Nat->Nat->Bool)(aj:Bool)(F:Fn)(EX:XS)(e:Expr)(m:E):Prop where
 o:SE X cA aq aj F EX e m
structure JA(X:Cx)(cA:Cl)(aq:Nat->Nat->Bool)(aj:Bool)(F:Fn)(EX:XS)(e:List Expr)(m:Es):Prop where
 o:SA X cA aq aj F EX e m
structure JT(X:Cx)(cA:Cl)(aq:Nat->Nat->Bool)(aj:Bool)(F:Fn)(EX:XS)(e:Expr)(m:E):Prop where
 o:ST X cA aq aj F EX e m
structure JW(X:Cx)(cA:Cl)(aq:Nat->Nat->Bool)(aj:Bool)(F:Fn)(EX:XS)(e:Expr)(m:E):Prop where
 o:SW X cA aq aj F EX e m
structure JC(X:Cx)(cA:Cl)(aq:Nat->Nat->Bool)(aj:Bool)(F:Fn)(EX:XS)(e:List Expr)(m:Eo):Prop where
 o:FW X cA aq aj F EX e m
structure JO(X:Cx)(cA:Cl)(aq:Nat->Nat->Bool)(aj:Bool)(F:Fn)(EX:XS)(e:Option Expr)(m:Eo):Prop where
 o:Jv X cA aq aj F EX e m
structure JI(X:Cx)(cA:Cl)(aq:Nat->Nat->Bool)(aj:Bool)(F:Fn)(EX:XS)(tg e:Expr)(m:Wk):Prop where
 o:SI X cA aq aj F EX tg e m
structure JG(X:Cx)(cA:Cl)(aq:Nat->Nat->Bool)(aj:Bool)(F:Bool->Fn)(EX:XS)(e:Expr)(m:Tg):Prop where
 o:SG X cA aq aj F EX e m
structure JS(X:Cx)(cA:Cl)(aq:Nat->Nat->Bool)(aj:Bool)(F:Bool->Fn)(EX:XS)(e:Stmt)(m:St):Prop where
 o:SS X cA aq aj F EX e m
structure JB(X:Cx)(cA:Cl)(aq:Nat->Nat->Bool)(aj:Bool)(F:Bool->Fn)(EX:XS)(e:List Stmt)(m:bR):Prop where
 o:v9 X cA aq aj F EX e m
structure JK(X:Cx)(x:Str)(k:NameKind):Prop where
 o:X.env.scope.names.lookup x=some k
structure JP(X:Cx)(cA:Cl)(op:CmpOp)(p:Pr):Prop where
 o:∃r,fK X (compareOp op) r/\bH X.K cA p (r2 r)
structure JQ(X:Cx)(cA:Cl)(op:Operator)(p:Pr):Prop where
 o:∃r,fK X (binaryOp op) r/\bH X.K cA p (r2 r)
structure JN(X:Cx)(cA:Cl)(kx:Expr)(k:Kd):Prop where
 o:PE X kx (tC (FP cA k))
structure JR(X:Cx)(EX:XS):Prop where
 o:Raises X EX
structure JH(X:Cx):Prop where
 o:PassesOwn (model X.prog X.w) X.A X.env X.xe
structure JY(X:Cx)(tg:Expr)(g:TG):Prop where
 o:PG X tg g
noncomputable def lN:NameKind->Bool
 |.local=>true
 |.cell=>true
 |_=>false
noncomputable def Dj:NameKind->Bool
 |.local=>true
 |.cell=>true
 |.free=>true
 |_=>false
section
variable {X:Cx}{cA:Cl}{aq:Nat->Nat->Bool}{aj:Bool}{F:Fn}{EX:XS}{a b c d e:Expr}{A B C Dd E':E}{pos p p2 apos:Pos}{es:List Expr}{Xs:Es}{x y:Str}{k k':NameKind}{q q1 q2 q3:Pr}{fz:Bool}
theorem Z_(h:scope.names.lookup x=some k)(hk:(match k with|.free=>false|_=>true)=true):JK (X.blk scope cl N Cc s3 H3 fp ao) x k:=
 ⟨Np (by intro z;subst z;cases hk) h⟩
theorem g_v(i:Nat)(hN:X.N[i]?=some x)(h:JK X x k)(hv:Dj k=true)(hd:okN x=true):JE X cA aq aj F EX (.Name x pos) (.v i):=
 ⟨Y9 i hN (by cases k<;>first|exact .inl h.o|exact .inr (.inl h.o)|exact .inr (.inr h.o)|cases hv) (vd hd).1 (vd hd).2.1⟩
theorem zoA(i:Nat)(hN:N[i]?=some x)(h:scope.names.lookup x=some .free)(hd:okN x=true):JE (X.blk scope cl N Cc s3 H3 fp ao) cA aq aj F EX (.Name x pos) (.v i):=
 ⟨Y9 i hN (.inr (MP h)) (vd hd).1 (vd hd).2.1⟩
theorem aO{i j p}:JE X cA aq aj F EX (.Constant (.int i) j p) (.c (.int i)):=⟨zkV⟩
theorem rA{i j p}:JE X cA aq aj F EX (.Constant (.bool i) j p) (.c (.bl i)):=⟨znF⟩
theorem Dk{j p}:JE X cA aq aj F EX (.Constant .none j p) (.c .non):=⟨zmx⟩
theorem Gb(h:∃t,X.mg x=some (.int i t))(hg:JK X x .globalImplicit)(hd:okN x=true):JE X cA aq aj F EX (.Name x pos) (.c (.int i)):=by
 obtain⟨t,h⟩:=h;exact⟨zjZ hg.o h (vd hd).1⟩
theorem jK:JQ X cA .Add .add:=⟨_,zfy,zlE⟩
theorem zX:JQ X cA .Sub .aq:=⟨_,zlC,zmp⟩
theorem Dl:JQ X cA .Mult .mul:=⟨_,zlz,zkl⟩
theorem JV:JQ X cA .FloorDiv .fdiv:=⟨_,zjf,zi1⟩
theorem Dm:JQ X cA .Mod .mod:=⟨_,zkp,zmk⟩
theorem znJ:JQ X cA .Pow .pow:=⟨_,zlh,zkL⟩
theorem dh(h:JQ X cA op q)(ha:JE X cA aq aj F EX a A)(hb:JE X cA aq aj F EX b B):JE X cA aq aj F EX (.BinOp a op b pos) (.pr fz q (.cons A (.cons B .nil))):=by
 obtain⟨r,h1,h2⟩:=h.o;exact⟨zlN h1 h2 ha.o hb.o⟩
theorem zni(ha:JE X cA aq aj F EX a A):JE X cA aq aj F EX (.UnaryOp .USub a pos) (.pr true .neg (.cons A .nil)):=⟨znI X7 zlv ha.o⟩
theorem zkH(ha:JE X cA aq aj F EX a A):JE X cA aq aj F EX (.UnaryOp .Not a pos) (.not A):=⟨zkx ha.o⟩
theorem vo{op}(ha:JE X cA aq aj F EX a A):JE X cA aq aj F EX (.BoolOp op [a] pos) A:=⟨zmA ha.o⟩
theorem wg{rest:List Expr}(ha:JE X cA aq aj F EX a A)(hb:JE X cA aq aj F EX (.BoolOp .And (b::rest) pos) B):JE X cA aq aj F EX (.BoolOp .And (a::b::rest) pos) (.and A B):=⟨zk2 ha.o hb.o⟩
theorem S9{rest:List Expr}(ha:JE X cA aq aj F EX a A)(hb:JE X cA aq aj F EX (.BoolOp .Or (b::rest) pos) B):JE X cA aq aj F EX (.BoolOp .Or (a::b::rest) pos) (.or A B):=⟨znv ha.o hb.o⟩
theorem qx{k:Nat}(hr:bC k X.A):JP X cA .Eq .eq:=⟨_,zkX (u_ hr),zm4⟩
theorem wj{k:Nat}(hr:bC k X.A):JP X cA .NotEq .ne:=⟨_,zmb (u_ hr),znc⟩
theorem JZ{k:Nat}(hr:bC k X.A):JP X cA .Lt .lt:=⟨_,HX.or (zl9 (by have:=u_ hr;lia)),znD⟩
theorem zof:JP X cA .LtE .le:=⟨_,znA,zmM⟩
theorem S_:JP X cA .Gt .gt:=⟨_,zmJ,znm⟩
theorem Tc:JP X cA .GtE .ge:=⟨_,zmX,zmV⟩
theorem Td{k:Nat}(hr:bC k X.A):JP X cA .In .inn:=⟨_,zkC (u_ hr),zmZ⟩
theorem zlP{k:Nat}(hr:bC k X.A):JP X cA .NotIn .nin:=⟨_,ziK (u_ hr),zkq⟩
noncomputable def oZ:Expr->Bool
 |.Set _ _ _=>false
 |_=>true
theorem yr(h:oZ b=true):behindInMarks op b=false:=by cases b<;>first|rfl|cases h
theorem nF(ho:JP X cA op q)(ha:JE X cA aq aj F EX a A)(hb:JE X cA aq aj F EX b B)(h1:oZ b=true:=by rfl):JE X cA aq aj F EX (.Compare a [op] [b] pos) (.pr true q (.cons A (.cons B .nil))):=by
 obtain⟨r,h2,h3⟩:=ho.o;exact⟨zmu h2 h3 ha.o hb.o (yr h1)⟩
theorem lA(ho:JP X cA op q)(ha:JE X cA aq aj F EX a A)(hb:JE X cA aq aj F EX b B)(h1:oZ b=true:=by rfl):JT X cA aq aj F EX (.Compare a [op] [b] pos) (.pr true q (.cons A (.cons B .nil))):=by
 obtain⟨r,h2,h3⟩:=ho.o;exact⟨zkU h2 h3 ha.o hb.o (yr h1)⟩
theorem zmU(h1:JP X cA op q1)(h2:JP X cA op' q2)(ha:JE X cA aq aj F EX a A)(hb:JE X cA aq aj F EX b B)(hc:JE X cA aq aj F EX c C)(hm:oZ c=true:=by rfl):JE X cA aq aj F EX (.Compare a [op,op'] [b,c] pos) (.xW q1 q2 A B C):=by
 obtain⟨r,h3,h4⟩:=h1.o;obtain⟨r',h5,h6⟩:=h2.o;exact⟨zlp h3 h4 h5 h6 ha.o hb.o hc.o (yr hm)⟩
theorem zm2{j p}(ha:JE X cA aq aj F EX a A):JE X cA aq aj F EX (.Compare a [.Is] [.Constant .none j p] pos) (.pr true .vY (.cons A .nil)):=⟨zl6 ha.o⟩
theorem ziz{j p}(ha:JE X cA aq aj F EX a A):JE X cA aq aj F EX (.Compare a [.IsNot] [.Constant .none j p] pos) (.pr true .tU (.cons A .nil)):=⟨zj8 ha.o⟩
theorem zlZ{j p}(ha:JE X cA aq aj F EX a A):JT X cA aq aj F EX (.Compare a [.Is] [.Constant .none j p] pos) (.pr true .vY (.cons A .nil)):=⟨zmt ha.o⟩
theorem Te{j p}(ha:JE X cA aq aj F EX a A):JT X cA aq aj F EX (.Compare a [.IsNot] [.Constant .none j p] pos) (.pr true .tU (.cons A .nil)):=⟨ziH ha.o⟩
noncomputable def zY:Expr->Bool
 |.Call _ _ _ _=>true
 |.Name _ _=>true
 |.Subscript _ _ _=>true
 |.Attribute _ _ _=>true
 |_=>false
theorem jx(ha:JE X cA aq aj F EX a A)(he:zY a=true:=by rfl):JT X cA aq aj F EX a A:=⟨zlm ha.o (by cases a<;>first|(intro _;rfl)|cases he)⟩
theorem pH(ha:JT X cA aq aj F EX a A):JT X cA aq aj F EX (.UnaryOp .Not a pos) (.not A):=⟨zlb ha.o⟩
theorem Tf(ha:JT X cA aq aj F EX a A):JW X cA aq aj F EX (.BoolOp .And [a] pos) A:=⟨zjo ha.o⟩
theorem J0(ha:JT X cA aq aj F EX a A):JW X cA aq aj F EX (.BoolOp .Or [a] pos) A:=⟨zkn ha.o⟩
theorem Ti{rest:List Expr}(ha:JT X cA aq aj F EX a A)(hb:JW X cA aq aj F EX (.BoolOp .And (b::rest) pos) B):JW X cA aq aj F EX (.BoolOp .And (a::b::rest) pos) (.and A B):=⟨zmm ha.o hb.o⟩
theorem Dn{rest:List Expr}(ha:JT X cA aq aj F EX a A)(hb:JW X cA aq aj F EX (.BoolOp .Or (b::rest) pos) B):JW X cA aq aj F EX (.BoolOp .Or (a::b::rest) pos) (.or A B):=⟨zmG ha.o hb.o⟩
theorem zZ(h:JW X cA aq aj F EX a A):JT X cA aq aj F EX a A:=⟨zoB h.o⟩
theorem Tj(hc:JT X cA aq aj F EX c C)(ha:JE X cA aq aj F EX a A)(hb:JE X cA aq aj F EX b B):JE X cA aq aj F EX (.IfExp c a b pos) (.ite C A B):=⟨zk7 hc.o ha.o hb.o⟩
theorem aG:JA X cA aq aj F EX [] .nil:=⟨zlw⟩
theorem aA(ha:JE X cA aq aj F EX a A)(hr:JA X cA aq aj F EX es Xs)(hs:aF a=true:=by rfl):JA X cA aq aj F EX (a::es) (.cons A Xs):=⟨zj5 ha.o hr.o (bA hs)⟩
theorem gY{k}(ha:JA X cA aq aj F EX es Xs)(hz:decide (Es.len Xs<=sizeLine)=true:=by rfl):JE X cA aq aj F EX (.Tuple es k pos) (.tup Xs):=⟨zlL ha.o (jU hz)⟩
theorem wu(ha:JA X cA aq aj F EX es Xs)(hz:decide (Es.len Xs<=sizeLine)=true:=by rfl):JE X cA aq aj F EX (.List es pos) (.lst fz Xs):=⟨zli ha.o (jU hz)⟩
noncomputable def vp:Expr->Bool
 |.Constant _ _ _=>true
 |.Name _ _=>true
 |.Call _ _ _ _=>true
 |.BinOp _ _ _ _=>true
 |.UnaryOp _ _ _=>true
 |.Subscript _ _ _=>true
 |.IfExp _ _ _ _=>true
 |.Attribute _ _ _=>true
 |.Compare _ _ _ _=>true
 |.BoolOp _ _ _=>true
 |_=>false
theorem cX(ha:JE X cA aq aj F EX a A)(hb:JE X cA aq aj F EX b B)(hs:vp b=true:=by rfl):JE X cA aq aj F EX (.Subscript a b pos) (.pr true .ix (.cons A (.cons B .nil))):=⟨zmI znL ha.o hb.o (by cases b<;>first|(intro _ _;rfl)|cases hs)⟩
theorem Tn:JO X cA aq aj F EX none .no:=⟨znn⟩
theorem J1(ha:JE X cA aq aj F EX a A):JO X cA aq aj F EX (some a) (.yes A):=⟨zlA ha.o⟩
theorem Nr{lo hi:Option Expr}{Lo Hi:Eo}(ha:JE X cA aq aj F EX a A)(hl:JO X cA aq aj F EX lo Lo)(hh:JO X cA aq aj F EX hi Hi):JE X cA aq aj F EX (.Subscript a (.Slice lo hi none p2) pos) (.sl fz A Lo Hi):=⟨zmH ha.o hl.o hh.o⟩
theorem zkQ(ha:JE X cA aq aj F EX a A):JE X cA aq aj F EX (.Subscript a (.Slice none none (some (.UnaryOp .USub (.Constant (.int 1) j p3) p4)) p2) pos) (.pr true .rev (.cons A .nil)):=⟨zkS ha.o⟩
theorem zma(f:Nat){cm:Bool}{k:Nat}{fa:Addr}{fd:FuncData}{ps:List Str}(Fo:cJ X.prog X.w X.K X.mg X.base (fL X.prog X.w) cm k fa fd ps (lM X.K cA (F f)))(jg:cm=true->X.aj=true)(hr:bC k X.A)(hm:X.mg x=some (.ref fa))(hk:PySem.W.keepIn X.K (.ref fa)=true)(hb:Binds X.K fd ps [])(R:JR X EX)(hg:JK X x .globalImplicit)
  (ha:JA X cA aq aj F EX (e::es) Xs) (hd:okN x=true) (he:aF e=true:=by rfl) (cO:es.all aF=true:=by rfl) :
  JE X cA aq aj F EX (.Call (.Name x p) (e::es) [] pos) (.call f Xs):=⟨zjP Fo jg hr hg.o hm hk hb R.o ha.o (vd hd).1 (bA he) (bD cO)⟩
theorem Nt(hv:FP cA kd=.ty T)(hm:X.mg x=none)(hb:bootBuiltins x=some (.type T))(hg:JK X x .globalImplicit)(hd:okN x=true):JN X cA (.Name x pos) kd:=⟨λao s Z H Q I h=>by
 rw[hv] at h;exact tO I hg.o hm hb ⟨.ty T,H,I,rfl,h⟩ (vd hd).2.2 (vd hd).1⟩
theorem Nu(h0:(uZ kd).isSome=true)(hm:X.mg "isinstance"=none)(hg:JK X "isinstance" .globalImplicit)(ha:JE X cA aq aj F EX a A)(hk:JN X cA kx kd)(h1:aF a=true:=by rfl)(h2:aF kx=true:=by rfl):JE X cA aq aj F EX (.Call (.Name "isinstance" p) [a,kx] [] pos) (.qe A kd):=
 ⟨zk3 (λz=>by rw[z] at h0;cases h0) hg.o hm ha.o hk.o (bA h1) (bA h2) (bD (by rw[Ba,h2];rfl))⟩
theorem Gd(hm:X.mg "len"=none)(hg:JK X "len" .globalImplicit)(ha:JA X cA aq aj F EX (e::es) Xs)(he:aF e=true:=by rfl)(cO:es.all aF=true:=by rfl):JE X cA aq aj F EX (.Call (.Name "len" p) (e::es) [] pos) (.pr fz .len Xs):=⟨zT zdr zl5 hg.o hm PySem.boot_len ha.o (by decide) (by decide) (bA he) (bD cO)⟩
theorem ziC(hc:X.aj=true)(hm:X.mg "max"=none)(hg:JK X "max" .globalImplicit)(ha:JA X cA aq aj F EX (e::es) Xs)(he:aF e=true:=by rfl)(cO:es.all aF=true:=by rfl):JE X cA aq aj F EX (.Call (.Name "max" p) (e::es) [] pos) (.pr fz .max2 Xs):=⟨zT (zgt hc) zjx hg.o hm PyProof.Rows.boot_max ha.o (by decide) (by decide) (bA he) (bD cO)⟩
theorem ziB(hc:X.aj=true)(hm:X.mg "min"=none)(hg:JK X "min" .globalImplicit)(ha:JA X cA aq aj F EX (e::es) Xs)(he:aF e=true:=by rfl)(cO:es.all aF=true:=by rfl):JE X cA aq aj F EX (.Call (.Name "min" p) (e::es) [] pos) (.pr fz .min2 Xs):=⟨zT (zfN hc) zj7 hg.o hm PyProof.Rows.boot_min ha.o (by decide) (by decide) (bA he) (bD cO)⟩
theorem zix(hm:X.mg "int"=none)(hg:JK X "int" .globalImplicit)(ha:JA X cA aq aj F EX (e::es) Xs)(he:aF e=true:=by rfl)(cO:es.all aF=true:=by rfl):JE X cA aq aj F EX (.Call (.Name "int" p) (e::es) [] pos) (.pr fz .uO Xs):=⟨R8 zfv zju hg.o hm PyProof.Rows.boot_int ha.o (by decide) (by decide) (bA he) (bD cO)⟩
theorem zhn(hm:X.mg "divmod"=none)(hg:JK X "divmod" .globalImplicit)(ha:JA X cA aq aj F EX (e::es) Xs)(he:aF e=true:=by rfl)(cO:es.all aF=true:=by rfl):JE X cA aq aj F EX (.Call (.Name "divmod" p) (e::es) [] pos) (.pr fz .divmod Xs):=⟨zT zd0 zfO hg.o hm PyProof.Rows.boot_divmod ha.o (by decide) (by decide) (bA he) (bD cO)⟩
theorem Tq(hc:X.aj=true)(hm:X.mg "all"=none)(hg:JK X "all" .globalImplicit)(ha:JA X cA aq aj F EX (e::es) Xs)(he:aF e=true:=by rfl)(cO:es.all aF=true:=by rfl):JE X cA aq aj F EX (.Call (.Name "all" p) (e::es) [] pos) (.pr fz .all Xs):=⟨zT (zfF hc) zkk hg.o hm PyProof.Rows.boot_all ha.o (by decide) (by decide) (bA he) (bD cO)⟩
theorem Tr(hm:X.mg "list"=none)(hg:JK X "list" .globalImplicit)(ha:JA X cA aq aj F EX (e::es) Xs)(he:aF e=true:=by rfl)(cO:es.all aF=true:=by rfl):JE X cA aq aj F EX (.Call (.Name "list" p) (e::es) [] pos) (.pr fz .list Xs):=⟨R8 zcW zjs hg.o hm Z9 ha.o (by decide) (by decide) (bA he) (bD cO)⟩
theorem vq(hm:X.mg "tuple"=none)(hg:JK X "tuple" .globalImplicit)(ha:JA X cA aq aj F EX (e::es) Xs)(he:aF e=true:=by rfl)(cO:es.all aF=true:=by rfl):JE X cA aq aj F EX (.Call (.Name "tuple" p) (e::es) [] pos) (.pr fz .tuple Xs):=⟨R8 zcL zhh hg.o hm Nq ha.o (by decide) (by decide) (bA he) (bD cO)⟩
theorem Tt(ho:JE X cA aq aj F EX a A)(hb:JE X cA aq aj F EX b B)(oE:attributeBase a "append" X.env (eval a X.env)=eval a X.env:=by rfl)(oF:(apos.endLine==pos.line)=true:=by rfl)(hs:aF b=true:=by rfl) :
  JE X cA aq aj F EX (.Call (.Attribute a "append" apos) [b] [] pos) (.push A B):=⟨ziS ho.o hb.o oE (yq hs rfl rfl) oF (bA hs) rfl⟩
theorem qy:JC X cA aq aj F EX [] .no:=⟨zlX⟩
theorem z_(h:JT X cA aq aj F EX c C):JC X cA aq aj F EX [c] (.yes C):=⟨ziQ h.o⟩
theorem sY(ha:JE X cA aq aj F EX a A):JI X cA aq aj F EX tg a (.seq A):=⟨zly ha.o⟩
theorem Tv(hmg:X.mg "range"=none)(qw:JK X "range" .globalImplicit)(ha:JE X cA aq aj F EX a A)(hb:JE X cA aq aj F EX b B)(h1:aF a=true:=by rfl)(h2:aF b=true:=by rfl):JI X cA aq aj F EX tg (.Call (.Name "range" p) [a,b] [] pos) (.rg A B):=⟨zmL qw.o hmg ha.o hb.o (bA h1) (bA h2)⟩
theorem vA(hmg:X.mg "range"=none)(qw:JK X "range" .globalImplicit)(hb:JE X cA aq aj F EX b B)(h2:aF b=true:=by rfl):JI X cA aq aj F EX tg (.Call (.Name "range" p) [b] [] pos) (.rg (.c (.int 0)) B):=⟨zlf qw.o hmg hb.o (bA h2)⟩
noncomputable def J2(scope:Scope)(x:Str):Bool:=match scope.names.lookup x with
 |some .local=>true
 |some .cell=>true
 |_=>false
theorem Gf(h:J2 scope x=true):Loc (X.blk scope cl N Cc s3 H3 fp ao).env.scope x/\((X.blk scope cl N Cc s3 H3 fp ao).fn x=true\/(X.blk scope cl N Cc s3 H3 fp ao).env.scope.names.lookup x=some .local):=by
 unfold J2 at h;split at h
 ·rename_i z;exact⟨.inl (lookup_relabel_local z),.inr (lookup_relabel_local z)⟩
 ·rename_i z;exact⟨.inr (Np (by intro y;cases y) z),.inl (by show (scope.names.lookup x==some NameKind.cell)=true;rw[z];rfl)⟩
 ·cases h
theorem mK(i:Nat)(Tw:N.Nodup)(hi:N[i]?=some x)(hl:J2 scope x=true):JY (X.blk scope cl N Cc s3 H3 fp ao) (.Name x tp) (dW i):=
 ⟨Ms Tw hi (Gf hl).1 (Gf hl).2⟩
theorem Nv(i j:Nat)(hc:X.aj=true)(Tw:N.Nodup)(hi:N[i]?=some x)(hj:N[j]?=some y)(hl:J2 scope x=true)(v8:J2 scope y=true):JY (X.blk scope cl N Cc s3 H3 fp ao) (.Tuple [.Name x px,.Name y py] kt tp) (ur X.K 2 (iJ (dW i) (iJ (dW j) uq))):=
 ⟨S6 (X:=X.blk scope cl N Cc s3 H3 fp ao) hc Tw hi hj (Gf hl).1 (Gf v8).1 (Gf hl).2 (Gf v8).2⟩
theorem Aa{scope:Scope}{XN:List Str}{M0 N:List Str}{fr:List Nat}(h:frB scope XN N fr=true):(M0++N).length=M0.length+fr.length/\∀(i:Nat) (y:Str) (j:Nat),(M0++N)[M0.length+i]?=some y->fr[i]?=some j->scope.names.lookup y=some .free/\XN[j]?=some y:=by
 obtain⟨l,q⟩:=Z0 h;refine⟨by rw[pC,l],λi y j e1 e2=>q i y j ?_ e2⟩;rw[pJ (by lia)] at e1;rw[show M0.length+i-M0.length=i by lia] at e1;exact e1
theorem nQ{elt iter tg:Expr}{ifs:List Expr}{scope:Scope}{cond:Eo}{aP:List Nat}{g:TG}{w:Wk}(sc:Scope)(XN M0 N:List Str)(fr:List Nat)(hc:X.aj=true)(J3:X.env.scope=sc)(rm:X.N=XN)(hB:sX sc scope=true)(hf:frB scope XN N fr=true)(hT:gJ X.K cA g aP)(dX:aP.all (λi=>decide (i<M0.length))=true)
  (hi:JI X cA aq aj F EX tg iter w) (hg:∀cl C s3 H3 fp ao,JY (X.blk scope cl (M0++N) C s3 H3 fp ao) tg g)
  (ht:∀cl C s3 H3 fp ao,JC (X.blk scope cl (M0++N) C s3 H3 fp ao) cA aq aj F (λ_ _ _ _=>False) ifs cond) (he:∀cl C s3 H3 fp ao,JE (X.blk scope cl (M0++N) C s3 H3 fp ao) cA aq aj F (λ_ _ _ _=>False) elt B)
  (hs:∀x,foldedSetIterable iter X.env x=pure x:=by intro _;rfl):JE X cA aq aj F EX (.ListComp elt [⟨tg,iter,ifs,0⟩] scope pos) (.comp fz B aP w fr M0.length cond):=
 ⟨ZS hc (cV.of (J3▸hB)) hi.o (Aa (rm▸hf)).1 (Aa (rm▸hf)).2 (λa b c d e f=>(hg a b c d e f).o) hT (λi hi=>jU (iu.mp dX i hi)) (λa b c d e f=>(ht a b c d e f).o) (λa b c d e f=>(he a b c d e f).o) hs⟩
theorem Kaa{scope fD:Scope}{env:Env}(h:cV scope fD):cV (relabel scope env) fD:=⟨h.kind,h.Yz,λy hy z=>by
 rcases h.free y hy z with q|q
 ·exact .inl (Np (by intro y;cases y) q)
 ·exact MP q,h.loc⟩
theorem ziG{elt iter tg:Expr}{ifs:List Expr}{scope fD:Scope}{cond:Eo}{aP:List Nat}{g:TG}{w:Wk}{cl:List (Str×Addr)}{Ab:List Str}{Cc:Addr}{s3:Shared}{H3:Hp}{fp:List Addr}{ao:List (Addr×Obj)}(XN M0 N:List Str)(fr:List Nat)(hc:X.aj=true)(rm:Ab=XN)(hB:sX scope fD=true)(hf:frB fD XN N fr=true)(hT:gJ X.K cA g aP)(dX:aP.all (λi=>decide (i<M0.length))=true)
  (hi:JI (X.blk scope cl Ab Cc s3 H3 fp ao) cA aq aj F EX tg iter w) (hg:∀cl2 C s3' J5 fp' jq,JY ((X.blk scope cl Ab Cc s3 H3 fp ao).blk fD cl2 (M0++N) C s3' J5 fp' jq) tg g)
  (ht:∀cl2 C s3' J5 fp' jq,JC ((X.blk scope cl Ab Cc s3 H3 fp ao).blk fD cl2 (M0++N) C s3' J5 fp' jq) cA aq aj F (λ_ _ _ _=>False) ifs cond) (he:∀cl2 C s3' J5 fp' jq,JE ((X.blk scope cl Ab Cc s3 H3 fp ao).blk fD cl2 (M0++N) C s3' J5 fp' jq) cA aq aj F (λ_ _ _ _=>False) elt B)
  (hs:∀x,foldedSetIterable iter (X.blk scope cl Ab Cc s3 H3 fp ao).env x=pure x:=by intro _;rfl):JE (X.blk scope cl Ab Cc s3 H3 fp ao) cA aq aj F EX (.ListComp elt [⟨tg,iter,ifs,0⟩] fD pos) (.comp fz B aP w fr M0.length cond):=by
 subst rm;exact⟨ZS (X:=X.blk scope cl Ab Cc s3 H3 fp ao) hc (Kaa (cV.of hB)) hi.o (Aa hf).1 (Aa hf).2 (λa b c d e f=>(hg a b c d e f).o) hT (λi hi=>jU (iu.mp dX i hi)) (λa b c d e f=>(ht a b c d e f).o) (λa b c d e f=>(he a b c d e f).o) hs⟩
theorem J6:JR X (λ_ _ _ _=>False):=⟨zgv⟩
theorem bx{P:Program}{w:World}{K:W.Frag}{mg:Str->Option Value}{base:Heap}{N:List Str}{qual:Str}{scope:Scope}{f:Addr}{cd:Value}{A:Around}{outer:List Env}{s:Shared}{H:Hp}{E:XK}{cm:Bool} :
  JR (dN (fL P w) P w K mg base N qual scope f cd A outer s H E cm) (λ_ C dx H'=>E C dx H'):=⟨ze5⟩
theorem wz{CX:rY}{P:Program}{w:World}{K:W.Frag}{mg:Str->Option Value}{base:Heap}{N:List Str}{qual:Str}{scope:Scope}{f:Addr}{cd:Value}{A:Around}{outer:List Env}{s:Shared}{H:Hp}{E:XK}{cm:Bool} :
  JH (dN CX P w K mg base N qual scope f cd A outer s H E cm):=⟨PassesOwn.leaving⟩
end
section
variable {X:Cx}{cA:Cl}{aq:Nat->Nat->Bool}{aj:Bool}{F:Bool->Fn}{EX:XS}{a b c d e:Expr}{A B C:E}{pos p p2:Pos}{st:Stmt}{sts body orelse:List Stmt}{m:St}{ms mb me mh:bR}{es:List Expr}{Xs:Es}{x y n:Str}{k k':NameKind}
theorem wA(h:JK X x k)(hv:lN k=true):Loc X.env.scope x:=by cases k<;>first|exact .inl h.o|exact .inr h.o|cases hv
theorem wB(h:JK X x k)(hv:X.fn x=true\/k=.local):X.fn x=true\/X.env.scope.names.lookup x=some .local:=by
 rcases hv with hv|hv
 ·exact .inl hv
 ·subst hv;exact .inr h.o
theorem aN:JB X cA aq aj F EX [] .nil:=⟨zkf⟩
theorem aH(h1:JS X cA aq aj F EX st m)(h2:JB X cA aq aj F EX sts ms):JB X cA aq aj F EX (st::sts) (.cons m ms):=⟨zg2 h1.o h2.o⟩
theorem Ac:JS X cA aq aj F EX st .no:=⟨znb⟩
theorem pI(ha:JE X cA aq aj (F aj) EX a A)(hs:swapsWith a none pos.line X.env=pure false:=by rfl):JS X cA aq aj F EX (.Expr a pos) (.ex A):=⟨zm9 ha.o hs⟩
theorem bW(ha:JE X cA aq aj (F aj) EX a A):JS X cA aq aj F EX (.Return (some a) pos) (.ret A):=⟨zkB ha.o⟩
theorem iD(i:Nat)(hN:X.N.Nodup)(hi:X.N[i]?=some x)(hx:JK X x k)(hl:lN k=true)(ha:JE X cA aq aj (F aj) EX a A)(hs:swapsWith a (some (.Name x p)) pos.line X.env=pure false:=by rfl)(hf:X.fn x=true\/k=.local:=by first|exact .inl rfl|exact .inr rfl):JS X cA aq aj F EX (.Assign [.Name x p] a pos) (.asg (.nm i) A):=
 ⟨zkT hN hi (wA hx hl) ha.o hs (wB hx hf)⟩
theorem Tz{elt iter tg:Expr}{ifs:List Expr}{scope:Scope}{cond:Eo}{aP:List Nat}{g:TG}{w:Wk}{fz:Bool}{py spos:Pos}(i:Nat)(sc:Scope)(XN M0 N:List Str)(fr:List Nat)(hN:X.N.Nodup)(sE:X.N[i]?=some y)(hx:JK X y k)(hl:lN k=true)(hc:X.aj=true)(J3:X.env.scope=sc)(rm:X.N=XN)(hB:sX sc scope=true)(hf:frB scope XN N fr=true)(hT:gJ X.K cA g aP)(dX:aP.all (λi=>decide (i<M0.length))=true)
  (hi:JI X cA aq aj (F aj) EX tg iter w) (hg:∀cl C s3 H3 fp ao,JY (X.blk scope cl (M0++N) C s3 H3 fp ao) tg g)
  (ht:∀cl C s3 H3 fp ao,JC (X.blk scope cl (M0++N) C s3 H3 fp ao) cA aq aj (F aj) (λ_ _ _ _=>False) ifs cond) (he:∀cl C s3 H3 fp ao,JE (X.blk scope cl (M0++N) C s3 H3 fp ao) cA aq aj (F aj) (λ_ _ _ _=>False) elt B)
  (uL:swapsWith (.ListComp elt [⟨tg,iter,ifs,0⟩] scope pos) (some (.Name y py)) spos.line X.env=pure true:=by rfl) (TF:X.fn y=true\/k=.local:=by first|exact .inl rfl|exact .inr rfl) (hs:∀x,foldedSetIterable iter X.env x=pure x:=by intro _;rfl) :
  JS X cA aq aj F EX (.Assign [.Name y py] (.ListComp elt [⟨tg,iter,ifs,0⟩] scope pos) spos) (.asg (.nm i) (.comp fz B aP w fr M0.length cond)):=
 ⟨zjy hc hN sE (wA hx hl) (wB hx TF) (cV.of (J3▸hB)) hi.o (Aa (rm▸hf)).1 (Aa (rm▸hf)).2 (λa b c d e f=>(hg a b c d e f).o) hT (λi hi=>jU (iu.mp dX i hi)) (λa b c d e f=>(ht a b c d e f).o) (λa b c d e f=>(he a b c d e f).o) uL hs⟩
theorem J7(i j:Nat){k0}(hc:X.aj=true)(dI:aj=true)(hN:X.N.Nodup)(hi:X.N[i]?=some x)(hj:X.N[j]?=some y)(hx:JK X x k)(hy:JK X y k')(TJ:lN k=true)(TQ:lN k'=true)(ha:JE X cA aq aj (F aj) EX a A)
  (yj:X.fn x=true\/k=.local:=by first|exact .inl rfl|exact .inr rfl) (yp:X.fn y=true\/k'=.local:=by first|exact .inl rfl|exact .inr rfl)
  (hs:swapsWithSole [.Tuple [.Name x px,.Name y py] k0 pt] a pos.line X.env=pure false:=by rfl) (hw:swappedStores [.Tuple [.Name x px,.Name y py] k0 pt] a X.env=pure none:=by rfl) (h1:(assignEach [.Tuple [.Name x px,.Name y py] k0 pt] X.env).map (·.2)=[assign (.Tuple [.Name x px,.Name y py] k0 pt) X.env]:=by rfl) :
  JS X cA aq aj F EX (.Assign [.Tuple [.Name x px,.Name y py] k0 pt] a pos) (.asg (.tp [i,j]) A):=⟨zjA hc dI hN hi hj (wA hx TJ) (wA hy TQ) (wB hx yj) (wB hy yp) ha.o hs hw h1⟩
theorem Ny(hO:JE X cA aq aj (F aj) EX oo O)(hI:JE X cA aq aj (F aj) EX ii I')(ha:JE X cA aq aj (F aj) EX a A)
  (S7:∀v,assign (.Subscript oo ii p) X.env v=(do
   let obj <-holding [v] (eval oo X.env)
   let at_ <-holding [v,obj] (eval ii X.env)
   standAt p
   holding [v,obj,at_] (setItem obj at_ v)
   release [v,obj,at_] []):=by intro _;rfl) (hs:swapsWithSole [.Subscript oo ii p] a pos.line X.env=pure false:=by rfl) (hw:swappedStores [.Subscript oo ii p] a X.env=pure none:=by rfl)
  (h1:(assignEach [.Subscript oo ii p] X.env).map (·.2)=[assign (.Subscript oo ii p) X.env]:=by rfl):JS X cA aq aj F EX (.Assign [.Subscript oo ii p] a pos) (.asg (.aq O I') A):=⟨zkW hO.o hI.o ha.o S7 hs hw h1⟩
theorem Nz(i j:Nat){kt k2 uw}(hc:X.aj=true)(dI:aj=true)(hN:X.N.Nodup)(hi:X.N[i]?=some x)(hj:X.N[j]?=some y)(xq:i≠j)(hx:JK X x .local)(hy:JK X y .local)
  (ha:JE X cA aq aj (F aj) EX a A) (hb:JE X cA aq aj (F aj) EX b B) (hw:swappedStores [.Tuple [.Name x px,.Name y py] kt pt] (.Tuple [a,b] k2 uw) X.env=pure (some [x,y])) (h1:aF a=true:=by rfl) (h2:aF b=true:=by rfl)
  (hs:swapsWithSole [.Tuple [.Name x px,.Name y py] kt pt] (.Tuple [a,b] k2 uw) pos.line X.env=pure false:=by rfl):JS X cA aq aj F EX (.Assign [.Tuple [.Name x px,.Name y py] kt pt] (.Tuple [a,b] k2 uw) pos) (.par i j A B):=
 ⟨zmc hc dI hN hi hj xq hx.o hy.o ha.o hb.o (bA h1) (bA h2) hw hs⟩
theorem zl3(i:Nat)(hN:X.N.Nodup)(hi:X.N[i]?=some x)(hx:JK X x k)(hl:lN k=true)(ha:JE X cA aq aj (F aj) EX a A)(hf:X.fn x=true\/k=.local:=by first|exact .inl rfl|exact .inr rfl)(hd:okN x=true:=by decide +kernel):JS X cA aq aj F EX (.AugAssign (.Name x p) .Add a pos) (.aug i A):=
 ⟨zmy (pos':=pos) hN hi (wA hx hl) ha.o (wB hx hf) (zlU hN hi (wA hx hl) ha.o zms (wB hx hf))⟩
theorem iy(hc:JT X cA aq aj (F aj) EX c C)(ht:JB X cA aq aj F EX body mb)(he:JB X cA aq aj F EX orelse me):JS X cA aq aj F EX (.If c body orelse pos) (.iff C mb me):=⟨znK hc.o ht.o he.o⟩
theorem TV(hp:JH X)(hc:JT X cA aq aj (F aj) EX c C)(hb:JB X cA aq aj F EX body mb):JS X cA aq aj F EX (.While c body [] pos) (.wh C mb):=⟨zg1 hp.o hc.o hb.o⟩
theorem J8(i:Nat)(hN:X.N.Nodup)(hi:X.N[i]?=some x)(hx:JK X x k)(hl:lN k=true)(hf:X.fn x=true\/k=.local:=by first|exact .inl rfl|exact .inr rfl):JG X cA aq aj F EX (.Name x pos) (.nm i):=⟨zi4 hN hi (wA hx hl) (wB hx hf)⟩
theorem zid(i j:Nat){k0}(hc:X.aj=true)(dI:aj=true)(hN:X.N.Nodup)(hi:X.N[i]?=some x)(hj:X.N[j]?=some y)(hx:JK X x k)(hy:JK X y k')(TJ:lN k=true)(TQ:lN k'=true)(yj:X.fn x=true\/k=.local:=by first|exact .inl rfl|exact .inr rfl)(yp:X.fn y=true\/k'=.local:=by first|exact .inl rfl|exact .inr rfl) :
  JG X cA aq aj F EX (.Tuple [.Name x px,.Name y py] k0 pos) (.tp [i,j]):=⟨zjl hc dI hN hi hj (wA hx TJ) (wA hy TQ) (wB hx yj) (wB hy yp)⟩
theorem Dp(hp:JH X)(hc:X.aj=true)(dI:aj=true)(ha:JI X cA aq aj (F aj) EX tg a w)(hg:JG X cA aq aj F EX tg t)(hb:JB X cA aq aj F EX body mb)(hs:∀x,foldedSetIterable a X.env x=pure x:=by intro _;rfl):JS X cA aq aj F EX (.For tg a body [] pos) (.fr t w mb):=
 ⟨zlH hp.o hc dI ha.o hg.o hb.o hs⟩
end
theorem zim{P:Program}{w:World}{K:W.Frag}{mg:Str->Option Value}{base:Heap}{cA:Cl}{aq:Nat->Nat->Bool}{T:Nat->Option Df}{x qual:Str}{st:Stmt}{f:Addr}{fd:FuncData}{N ps:List Str}{k n:Nat}{cm:Bool}{df:Df}(F:oY K x qual st f fd)(S:cj N ps (au st))(hT:T n=some df)(hp:df.fC=ps.length)(hm:df.many=N.length)
  (hb:∀(cdv:Value) (A:Around) (outer:List Env) (s:Shared) (H:Hp) (E:XK),bC k (A.deeper (envOfC qual (au st) s.heap.objs.size f cdv))->
   JB (dN (fL P w) P w K mg base N qual (au st) f cdv A outer s H E cm) cA aq cm (λc=>call aq T k c) (λ_ C dx H'=>E C dx H') (aL st) df.body) :
  cJ P w K mg base (fL P w) cm (k+1) f fd ps (lM K cA (call aq T (k+1) cm n)):=zk5 F S hT hp hm λcdv A outer s H E hr=>(hb cdv A outer s H E hr).o
section
variable {K:W.Frag}{cA:Cl}{U:Ph}{H:Hp}{kvs:iW}{xs:nj}{k:List Kx}
theorem jt.len(r:jt K cA U H kvs xs):kvs.length=xs.length:=by
 induction r with
 |nil=>rfl
 |cons _ _ _ _ ih=>rw[h_,h_,ih]
theorem zj4{j:List Kx}{a:Addr}{u:Value}{r:nj}:atKey ((j,a,u)::r) k=if j=k then some (a,u) else atKey r k:=by
 unfold atKey;rw[List.find?_cons];by_cases e:j=k
 ·simp[e]
 ·simp[e]
theorem jt.at(r:jt K cA U H kvs xs):(cI k kvs=none/\atKey xs k=none)\/∃d p v,cI k kvs=some d/\atKey xs k=some p/\RelV v p.2/\Rep K cA U H d v:=by
 induction r with
 |nil=>exact .inl ⟨rfl,rfl⟩
 |@cons j d ka u v r xs hk hu hv q ih=>
  rw[zj4];unfold cI;by_cases e:j=k
  ·rw[if_pos e,if_pos e];exact .inr ⟨d,(ka,u),v,rfl,rfl,hu,hv⟩
  ·rw[if_neg e,if_neg e];exact ih
theorem jt.isSome(r:jt K cA U H kvs xs):(atKey xs k).isSome=(cI k kvs).isSome:=by
 rcases r.at (k:=k) with ⟨a,b⟩|⟨d,p,v,a,b,_⟩<;>rw[a,b]<;>rfl
theorem jt.app{kvs':iW}{xs':nj}(r:jt K cA U H kvs xs)(r':jt K cA U H kvs' xs'):jt K cA U H (kvs++kvs') (xs++xs'):=by
 induction r with
 |nil=>exact r'
 |cons a b c _ ih=>exact .cons a b c ih
theorem jt.put{ka:Addr}{u:Value}{v:V}{d:D}(r:jt K cA U H kvs xs)(hk:Rep K cA U H (ji k) (.ref ka))(hu:RelV v u)(hv:Rep K cA U H d v):jt K cA U H (jG k d kvs) (storedH xs k ka u):=by
 unfold jG storedH;rw[r.isSome];by_cases e:(cI k kvs).isSome=true
 ·rw[if_pos e,if_pos e];clear e
  induction r with
  |nil=>exact .nil
  |@cons j d' ka' u' v' r xs NK hu' QD q ih=>
   rw[jo,jo];show jt K cA U H ((if j=k then (j,d) else (j,d'))::_) ((if j=k then (j,ka',u) else (j,ka',u'))::_);by_cases e:j=k
   ·rw[if_pos e,if_pos e];exact .cons NK hu hv ih
   ·rw[if_neg e,if_neg e];exact .cons NK hu' QD ih
 ·rw[if_neg e,if_neg e];exact r.app (.cons hk hu hv .nil)
end
section
variable {X:Cx}{cA:Cl}{ao:List (Addr×Obj)}{Z:L2.St}{H:Hp}{s:Shared}{U:Ph}{a:Addr}{kvs:iW}{xs:nj}{k:List Kx}{y v:V}{u:Value}{A:Around}{E:Value->Shared->Prop}
theorem TX(I:Inv X ao Z H s)(e:H a=some (uU a xs))(r:jt X.K cA U H kvs xs):(a==sysModules)=false/\xs.length<=sizeLine/\s.heap.DictOfH (jR X.prog X.w) a xs:=by
 have z:=(I.hok a _ e).1;obtain⟨h1,h2,o,es,ep,h3,h4,h5,h6,h7⟩:=z;refine⟨h1,h2,o,es,ep,h3,h4,h5,h6,?_,h7⟩;clear h2 h6 h7 e
 induction r with
 |nil=>exact λx hx=>nomatch hx
 |cons hk hu hv q ih=>exact List.forall_mem_cons.mpr ⟨sW I hk rfl,ih⟩
theorem TY{d:D}(hk:Rep X.K cA U H (ji k) y):∃b,y=.ref b:=by cases hk;exact⟨_,rfl⟩
noncomputable def tGx(K:W.Frag)(cA:Cl)(td ty:TE):TE:=λZ H Q=>td Z H λx H1=>ty Z H1 λy H2=>∃a U kvs xs k d,x=.ref a/\H2 a=some (uU a xs)/\jt K cA U H2 kvs xs/\Rep K cA U H2 (ji k) y/\cI k kvs=some d/\∀v,Rep K cA U H2 d v->Q v H2
noncomputable def tIx(K:W.Frag)(cA:Cl)(f:Bool->Bool)(ty td:TE):TE:=λZ H Q=>ty Z H λy H1=>td Z H1 λx H2=>∃a U kvs xs k,x=.ref a/\H2 a=some (uU a xs)/\jt K cA U H2 kvs xs/\Rep K cA U H2 (ji k) y/\Q (.bl (f (cI k kvs).isSome)) H2
noncomputable def sPx(K:W.Frag)(cA:Cl)(td ty tv:TE):TS:=λD Z H=>tv Z H λv H1=>td Z H1 λx H2=>ty Z H2 λy H3=>∃a b U kvs xs k d,x=.ref a/\H3 a=some (uU a xs)/\jt K cA U H3 kvs xs/\y=.ref b/\Rep K cA U H3 (ji k) y/\Rep K cA U H3 d v/\kvs.length<sizeLine /\
 ∀u,RelV v u->D.nx Z (upd H3 a (uU a (storedH xs k b u)))
variable {o i value:Expr}{pos pos':Pos}{td ty tv:TE}
theorem zm8(hu:X.A.units+5<cLine)(ho:PE X o td)(hi:PE X i ty)(hs:C_ i):PE X (.Subscript o i pos) (tGx X.K cA td ty):=by
 intro ao s Z H Q I h;refine ziN PySem.F.slot_dict_getitem.lookup hs (aV (ho ao s Z H _ I h) λu s1 hx=>fH hx λx H1 I1 rx q1=>aV (hi ao s1 Z H1 _ I1 q1) λiv s2 ⟨y,H2,I2,ry,a,U,kvs,xs,k,d,ex,ea,rr,rk,g,q2⟩=>?_);subst ex;obtain rfl:u=Value.ref a:=rx;obtain⟨b,rfl⟩:=TY (d:=d) rk;obtain rfl:iv=Value.ref b:=ry;obtain⟨z1,z2,dd⟩:=TX I2 ea rr;rcases rr.at (k:=k) with ⟨z,_⟩|⟨d',p,v,z,hp,rv,rd⟩
 ·rw[g] at z;cases z
 ·rw[g] at z;cases z;exact⟨dd.typeIs,wpAny_getItem_heap (knd:=jR X.prog X.w) (show X.A.units+1+4<cLine by lia) (sW I2 rk rfl) dd hp ⟨v,H2,I2.tok _,rv,q2 v rd⟩⟩
theorem zkI(hu:X.A.units+5<cLine)(hi:PE X i ty)(ho:PE X o td):PC X .NotIn i o (tIx X.K cA not ty td):=by
 intro ao s Z H Q I h;refine aV (hi ao s Z H _ I h) λiv s1 hx=>fH hx λy H1 I1 ry q1=>aV (ho ao s1 Z H1 _ I1 q1) λu s2 ⟨x,H2,I2,rx,a,U,kvs,xs,k,ex,ea,rr,rk,q2⟩=>?_;subst ex;obtain rfl:u=Value.ref a:=rx;obtain⟨b,rfl⟩:=TY (d:=.non) rk;obtain rfl:iv=Value.ref b:=ry;obtain⟨z1,z2,dd⟩:=TX I2 ea rr;exact wpAny_notIn_heap (knd:=jR X.prog X.w) (show X.A.units+1+4<cLine by lia) (sW I2 rk rfl) z1 dd ⟨_,H2,I2.tok _,by rw[rr.isSome];rfl,q2⟩
theorem zfp{xs:nj}{b:Addr}{u:Value}:(storedH xs k b u).length<=xs.length+1:=by
 unfold storedH
 split
 ·rw[eY];lia
 ·simp
theorem zne(hu:X.A.units+5<cLine)(ho:PE X o td)(hi:PE X i ty)(hv:PE X value tv)(hs:swapsWith value (some (.Subscript o i pos')) pos.line X.env=pure false):PS X (.Assign [.Subscript o i pos'] value pos) (sPx X.K cA td ty tv):=by
 intro ao s Z H D I h;refine wpAny_Assign_Subscript (aV (hv ao s Z H _ I h) λr s1 hx=>fH hx λv H1 I1 rv q1=>aV (ho ao s1 Z H1 _ I1 q1) λu s2 hx=>fH hx λx H2 I2 rx q2=>aV (hi ao s2 Z H2 _ I2 q2) λiv s3 ⟨y,H3,I3,ry,a,b,U,kvs,xs,k,d,ex,ea,rr,ey,rk,rd,hl,q3⟩=>?_) hs;subst ex ey;obtain rfl:u=Value.ref a:=rx;obtain rfl:iv=Value.ref b:=ry;obtain⟨z1,z2,dd⟩:=TX I3 ea rr;have v8:xs.length+1<=sizeLine:=by rw[<-rr.len];exact hl
 refine wpAny_setItem_heap (knd:=jR X.prog X.w) (hsz:=z2) (show X.A.units+1+4<cLine by lia) (sW I3 rk rfl) dd λh' dd' hs'=>⟨Z,_,?_,q3 r rv⟩;obtain⟨q,es,ep,hq,h2,h3,h4,_,h5⟩:=dd';exact ziM I3 (by rw[ea];exact True.intro) hs' ⟨q,hq⟩ ⟨⟨z1,jO zfp v8,q,es,ep,hq,h2,h3,h4,h5⟩,⟨q,hq⟩,λh1 h2 ⟨a1,a2,o,es,ep,a3,a4⟩ kp=>⟨a1,a2,o,es,ep,kp o a3,a4⟩⟩
theorem zns:PE X (.Dict [] [] pos) (λ_ H Q=>∀p,H p=none->Q (.ref p) (upd H p (uU p []))):=λao s Z H Q I h=>
 wpAny_Dict_empty ⟨.ref s.heap.objs.size,_,I.laid (a:=s.heap.objs.size) (o:=uU s.heap.objs.size []) (t':=s.toks) (λ_ _ q=>cG _ q) (cD _)
  ⟨⟨D_.mpr (Ne.symm (c7 I.big)),rP _,_,#[],0,eE _ rfl,⟨rfl,rfl,rfl⟩,rfl,rfl,Az⟩,⟨_,eE _ rfl⟩,λh1 h2 ⟨a1,a2,o,es,ep,a3,a4⟩ kp=>⟨a1,a2,o,es,ep,kp o a3,a4⟩⟩,rfl,h _ (I.hok.fresh (cD _))⟩
end
section
variable {X:Cx}{cA:Cl}{aq:Nat->Nat->Bool}{aj:Bool}{F:Fn}{EX:XS}{a b:Expr}{A B:E}{pos p:Pos}{K:W.Frag}{U:Ph}{H:Hp}{s:S}
theorem T3{β:Type}{x:Xv}{v:V}{k:List Kx->M β}{P:β->S->Ph->Hp->Prop}{Ee:Nat->List D->S->Ph->Hp->Prop}(r:aU K cA U H x v)(h:Run K cA (M.bd (key x) k) U H s P Ee):∃kx,Rep K cA U H (ji kx) v/\Run K cA (k kx) U H s P Ee:=by
 cases r with
 |l _=>exact h.elim
 |@d y _ r=>
  obtain⟨kx,e,h2⟩:=Run.nu (o:=kOf y) h;rw[zmB e] at r;exact⟨kx,r,h2⟩
theorem T4{β:Type}{x:Xv}{v:V}{k:Nat×iW->M β}{P:β->S->Ph->Hp->Prop}{Ee:Nat->List D->S->Ph->Hp->Prop}(hS:aD K cA U H s)(r:aU K cA U H x v)(h:Run K cA (M.bd (gD x) k) U H s P Ee) :
  ∃n ad kvs xs,x=.l n/\v=.ref ad/\s[n]?=some (.dct kvs)/\U.l[n]?=some ad/\H ad=some (uU ad xs)/\jt K cA U H kvs xs/\Run K cA (k (n,kvs)) U H s P Ee:=by
 cases r with
 |d _=>exact h.elim
 |@l n ad hl=>
  unfold Run M.bd gD at h;dsimp only at h;cases e:s[n]? with
  |none=>rw[e] at h;exact h.elim
  |some o=>
   rw[e] at h;cases o with
   |dct kvs=>
    obtain⟨xs,q1,q2⟩:=hS.obj n _ _ e hl;exact⟨n,ad,kvs,xs,rfl,rfl,e,hl,q1,q2,h⟩
   |_=>exact h.elim
theorem zkt{k:Nat}(hr:bC k X.A)(ha:JE X cA aq aj F EX a A)(hb:JE X cA aq aj F EX b B)(hs:C_ b:=by exact λ_ _=>rfl):JE X cA aq aj F EX (.Subscript a b pos) (.oN A B):=⟨PE.weak (zm8 (cA:=cA) (by have:=hr.un;lia) ha.o hb.o hs) λZ H Q hh=>un hh λU J s hL hS h=>by
 refine bw hL hS h λx H1 U1 d1 s1 x1 hL1 aJ r1 h1=>bw hL1 aJ h1 λy H2 U2 d2 s2 x2 hL2 aR r2 h2=>?_;obtain⟨kx,rk,h3⟩:=T3 r2 h2;obtain⟨n,ad,kvs,xs,_,rfl,e1,e2,e3,rr,h4⟩:=T4 aR (r1.mono x2 aJ.lz) h3;have h4:Run X.K cA (M.opt ((cI kx kvs).map Xv.d)) U2 H2 s2 (λd _ U' H'=>∀v,aU X.K cA U' H' d v->Q v H') (eX X.K cA EX Z):=h4;cases e:cI kx kvs with
 |none=>rw[e] at h4;exact h4.elim
 |some d=>
  rw[e] at h4;exact⟨ad,U2,kvs,xs,kx,d,rfl,e3,rr,rk,e,λv rv=>h4.bK aR v (.d rv)⟩⟩
theorem zjq{b':Bool}{Z:L2.St}{Q:VK}(f:Bool->Bool)(hf:∀c,f c=(c==b'))(hh:tE X.K cA EX (ev aq aj F (.zK b' A B)) Z H Q):tIx X.K cA f (tE X.K cA EX (ev aq aj F A)) (tE X.K cA EX (ev aq aj F B)) Z H Q:=un hh λU J s hL hS h=>by
 refine bw hL hS h λx H1 U1 d1 s1 x1 hL1 aJ r1 h1=>bw hL1 aJ h1 λy H2 U2 d2 s2 x2 hL2 aR r2 h2=>?_;obtain⟨kx,rk,h3⟩:=T3 (r1.mono x2 aJ.lz) h2;obtain⟨n,ad,kvs,xs,_,rfl,e1,e2,e3,rr,h4⟩:=T4 aR r2 h3;refine⟨ad,U2,kvs,xs,kx,rfl,e3,rr,rk,?_⟩;rw[hf];exact h4.bK aR _ (.d (.bl _))
theorem zf5{m:Vs->M Xv}{Z:L2.St}{Q:Bool->Hp->Prop}(hh:qY K cA EX (λJ=>M.bd (m J) bool) Z H Q):tE K cA EX m Z H λx H1=>∃c,x=.bl c/\Q c H1:=un hh λU J s hL hS h=>
 ⟨U,J,s,hL,hS,h.bd.imp λd s1 U1 H1 ⟨_,r1,h1⟩ v rv=>zg8 r1 rv h1⟩
theorem zkM{k:Nat}(hr:bC k X.A)(ha:JE X cA aq aj F EX a A)(hb:JE X cA aq aj F EX b B)(h1:oZ b=true:=by rfl):JT X cA aq aj F EX (.Compare a [.NotIn] [b] pos) (.zK false A B):=⟨PT.weak (Qm (zkI (cA:=cA) (by have:=hr.un;lia) ha.o hb.o) (yr h1)) λZ H Q hh=>zjq not (λc=>by cases c<;>rfl) (zf5 hh)⟩
theorem zmi:JE X cA aq aj F EX (.Dict [] [] pos) .qg:=⟨PE.weak zns λZ H Q hh=>un hh λU J s hL hS h p hp=>
 h (U.add p) _ (Ext.add hp) (hS.Jo hp ⟨[],iH,.nil⟩) _ (.l (by show (U.l++[p])[s.length]?=_;rw[<-hS.len];simp))⟩
end
section
variable {X:Cx}{cA:Cl}{aq:Nat->Nat->Bool}{aj:Bool}{F:Bool->Fn}{EX:XS}{a oo ii:Expr}{A O I':E}{pos p:Pos}
theorem zlG{k:Nat}(hr:bC k X.A)(hO:JE X cA aq aj (F aj) EX oo O)(hI:JE X cA aq aj (F aj) EX ii I')(ha:JE X cA aq aj (F aj) EX a A)(hs:swapsWith a (some (.Subscript oo ii p)) pos.line X.env=pure false:=by rfl) :
  JS X cA aq aj F EX (.Assign [.Subscript oo ii p] a pos) (.dput O I' A):=⟨PS.weak (zne (cA:=cA) (by have:=hr.un;lia) hO.o hI.o ha.o hs) λD Z H hh=>un hh λU J s hL hS h=>by
 refine bw hL hS (aX.ofM hL hS.lz h) λz H1 U1 d1 s1 x1 hL1 aJ r1 h1=>?_;obtain⟨w,_,lH,h2⟩:=Nb r1 h1;refine bw hL1 aJ h2 λx H2 U2 d2 s2 x2 hL2 aR r2 h3=>bw hL2 aR h3 λy H3 U3 d3 s3 x3 oW gQ r3 h4=>?_;obtain⟨kx,rk,h5⟩:=T3 r3 h4;obtain⟨n,ad,kvs,xs,_,rfl,e1,e2,e3,rr,h6⟩:=T4 gQ (r2.mono x3 aR.lz) h5;obtain⟨b,rfl⟩:=TY (X:=X) (d:=.non) rk;have rw3:=(lH.mono x2 aJ.lz).mono x3 aR.lz;by_cases hz:kvs.length<sizeLine
 ·refine⟨ad,b,U3,kvs,xs,kx,w,rfl,e3,rr,rfl,rk,rw3,hz,λu ru=>?_⟩;have h6:Run X.K cA (if kvs.length<sizeLine then putD n (jG kx w kvs) else M.no) U3 H3 s3 _ _:=h6;rw[if_pos hz] at h6;have x4:Ext U3 H3 U3 (upd H3 ad (uU ad (storedH xs kx b u))):=Ext.write e2 ⟨_,e3⟩;have rS:=gQ.uV (so:=.dct (jG kx w kvs)) (ho:=uU ad (storedH xs kx b u)) (f9.mp e1).1 e2 ⟨_,iH,(rr.put rk ru rw3).map λ_ _ r=>r.mono x4 gQ.lz⟩;obtain⟨x5,r5,h7⟩:=h6 U3 _ x4 rS;exact h7 U3 _ Z Ext.refl rS (oW.mono x4 gQ.lz)
 ·have h6:Run X.K cA (if kvs.length<sizeLine then putD n (jG kx w kvs) else M.no) U3 H3 s3 _ _:=h6;rw[if_neg hz] at h6;exact h6.elim⟩
end
end Mi
namespace Mi
open PySem PySem.Spec PyProof.Rows L2 PySem.W
theorem zlc{fd:FuncData}{x:Str}{st:Stmt}(h:nZ fd=vQ x st):fd=fnOf x x (aZ st) (aL st) (au st) .none fd.kwdefaults fd.doc fd.pyModule fd.annotations fd.code fd.closureTuple:=by
 cases fd;unfold nZ vQ at h;cases h;rfl
noncomputable def fZ(K:Frag)(x:Str):Addr:=match wO K x with
 |some p=>p.1
 |none=>0
noncomputable def fdOf(K:Frag)(x:Str)(st:Stmt):FuncData:=match wO K x with
 |some p=>p.2
 |none=>vQ x st
structure FnAt(K:Frag)(x:Str)(st:Stmt):Prop where
 ns:nsIn K mainGlobals x=some (some (.ref (fZ K x)))
 fn:oY K x x st (fZ K x) (fdOf K x st)
theorem znh{K:Frag}{x:Str}{st:Stmt}(h:(wO K x).map (λp=>nZ p.2)=some (vQ x st)):FnAt K x st:=by
 cases e:wO K x with
 |none=>rw[e] at h;cases h
 |some p=>
  rw[e] at h;have hp:nZ p.2=vQ x st:=cW h;have h1:fZ K x=p.1:=by unfold fZ;rw[e]
  have h2:fdOf K x st=p.2:=by unfold fdOf;rw[e]
  unfold wO at e;split at e
  ·rename_i f hf;split at e
   ·rename_i oc od fd sl hl;split at e
    ·rename_i hc;cases e;rw[fu] at hc;refine⟨by rw[h1];exact hf,?_⟩;rw[h1,h2];exact⟨⟨oc,od,_,_,_,_,_,_,sl,zlc hp,hl,hc.1⟩,hc.2⟩
    ·cases e
   ·cases e
  ·cases e
theorem FnAt.m{K:Frag}{x:Str}{st:Stmt}(F:FnAt K x st){h:Heap}{mg:Str->Option Value}(X:K.In h)(G:h.Ns mainGlobals mg):mg x=some (.ref (fZ K x)):=mg_of X G F.ns
theorem zm0{K:Frag}{x:Str}(h:ug K x=true){hp:Heap}{mg:Str->Option Value}(X:K.In hp)(G:hp.Ns mainGlobals mg):mg x=some (.ref (eF K x)):=by
 refine mg_of X G ?_;unfold ug at h;unfold eF;split at h
 ·rename_i C e;rw[e]
 ·cases h
theorem T5{K:Frag}{x:Str}{i:Int}(h:mU K (x,i)=true){hp:Heap}{mg:Str->Option Value}(X:K.In hp)(G:hp.Ns mainGlobals mg):∃t,mg x=some (.int i t):=by
 unfold mU at h;split at h
 ·rename_i j t e;rw[yZ] at h;subst h;exact⟨t,mg_of X G e⟩
 ·cases h
theorem rB{K:Frag}{x:Str}(h:qI K x=true){hp:Heap}{mg:Str->Option Value}(X:K.In hp)(G:hp.Ns mainGlobals mg):mg x=none:=by
 refine mg_none_of X G ?_;unfold qI at h;split at h
 ·rename_i e;exact e
 ·cases h
structure Ad(l:Lk)(K:Frag):Prop where
 cl:∀x∈l.G8,ug K x=true
 cs:l.G8.isEmpty=true\/zp K (l.L K)=true
 ra:∀k∈l.Xj,G7 K (iZ (l.L K) k)=true
 ca:∀k∈l.Xk,subB K (l.L K) k=true
 it:∀p∈l.wQ,mU K p=true
 no:∀x∈l.Xi,qI K x=true
theorem Kac{l:Lk}{K:Frag}(h:l.good K=true):Ad l K:=by
 unfold Lk.good at h;simp only[fu,LC,iu] at h;obtain⟨⟨⟨⟨⟨h1,h2⟩,h3⟩,h4⟩,h5⟩,h6⟩:=h;exact⟨h1,h2,h3,h4,h5,h6⟩
theorem yt{K:Frag}{x:Str}{st:Stmt}{f:Addr}{fd:FuncData}{p:Str}(F:oY K x x st f fd)(h:∀(kV doc pm:Value) (an:Option Addr) (cdv ct a:Value),bindArgs (fnOf x x (aZ st) (aL st) (au st) .none kV doc pm an cdv ct) ⟨[a],[]⟩=pure [(p,a)]):Binds K fd [p] []:=by
 obtain⟨oc,od,kV,doc,pm,an,cdv,ct,osl,rfl,lk,iI⟩:=F.ex;exact Di (h kV doc pm an cdv ct)
theorem yu{K:Frag}{x:Str}{st:Stmt}{f:Addr}{fd:FuncData}{p q:Str}(F:oY K x x st f fd)(h:∀(kV doc pm:Value) (an:Option Addr) (cdv ct a b:Value),bindArgs (fnOf x x (aZ st) (aL st) (au st) .none kV doc pm an cdv ct) ⟨[a,b],[]⟩=pure [(p,a),(q,b)]):Binds K fd [p,q] []:=by
 obtain⟨oc,od,kV,doc,pm,an,cdv,ct,osl,rfl,lk,iI⟩:=F.ex;exact vg (h kV doc pm an cdv ct)
theorem yw{K:Frag}{x:Str}{st:Stmt}{f:Addr}{fd:FuncData}{p q t:Str}(F:oY K x x st f fd)(h:∀(kV doc pm:Value) (an:Option Addr) (cdv ct a b c:Value),bindArgs (fnOf x x (aZ st) (aL st) (au st) .none kV doc pm an cdv ct) ⟨[a,b,c],[]⟩=pure [(p,a),(q,b),(t,c)]):Binds K fd [p,q,t] []:=by
 obtain⟨oc,od,kV,doc,pm,an,cdv,ct,osl,rfl,lk,iI⟩:=F.ex;exact vh (h kV doc pm an cdv ct)
theorem yx{K:Frag}{x:Str}{st:Stmt}{f:Addr}{fd:FuncData}{p q t u:Str}(F:oY K x x st f fd)(h:∀(kV doc pm:Value) (an:Option Addr) (cdv ct a b c d:Value),bindArgs (fnOf x x (aZ st) (aL st) (au st) .none kV doc pm an cdv ct) ⟨[a,b,c,d],[]⟩=pure [(p,a),(q,b),(t,c),(u,d)]):Binds K fd [p,q,t,u] []:=by
 obtain⟨oc,od,kV,doc,pm,an,cdv,ct,osl,rfl,lk,iI⟩:=F.ex;exact vm (h kV doc pm an cdv ct)
theorem Dq{K:Frag}{x:Str}{st:Stmt}{f:Addr}{fd:FuncData}{p:Str}(F:oY K x x st f fd)(h:∀(kV doc pm:Value) (an:Option Addr) (cdv ct a:Value),bindArgs (fnOf x x (aZ st) (aL st) (au st) .none kV doc pm an cdv ct) ⟨[a],[]⟩=pure [(p,a)]):∀(s:Shared) (u:Value),BindsTo s fd ⟨[u],[]⟩ [(p,u)]:=by
 obtain⟨oc,od,kV,doc,pm,an,cdv,ct,osl,rfl,lk,iI⟩:=F.ex;exact λs u=>.of_eq (h kV doc pm an cdv ct u)
end Mi
namespace Mi
open PySem PySem.Spec PyProof.Rows L2
theorem zdb:∀{is:List Nat} {ds:List α} {J J':List (Option α)},gH is ds J=some J'->∀j,j∉is->J'[j]?=J[j]?
 |[],[],J,J',e,j,_=>by cases e;rfl
 |[],_::_,J,J',e,j,_=>by cases e
 |_::_,[],J,J',e,j,_=>by cases e
 |i::is,d::ds,J,J',e,j,h=>by
  have h1:=zdb (is:=is) (ds:=ds) e j (λz=>h (iG _ z));rw[h1,qF (λz=>h (by rw[z];exact lQ))]
theorem zhq{tg:List Nat}{x:D}{J J':Vs}(e:fP tg x J=some J')(j:Nat)(h:j∉tg):J'[j]?=J[j]?:=by
 unfold fP at e;split at e
 ·cases e;rw[qF (λz=>h (by simp[z]))]
 ·cases ht:j_ x with
  |none=>rw[ht] at e;cases e
  |some ds=>rw[ht] at e;exact zdb e j h
theorem zhA{many:Nat}{fr:List Nat}{J:Vs}{i:Nat}(h:i<many):(blk many fr J)[i]?=some none:=by
 unfold blk;rw[pB (by simpa using h),Al,if_pos h]
section
variable {K:W.Frag}{cA:Cl}{U U' kj:Ph}{H H' nq:Hp}{s:S}
theorem Ext.put{Dd:Addr}{us vs:List V}(x:Ext U H U' (upd H' Dd (.lst us)))(k:Keep U H Dd us):Ext U (upd H Dd (.lst vs)) U' (upd H' Dd (.lst vs)):=by
 obtain⟨r,er,hr⟩:=x.more;have nD:∀b,H b=none->b≠Dd:=λb e z=>by rw[z,k.at_] at e;cases e
 refine⟨⟨r,er,λb hb=>by rw[bZ (nD b (hr b hb))];exact hr b hb⟩,x.qu,λa z=>?_,λa o e t n=>?_,λa o e=>?_⟩
 ·rcases x.kh a z with z|z
  ·exact .inl z
  ·exact .inr (by rw[bZ (nD a z)];exact z)
 ·by_cases z:a=Dd
  ·subst z;rw[iH] at e ⊢;exact e
  ·rw[bZ z] at e ⊢;have:=x.frame a o e t n;rw[bZ z] at this;exact this
 ·by_cases z:a=Dd
  ·subst z;exact⟨_,iH⟩
  ·rw[bZ z] at e ⊢;have:=x.stay a o e;rw[bZ z] at this;exact this
theorem aY.slots{Z Z':L2.St}{J:Vs}{is:List Nat}(h:aY K cA U H Z J)(hl:Z'.length=Z.length)(he:∀j,j∉is->Z'[j]?=Z[j]?)(hn:∀i∈is,∀x,J[i]?≠some (some x)):aY K cA U H Z' J:=by
 refine⟨hl.trans h.1,λi x e=>?_⟩;obtain⟨v,a,b⟩:=h.2 i x e;exact⟨v,by rw[he i λz=>hn i z x e];exact a,b⟩
end
section
variable {X:Cx}{cA:Cl}{aq:Nat->Nat->Bool}{aj:Bool}{F:Fn}{EX:XS}{elt iter tg iter₂ tg₂:Expr}{A B:E}{pos p:Pos}{ifs:List Expr}{scope:Scope}{N:List Str}{cond:Eo}{fr aP aP₂:List Nat}{many:Nat}{fz:Bool}{w w₂:Wk}
theorem zjk{K:W.Frag}{g:TG}{U1 U':Ph}{H1 H':Hp}{s':S}{Z3:L2.St}{J':Vs}{Dd:Addr}{acc:List D}{vs:List V}{β:Type}{kk:List D->M β}{P:β->S->Ph->Hp->Prop}{Ee:Nat->List D->S->Ph->Hp->Prop}{c:Src}{n:Nat}{bf:It}
  (hT:gJ K cA g aP) (dX:∀i∈aP,i<many) (pY:∀i∈aP,∀x,J'[i]?≠some (some x)) (hD:H1 Dd=none) (x2:Ext U1 H1 U' H') (hL:aY K cA U' H' Z3 J') (aR:aD K cA U' H' s') (kp:Keep U' H' Dd vs) (pG:aC K cA U' H' acc vs) (hJ:jJ K cA c U' H' bf)
  (h:Run K cA (M.bd (walk c (cg aq aj F B cond aP J') (n+1) 0 acc) kk) U1 H1 s' P Ee) {Nn:L2.St->Hp->Prop}
  (hN:∀Z4 H4 U4 s4 J9 vs4,Z4.length=Z3.length->(∀i,i∉aP->Z4[i]?=Z3[i]?)->Ext U1 H1 U4 H4->Ext U' H' U4 (upd H4 Dd (.lst vs))->aD K cA U4 H4 s4->Keep U4 H4 Dd vs4->aC K cA U4 H4 J9 vs4->Run K cA (kk J9) U1 H1 s4 P Ee->Nn Z4 H4) :
  Ry g (qY K cA (λ_ _ _ _=>False) (m_ aq aj F cond)) (tE K cA (λ_ _ _ _=>False) (ev aq aj F B)) Dd bf Z3 H' Nn:=by
 refine⟨λi m J_ nq=>m=n+1-i/\(J_.length=Z3.length/\∀j,j∉aP->J_[j]?=Z3[j]?)/\∃kj s'' gZ vs'',Ext U1 H1 kj nq/\Ext U' H' kj (upd nq Dd (.lst vs))/\aD K cA kj nq s''/\Keep kj nq Dd vs''/\aC K cA kj nq gZ vs'' /\
  Run K cA (M.bd (walk c (cg aq aj F B cond aP J') (n+1-i) i gZ) kk) U1 H1 s'' P Ee,⟨n+1,rfl,⟨rfl,λ_ _=>rfl⟩,U',s',acc,vs,x2,by rw[FZ kp.at_];exact Ext.refl,aR,kp,pG,h⟩,?_⟩
 rintro i m J_ nq ⟨rfl,hZ,kj,s'',gZ,vs'',x3,xb,gQ,k3,r3,h3⟩;have ox:cR kj (upd nq Dd (.lst vs)) nq:=λa o e nz=>by
  rw[bZ (λz=>nz (by rw[z];exact k3.z))] at e;exact e
 have oW:aY K cA kj nq J_ J':=((hL.mono xb aR.lz).out ox).slots hZ.1 hZ.2 pY;cases ek:n+1-i with
 |zero=>rw[ek] at h3;exact h3.elim
 |succ k=>
  rw[ek] at h3;cases ei:c.at i s'' with
  |none=>
   exfalso
   unfold Run M.bd walk at h3;simp only[ei] at h3
  |some oi=>
   cases oi with
   |none=>
    refine .inl ⟨hJ.stop kj _ nq s'' i xb ox gQ ei,?_⟩;have h4:Run K cA (kk gZ) U1 H1 s'' P Ee:=by
     unfold Run M.bd walk at h3;simp only[ei] at h3;exact h3
    exact hN J_ nq kj s'' gZ vs'' hZ.1 hZ.2 x3 xb gQ k3 r3 h4
   |some xi=>
    refine .inr ⟨hJ.go kj _ nq s'' i xi xb ox gQ ei,λZ2 H2=>(Z2.length=Z3.length/\∀j,j∉aP->Z2[j]?=Z3[j]?)/\∃kj s'' gZ vs'',Ext U1 H1 kj H2/\Ext U' H' kj (upd H2 Dd (.lst vs))/\aD K cA kj H2 s''/\Keep kj H2 Dd vs''/\aC K cA kj H2 gZ vs'' /\
     Run K cA (M.bd (walk c (cg aq aj F B cond aP J') k (i+1) gZ) kk) U1 H1 s'' P Ee,λZ2 H2 hn=>⟨k,by omega,by omega,hn.1,?_⟩,λv H2 hy=>?_⟩
    ·have:n+1-(i+1)=k:=by omega
     rw[this];exact hn.2
    ·obtain⟨gr,rx⟩:=hJ.ux kj _ nq s'' i xi v H2 xb ox gQ ei hy;have h4:Run K cA (M.bd (cg aq aj F B cond aP J' xi gZ) λacc'=>M.bd (walk c (cg aq aj F B cond aP J') k (i+1) acc') kk) U1 H1 s'' P Ee:=by
      have h5:=SN (m':=M.bd (cg aq aj F B cond aP J' xi gZ) λacc'=>walk c (cg aq aj F B cond aP J') k (i+1) acc') (by rw[walk];simp only[ei]) h3;rw[gP] at h5;exact h5
     have kg:=k3.mono gr.ext;have xg:Ext U' H' kj (upd H2 Dd (.lst vs)):=xb.trans (Ext.put (us:=vs'') (vs:=vs) (by rw[FZ kg.at_];exact gr.ext) k3);refine sZ hT (x3.trans gr.ext) hD (oW.mono gr.ext gQ.lz) (gQ.grow gr) kg (r3.mono gr.ext gQ.lz) rx h4 λZ3' H3 U3 s3 nA yh l3 f3 x3' xe T6 k3' r3' h6=>⟨⟨l3.trans hZ.1,λj hj=>(f3 j hj).trans (hZ.2 j hj)⟩,U3,s3,nA,yh,x3',xg.trans (Ext.put (us:=vs'') (vs:=vs) xe kg),T6,k3',r3',h6⟩
where
 sZ {K:W.Frag} {g:TG} {U1 U':Ph} {H1 H2:Hp} {s':S} {Z':L2.St} {Jb:Vs} {Dd:Addr} {acc:List D} {vs:List V} {xi:D} {v:V} {β:Type} {kk:List D->M β} {P:β->S->Ph->Hp->Prop} {Ee:Nat->List D->S->Ph->Hp->Prop} (hT:gJ K cA g aP)
  (x2:Ext U1 H1 U' H2) (hD:H1 Dd=none) (hL2:aY K cA U' H2 Z' Jb) (aR:aD K cA U' H2 s') (kp:Keep U' H2 Dd vs) (pG:aC K cA U' H2 acc vs) (rx:Rep K cA U' H2 xi v)
  (h:Run K cA (M.bd (cg aq aj F B cond aP Jb xi acc) kk) U1 H1 s' P Ee) {Nn:L2.St->Hp->Prop}
  (hN:∀Z3 H3 U3 s3 nA yh,Z3.length=Z'.length->(∀i,i∉aP->Z3[i]?=Z'[i]?)->Ext U1 H1 U3 H3->Ext U' H2 U3 (upd H3 Dd (.lst vs))->aD K cA U3 H3 s3->Keep U3 H3 Dd yh->aC K cA U3 H3 nA yh->Run K cA (kk nA) U1 H1 s3 P Ee->Nn Z3 H3) :
  g v Z' H2 λZ3 H3=>qY K cA (λ_ _ _ _=>False) (m_ aq aj F cond) Z3 H3 λok H4=>
   if ok=true then tE K cA (λ_ _ _ _=>False) (ev aq aj F B) Z3 H4 λy H5=>∃ys,H5 Dd=some (.lst ys)/\ys.length<sizeLine/\Nn Z3 (upd H5 Dd (.lst (ys++[y]))) else Nn Z3 H4:=by
  unfold cg at h;rw[gP] at h;obtain⟨J',e1,h1⟩:=Run.nu h;refine hT.run U' H2 s' Z' Jb J' xi v _ hL2 aR rx e1 λZ3 oW Dg Ga=>?_;rw[gP] at h1;refine⟨U',J',s',oW,aR,(JD x2 h1).imp λok s4 U4 H4 ⟨x4,qZ,h6⟩=>?_⟩;cases ok with
  |false=>
   refine iF (hN Z3 H4 U4 s4 acc vs Dg Ga (x2.trans x4) (by rw[FZ (kp.mono x4).at_];exact x4) qZ (kp.mono x4) (pG.mono x4 aR.lz) ?_);rw[if_neg (by decide)] at h6;exact h6
  |true=>
   rw[if_pos rfl,gP] at h6;refine iT ⟨U4,J',s4,oW.mono x4 aR.lz,qZ,(JD (x2.trans x4) h6).imp λy s5 U5 H5 ⟨x5,JM,h7⟩ u ru=>?_⟩;rw[gP] at h7;have k5:=(kp.mono x4).mono x5;have r5:=(pG.mono x4 aR.lz).mono x5 qZ.lz;have SQ:=(x2.trans x4).trans x5;obtain⟨dd,ey,rd,h8⟩ : ∃d,y=.d d/\Rep K cA U5 H5 d u/\Run K cA (M.bd (if acc.length<sizeLine then M.ret (acc++[d]) else M.no) kk) U1 H1 s5 P Ee:=by
    cases ru with
    |l _=>exact h7.elim
    |d r=>exact⟨_,rfl,r,h7⟩
   by_cases hz:acc.length<sizeLine
   ·rw[if_pos hz] at h8;refine⟨vs,k5.at_,by rw[<-r5.len];exact hz,?_⟩;have ox:cR U5 H5 (upd H5 Dd (.lst (vs++[u]))):=k5.ext.1;exact hN Z3 _ U5 s5 (acc++[dd]) (vs++[u]) Dg Ga (Ext.keep (vs:=vs) SQ hD) (by rw[Xm,FZ k5.at_];exact x4.trans x5) (JM.keep k5) k5.ext.2 ((r5.app (.cons rd .nil)).out ox) h8
   ·rw[if_neg hz] at h8;exact h8.elim
noncomputable abbrev g8(aq:Nat->Nat->Bool)(aj:Bool)(F:Fn)(B:E)(cond:Eo)(aP aP₂:List Nat)(w₂:Wk)(Jb:Vs):D->List D->M (List D):=λd acc=>M.bd (M.opt (fP aP d Jb)) λJ'=>M.bd (M.qt (gO aq aj F w₂ J')) λqm=>
    walk qm.1 (cg aq aj F B cond aP₂ J') (qm.2+1) 0 acc
theorem ze1{g₁ g:TG}(hT:gJ X.K cA g₁ aP)(dX:∀i∈aP,i<many)(hT₂:gJ X.K cA g aP₂)(dX₂:∀i∈aP₂,i<many)(Dr:∀i∈aP₂,i∉aP){Z:L2.St}{H:Hp}{Q:VK}(hh:tE X.K cA EX (ev aq aj F (.mz fz B aP w aP₂ w₂ fr many cond)) Z H Q) :
  uM (tI X.K cA EX (gO aq aj F w)) (bL many fr) g₁ (tI X.K cA (λ_ _ _ _=>False) (gO aq aj F w₂)) g (qY X.K cA (λ_ _ _ _=>False) (m_ aq aj F cond)) (tE X.K cA (λ_ _ _ _=>False) (ev aq aj F B)) Z H Q:=un hh λU J s hL hS h=>by
 by_cases dI:aj=true
 ·have h:Run X.K cA (if aj=true then M.bd (gO aq aj F w J) λcn=>M.bd (walk cn.1 (g8 aq aj F B cond aP aP₂ w₂ (blk many fr J)) (cn.2+1) 0 []) λxs=>newL fz xs else M.no) U H s (λd _ U' H'=>∀v,aU X.K cA U' H' d v->Q v H') (eX X.K cA EX Z):=h;rw[if_pos dI] at h;refine⟨U,J,s,hL,hS,h.bd.imp λcn s1 U1 H1 ⟨x1,aJ,h1⟩ bf hJ=>?_⟩;have hL1:=hL.mono x1 hS.lz;obtain⟨c,n⟩:=cn;dsimp only at h1 hJ;intro Dd hD;obtain⟨x0,SX,k0⟩:=ZQ aJ hD;have Dh:∀{Z':L2.St},(Z'.length=many+fr.length/\∀i,many<=i->Z'[i]?=(bL many fr Z)[i]?)->∀{U' H'},Ext U1 H1 U' H'->aY X.K cA U' H' Z' (blk many fr J):=λ{Z'} hZ {U' H'} x=>ZM (hL1.mono x aJ.lz) hZ.1 λi j v e1 e2=>by
   rw[hZ.2 _ (by omega)];unfold bL;rw[pJ (by simp),Gv,jN,show many+i-many=i by omega,e1];simp[e2]
  refine⟨λi m Z' H'=>m=n+1-i/\(Z'.length=many+fr.length/\∀i,many<=i->Z'[i]?=(bL many fr Z)[i]?)/\∃U' s' acc vs,Ext U1 H1 U' H'/\aD X.K cA U' H' s'/\Keep U' H' Dd vs/\aC X.K cA U' H' acc vs /\
   Run X.K cA (M.bd (walk c (g8 aq aj F B cond aP aP₂ w₂ (blk many fr J)) (n+1-i) i acc) λxs=>newL fz xs) U1 H1 s' (λd _ U' H'=>∀v,aU X.K cA U' H' d v->Q v H') (eX X.K cA EX Z),⟨n+1,rfl,⟨by simp[bL],λi _=>rfl⟩,U1.mark Dd,s1,[],[],x0,SX,k0,.nil,h1⟩,?_⟩
  rintro i m Z' H' ⟨rfl,hZ,U',s',acc,vs,x2,aR,kp,pG,h3⟩;have hL2:=Dh hZ x2;cases ek:n+1-i with
  |zero=>rw[ek] at h3;exact h3.elim
  |succ k=>
   rw[ek] at h3;cases ei:c.at i s' with
   |none=>
    exfalso
    unfold Run M.bd walk at h3;simp only[ei] at h3
   |some oi=>
    cases oi with
    |none=>
     refine .inl ⟨hJ.stop U' H' H' s' i x2 cR.refl aR ei,?_⟩;have h4:Run X.K cA (newL fz acc) U1 H1 s' (λd _ U' H'=>∀v,aU X.K cA U' H' d v->Q v H') (eX X.K cA EX Z):=by
      unfold Run M.bd walk at h3;simp only[ei] at h3;exact h3
     exact ZP h4 x2 hD (aJ.nz hD) aR kp pG
    |some xi=>
     refine .inr ⟨hJ.go U' H' H' s' i xi x2 cR.refl aR ei,λZ2 H2=>(Z2.length=many+fr.length/\∀i,many<=i->Z2[i]?=(bL many fr Z)[i]?)/\∃U' s' acc vs,Ext U1 H1 U' H2/\aD X.K cA U' H2 s'/\Keep U' H2 Dd vs/\aC X.K cA U' H2 acc vs /\
      Run X.K cA (M.bd (walk c (g8 aq aj F B cond aP aP₂ w₂ (blk many fr J)) k (i+1) acc) λxs=>newL fz xs) U1 H1 s' (λd _ U' H'=>∀v,aU X.K cA U' H' d v->Q v H') (eX X.K cA EX Z),λZ2 H2 hn=>⟨k,by omega,by omega,hn.1,?_⟩,λv H2 hy=>?_⟩
     ·have:n+1-(i+1)=k:=by omega
      rw[this];exact hn.2
     ·obtain⟨gr,rx⟩:=hJ.ux U' H' H' s' i xi v H2 x2 cR.refl aR ei hy;have h4:Run X.K cA (M.bd (M.opt (fP aP xi (blk many fr J))) λJ'=>M.bd (M.qt (gO aq aj F w₂ J')) λqm=>M.bd (walk qm.1 (cg aq aj F B cond aP₂ J') (qm.2+1) 0 acc) λacc'=>M.bd (walk c (g8 aq aj F B cond aP aP₂ w₂ (blk many fr J)) k (i+1) acc') λxs=>newL fz xs) U1 H1 s' (λd _ U' H'=>∀v,aU X.K cA U' H' d v->Q v H') (eX X.K cA EX Z):=by
       have h5:=SN (m':=M.bd (g8 aq aj F B cond aP aP₂ w₂ (blk many fr J) xi acc) λacc'=>walk c (g8 aq aj F B cond aP aP₂ w₂ (blk many fr J)) k (i+1) acc') (by rw[walk];simp only[ei]) h3;rw[gP] at h5;unfold g8 at h5;rw[gP] at h5;have e:(λJ'=>M.bd (M.bd (M.qt (gO aq aj F w₂ J')) λqm=>walk qm.1 (cg aq aj F B cond aP₂ J') (qm.2+1) 0 acc) λacc'=>M.bd (walk c (g8 aq aj F B cond aP aP₂ w₂ (blk many fr J)) k (i+1) acc') λxs=>newL fz xs)=λJ'=>M.bd (M.qt (gO aq aj F w₂ J')) λqm=>M.bd (walk qm.1 (cg aq aj F B cond aP₂ J') (qm.2+1) 0 acc) λacc'=>M.bd (walk c (g8 aq aj F B cond aP aP₂ w₂ (blk many fr J)) k (i+1) acc') λxs=>newL fz xs:=funext λJ'=>gP _ _ _;rw[<-e];exact h5
      obtain⟨J',e1,h6⟩:=Run.nu h4;have gQ:=aR.grow gr;refine hT.run U' H2 s' Z' _ J' xi v _ (hL2.mono gr.ext aR.lz) gQ rx e1 λZ3 oW Dg Ga=>?_;have kg:=kp.mono gr.ext;have rg:=pG.mono gr.ext aR.lz;have xg:=x2.trans gr.ext;refine⟨U',J',s',oW,gQ,(JD xg h6).imp λqm s4 U4 H4 ⟨x4,qZ,h7⟩ bf₂ hJ₂=>?_⟩;refine zjk (many:=many) hT₂ dX₂ (λi hi x z=>?_) hD (xg.trans x4) (oW.mono x4 gQ.lz) qZ (kg.mono x4) (rg.mono x4 gQ.lz) hJ₂ h7 λZ4 H5 U5 s5 T7 vs5 l5 f5 x5 _ JM k5 r5 h8=>⟨⟨l5.trans (Dg.trans hZ.1),λi hi=>?_⟩,U5,s5,T7,vs5,x5,JM,k5,r5,h8⟩
      ·rw[zhq e1 i (Dr i hi),zhA (dX₂ i hi)] at z;cases z
      ·rw[f5 i λz=>absurd (dX₂ i z) (EY.mpr hi),Ga i λz=>absurd (dX i z) (EY.mpr hi)];exact hZ.2 i hi
 ·have h:Run X.K cA (if aj=true then M.bd (gO aq aj F w J) λcn=>M.bd (walk cn.1 (g8 aq aj F B cond aP aP₂ w₂ (blk many fr J)) (cn.2+1) 0 []) λxs=>newL fz xs else M.no) U H s (λd _ U' H'=>∀v,aU X.K cA U' H' d v->Q v H') (eX X.K cA EX Z):=h;rw[if_neg dI] at h;exact h.elim
end
section
variable {X:Cx}{cA:Cl}{aq:Nat->Nat->Bool}{aj:Bool}{F:Bool->Fn}{EX:XS}{elt iter tg iter₂ tg₂:Expr}{A B:E}{pos p:Pos}{ifs:List Expr}{scope:Scope}{N:List Str}{cond:Eo}{fr aP aP₂:List Nat}{many:Nat}{fz:Bool}{w w₂:Wk}{i:Nat}{y:Str}
theorem zhi(hc:X.aj=true)(rm:X.N.Nodup)(sE:X.N[i]?=some y)(hx:Loc X.env.scope y)(hf:X.fn y=true\/X.env.scope.names.lookup y=some .local)(B':cV X.env.scope scope)(hi:SI X cA aq aj (F aj) EX tg iter w)(hN:N.length=many+fr.length)
  (qQ:∀(i:Nat) (y:Str) (j:Nat),N[many+i]?=some y->fr[i]?=some j->scope.names.lookup y=some .free/\X.N[j]?=some y)
  (hg₁:∀cl C s3 H3 fp ao,PG (X.blk scope cl N C s3 H3 fp ao) tg g₁) (hT:gJ X.K cA g₁ aP) (dX:∀i∈aP,i<many) (hi₂:∀cl C s3 H3 fp ao,SI (X.blk scope cl N C s3 H3 fp ao) cA aq aj (F aj) (λ_ _ _ _=>False) tg₂ iter₂ w₂)
  (hg:∀cl C s3 H3 fp ao,PG (X.blk scope cl N C s3 H3 fp ao) tg₂ g) (hT₂:gJ X.K cA g aP₂) (dX₂:∀i∈aP₂,i<many) (Dr:∀i∈aP₂,i∉aP)
  (ht:∀cl C s3 H3 fp ao,FW (X.blk scope cl N C s3 H3 fp ao) cA aq aj (F aj) (λ_ _ _ _=>False) ifs cond) (he:∀cl C s3 H3 fp ao,SE (X.blk scope cl N C s3 H3 fp ao) cA aq aj (F aj) (λ_ _ _ _=>False) elt B)
  (uL:swapsWith (.ListComp elt [⟨tg,iter,[],0⟩,⟨tg₂,iter₂,ifs,0⟩] scope pos) (some (.Name y py)) spos.line X.env=pure true)
  (hs₂:∀env x,foldedSetIterable iter₂ env x=pure x) (hs:∀x,foldedSetIterable iter X.env x=pure x:=by intro _;rfl) :
  SS X cA aq aj F EX (.Assign [.Name y py] (.ListComp elt [⟨tg,iter,[],0⟩,⟨tg₂,iter₂,ifs,0⟩] scope pos) spos) (.asg (.nm i) (.mz fz B aP w aP₂ w₂ fr many cond)):=
 PS.weak (zd3 hc rm sE hx hf B' hi (⟨hg₁,hi₂,hg,ht,he⟩ : qd X elt tg tg₂ iter₂ ifs scope N g₁ (tI X.K cA (λ_ _ _ _=>False) (gO aq aj (F aj) w₂)) g (qY X.K cA (λ_ _ _ _=>False) (m_ aq aj (F aj) cond)) (tE X.K cA (λ_ _ _ _=>False) (ev aq aj (F aj) B))) hs₂ (ZY:=bL many fr) (λZ=>by simp[bL,hN]) (λZ i x v e1 e2=>S5 qQ Z i x v e1 e2) uL hs) λD Z H hh=>un hh λU J s hL hS h=>
  ze1 hT dX hT₂ dX₂ Dr ⟨U,J,s,hL,hS,(aX.ofM hL hS.lz h).imp λd s1 U1 H1 ⟨x1,aJ,h1⟩ v rv=>h1 U1 H1 _ Ext.refl aJ ((hL.mono x1 hS.lz).set rv)⟩
noncomputable def Ds(aP aP₂:List Nat)(m:Nat):Bool:=aP.all (λi=>decide (i<m))&&aP₂.all (λi=>decide (i<m) && !aP.contains i)
theorem T8(h:Ds aP aP₂ m=true):(∀i∈aP,i<m)/\(∀i∈aP₂,i<m)/\∀i∈aP₂,i∉aP:=by
 unfold Ds at h;simp only[fu,iu,yZ,Bool.not_eq_true'] at h;exact⟨h.1,λi hi=>(h.2 i hi).1,λi hi z=>by have:=(h.2 i hi).2;rw[Px.mpr z] at this;cases this⟩
noncomputable def vB:Expr->Bool
 |.Call _ _ _ _=>true
 |.Name _ _=>true
 |.BinOp _ _ _ _=>true
 |.Subscript _ _ _=>true
 |.Attribute _ _ _=>true
 |_=>false
theorem zkd(h:vB e=true):∀env x,foldedSetIterable e env x=pure x:=by cases e<;>first|(intro _ _;rfl)|cases h
theorem ziF(i:Nat)(sc:Scope)(XN M0 N:List Str)(fr:List Nat)(hN:X.N.Nodup)(sE:X.N[i]?=some y)(hx:JK X y k)(hl:lN k=true)(hc:X.aj=true)(J3:X.env.scope=sc)(rm:X.N=XN)(hB:sX sc scope=true)(hf:frB scope XN N fr=true)(hT:gJ X.K cA g₁ aP)(hT₂:gJ X.K cA g aP₂)(dX:Ds aP aP₂ M0.length=true)
  (hi:JI X cA aq aj (F aj) EX tg iter w) (hg₁:∀cl C s3 H3 fp ao,JY (X.blk scope cl (M0++N) C s3 H3 fp ao) tg g₁) (hi₂:∀cl C s3 H3 fp ao,JI (X.blk scope cl (M0++N) C s3 H3 fp ao) cA aq aj (F aj) (λ_ _ _ _=>False) tg₂ iter₂ w₂) (hg:∀cl C s3 H3 fp ao,JY (X.blk scope cl (M0++N) C s3 H3 fp ao) tg₂ g)
  (ht:∀cl C s3 H3 fp ao,JC (X.blk scope cl (M0++N) C s3 H3 fp ao) cA aq aj (F aj) (λ_ _ _ _=>False) ifs cond) (he:∀cl C s3 H3 fp ao,JE (X.blk scope cl (M0++N) C s3 H3 fp ao) cA aq aj (F aj) (λ_ _ _ _=>False) elt B)
  (tD:vB iter₂=true:=by rfl) (uL:swapsWith (.ListComp elt [⟨tg,iter,[],0⟩,⟨tg₂,iter₂,ifs,0⟩] scope pos) (some (.Name y py)) spos.line X.env=pure true:=by rfl) (TF:X.fn y=true\/k=.local:=by first|exact .inl rfl|exact .inr rfl) (hs:∀x,foldedSetIterable iter X.env x=pure x:=by intro _;rfl) :
  JS X cA aq aj F EX (.Assign [.Name y py] (.ListComp elt [⟨tg,iter,[],0⟩,⟨tg₂,iter₂,ifs,0⟩] scope pos) spos) (.asg (.nm i) (.mz fz B aP w aP₂ w₂ fr M0.length cond)):=
 ⟨zhi hc hN sE (wA hx hl) (wB hx TF) (cV.of (J3▸hB)) hi.o (Aa (rm▸hf)).1 (Aa (rm▸hf)).2 (λa b c d e f=>(hg₁ a b c d e f).o) hT (T8 dX).1 (λa b c d e f=>(hi₂ a b c d e f).o) (λa b c d e f=>(hg a b c d e f).o) hT₂ (T8 dX).2.1 (T8 dX).2.2 (λa b c d e f=>(ht a b c d e f).o) (λa b c d e f=>(he a b c d e f).o) uL (zkd tD) hs⟩
end
section
variable {X:Cx}{cA:Cl}{aq:Nat->Nat->Bool}{aj:Bool}{F:Fn}{EX:XS}{elt iter tg iter₂ tg₂:Expr}{A B:E}{pos p:Pos}{ifs:List Expr}{scope:Scope}{N:List Str}{cond:Eo}{fr aP aP₂:List Nat}{many:Nat}{fz:Bool}{w w₂:Wk}{i:Nat}{y:Str}
end
section
variable {K:W.Frag}{cA:Cl}{U:Ph}{H:Hp}
theorem aC.Dt(r:aC K cA U H xs ys):∀l:List Nat,aC K cA U H (l.map λi=>xs.getD i .non) (l.map λi=>ys.getD i .non)
 |[]=>.nil
 |i::l=>by
  refine .cons ?_ (aC.Dt r l);show Rep K cA U H (xs.getD i .non) (ys.getD i .non);cases e:xs[i]? with
  |some x=>
   obtain⟨u,e1,e2⟩:=r.get e;rw[lE,lE,e,e1];exact e2
  |none=>
   have e1:ys[i]?=Option.none:=r.none e;rw[lE,lE,e,e1];exact .non
theorem aC.mem(r:aC K cA U H xs ys):∀v∈ys,∃d∈xs,Rep K cA U H d v:=by
 intro v hv;obtain⟨i,hi,e⟩:=yW hv;have e':ys[i]?=some v:=by rw[eU hi,e]
 cases ex:xs[i]? with
 |none=>rw[r.none ex] at e';cases e'
 |some d=>
  obtain⟨u,e1,e2⟩:=r.get ex;rw[e1] at e';cases e';exact⟨d,gU ex,e2⟩
theorem zgO:∀{us ws:List D} {xs ys:List V},aC K cA U H us xs->aC K cA U H ws ys->∀{b:Bool},sJ us ws=some b->lJ xs ys=some b
 |[],ws,_,ys,r1,r2,b,h=>by
  cases r1;unfold sJ at h;unfold lJ;rw[<-r2.len];exact h
 |_::_,[],_,_,r1,r2,b,h=>by
  cases r2;cases r1;unfold sJ at h;unfold lJ;exact h
 |x::us,y::ws,_,_,r1,r2,b,h=>by
  cases r1 with
  |cons a1 b1=>
   cases r2 with
   |cons a2 b2=>
    unfold sJ at h;split at h
    ·rename_i z;cases z
    ·rename_i z;cases z
    ·rename_i p ps q qs e1 e2;cases e1;cases e2;cases a1;cases a2;unfold lJ;by_cases e:p=q
     ·rw[if_pos e] at h ⊢;exact zgO b1 b2 h
     ·rw[if_neg e] at h ⊢;exact h
    ·cases h
theorem zh6(r:aC K cA U H xs ys)(h:(xs.all j9||xs.all jh)=true):uN K H ys (zL xs):=by
 rw[LC] at h;rcases h with h|h
 ·left
  rw[iu] at h;refine⟨λv hv=>?_,λi j b e=>?_⟩
  ·obtain⟨d,hd,q⟩:=r.mem v hv;have:=h d hd;cases q<;>first|exact⟨_,rfl⟩|cases this
  ·unfold zL at e;cases e1:xs[i]? with
   |none=>rw[e1] at e;cases e
   |some d1=>
    cases e2:xs[j]? with
    |none=>rw[e1,e2] at e;cases d1<;>cases e
    |some d2=>
     have h1:=h d1 (gU e1);have h2:=h d2 (gU e2);rw[e1,e2] at e;obtain⟨v1,a1,b1⟩:=r.get e1;obtain⟨v2,a2,b2⟩:=r.get e2;cases d1<;>first|cases h1|skip
     cases d2<;>first|cases h2|skip
     cases b1;cases b2;cases e;exact⟨_,_,a1,a2,rfl⟩
 ·right
  rw[iu] at h;refine⟨λv hv=>?_,λi j b e=>?_⟩
  ·obtain⟨d,hd,q⟩:=r.mem v hv;have:=h d hd;unfold jh at this;split at this
   ·cases q with
    |tup t r'=>
     cases r' with
     |cons a1 b1=>
      cases a1;exact⟨_,_,_,rfl,t.ju⟩
   ·cases this
  ·unfold zL at e;cases e1:xs[i]? with
   |none=>rw[e1] at e;cases e
   |some d1=>
    cases e2:xs[j]? with
    |none=>rw[e1,e2] at e;cases d1<;>cases e
    |some d2=>
     have h1:=h d1 (gU e1);have h2:=h d2 (gU e2);rw[e1,e2] at e;obtain⟨v1,a1,b1⟩:=r.get e1;obtain⟨v2,a2,b2⟩:=r.get e2;unfold jh at h1 h2;split at h1
     ·split at h2
      ·cases b1 with
       |tup t1 r1=>
        cases b2 with
        |tup t2 r2=>exact⟨_,_,_,_,a1,a2,t1.ju,t2.ju,zgO r1 r2 e⟩
      ·cases h2
     ·cases h1
theorem zgS:bH K cA .sorted (λxs H Q=>∃l ys lt p,xs=[.ref l]/\dj K H l ys/\ys.length<64/\(2<=ys.length->uN K H ys lt/\bF lt (PySem.W.kas_sort ys.length)=some p/\p.size=ys.length)/\∀r,H r=none->Q (.ref r) (upd H r (.lst (fX ys p)))):=by
 intro U H ds vs Q zt rs o;have o:bN K cA U H (m8 ds) Q:=o;unfold m8 at o;split at o
 ·rename_i xs _;obtain⟨v,rfl,r1⟩:=rs.one;obtain⟨z,e⟩:=o.some';obtain⟨zs,e1,e2⟩:=kZ.mp e;subst e2;obtain⟨a,us,rfl,sq,q⟩ : ∃a us,v=.ref a/\dj K H a us/\aC K cA U H xs us:=r1;have hl:=q.len;unfold zM at e1;by_cases hk:(xs.all j9||xs.all jh)=true
  ·rw[if_pos hk] at e1;unfold jr at e1;by_cases h2:xs.length<2
   ·rw[if_pos h2] at e1;cases e1;refine⟨a,us,λ_ _=>none,#[],rfl,sq,by lia,λz=>absurd z (by lia),λr hr=>?_⟩;have:fX us #[]=us:=by unfold fX;rw[if_pos (by lia)]
    rw[this];exact(o.of e) r us hr q
   ·rw[if_neg h2] at e1;by_cases nO:xs.length<64
    ·rw[if_pos nO] at e1;cases ek:bF (zL xs) (PySem.W.kas_sort xs.length) with
     |none=>rw[ek] at e1;cases e1
     |some p=>
      rw[ek] at e1;dsimp only at e1;by_cases hp:p.size=xs.length
      ·rw[if_pos hp] at e1;cases e1;refine⟨a,us,zL xs,p,rfl,sq,by lia,λ_=>⟨zh6 q hk,by rw[<-hl];exact ek,by lia⟩,λr hr=>?_⟩;have:fX us p=p.toList.map λi=>us.getD i .non:=by unfold fX;rw[if_neg (by lia)]
       rw[this];exact(o.of e) r _ hr (q.Dt p.toList)
      ·rw[if_neg hp] at e1;cases e1
    ·rw[if_neg nO] at e1;cases e1
  ·rw[if_neg hk] at e1;cases e1
 ·exact o.elim
end
section
variable {X:Cx}{cA:Cl}{aq:Nat->Nat->Bool}{aj:Bool}{F:Fn}{EX:XS}{e:Expr}{pos p:Pos}{es:List Expr}{Xs:Es}{fz:Bool}
theorem zbP:bootBuiltins "sorted"=some (.builtin "sorted"):=by decide +kernel
theorem T9(hm:X.mg "sorted"=none)(hg:JK X "sorted" .globalImplicit)(ha:JA X cA aq aj F EX (e::es) Xs)(he:aF e=true:=by rfl)(cO:es.all aF=true:=by rfl):JE X cA aq aj F EX (.Call (.Name "sorted" p) (e::es) [] pos) (.pr fz .sorted Xs):=⟨zT zdJ zgS hg.o hm zbP ha.o (by decide) (by decide) (bA he) (bD cO)⟩
end
section
variable {K:W.Frag}{cA:Cl}{U:Ph}{H:Hp}
theorem NP:∀{xs:List D} {k i:Nat},(enumFrom k xs)[i]?=(xs[i]?).map λd=>.tup [.int ((k+i:Nat):Int),d]
 |[],k,i=>by simp[enumFrom]
 |x::r,k,0=>by simp[enumFrom]
 |x::r,k,i+1=>by
  unfold enumFrom;rw[Am,Am,NP]
  congr 1
  funext d
  rw[show k+1+i=k+(i+1) by lia]
noncomputable def tG(K:W.Frag)(U:Ph)(H:Hp):Bool->Addr->List V->Prop
 |true,a,vs=>LstAt K U H a vs
 |false,a,vs=>TupAt K U H a vs
theorem tG.sk{kd:Bool}{a:Addr}{vs:List V}(h:tG K U H kd a vs):Sk kd K H a vs:=by
 cases kd
 ·exact TupAt.ju h
 ·exact LstAt.sU h
theorem tG.later{U':Ph}{H₁ H':Hp}{kd:Bool}{a:Addr}{vs:List V}(hz:∀a∈U.l,U.z a)(h:tG K U H kd a vs)(x:Ext U H U' H₁)(o:cR U' H₁ H'):tG K U' H' kd a vs:=by
 cases kd
 ·exact TupAt.later hz h x o
 ·exact LstAt.later hz h x o
theorem jJ.enum{kd:Bool}{l:Addr}{xs:List D}{vs:List V}(hz:∀a∈U.l,U.z a)(h:tG K U H kd l vs)(r:aC K cA U H xs vs):jJ K cA (.fix (enumFrom 0 xs)) U H (Ite K kd l):=by
 refine⟨λU' H₁ H' s' i x o hS e=>⟨vs,(h.later hz x o).sk,?_⟩,λU' H₁ H' s' i d x o hS e=>?_,λU' H₁ H' s' i d v H2 x o hS e y=>?_⟩
 ·have e:(enumFrom 0 xs)[i]?=none:=cW e;rw[NP,Option.map_eq_none_iff] at e;exact qD.mp ((r.mono x hz).none e)
 ·have e:(enumFrom 0 xs)[i]?=some d:=cW e;rw[NP] at e;obtain⟨d',e',_⟩:=kZ.mp e;obtain⟨v,q,_⟩:=r.get e';exact⟨vs,v,(h.later hz x o).sk,q⟩
 ·have e:(enumFrom 0 xs)[i]?=some d:=cW e;rw[NP] at e;obtain⟨d',e',rfl⟩:=kZ.mp e;obtain⟨a,u,hn,rfl,rfl,hu⟩:=y;obtain⟨w,q,lH⟩:=((r.mono x hz).out o).get e';have:=hu vs (h.later hz x o).sk;rw[q] at this;cases this;have g:bG H' (upd H' a (.tup [.int i,u])):=bG.new hn;refine⟨g,?_⟩;rw[show ((0+i:Nat):Int)=(i:Int) by simp];exact .tup (.inl ⟨.inl iH,hS.nz hn⟩) (.cons (.int _) (.cons (lH.mono g.ext hS.lz) .nil))
theorem T_(h:(Src.mD n).at i s=some o):∃xs,s[n]?=some (.lst xs)/\(xs[i]?.map λx=>D.tup [.int i,x])=o:=by
 unfold Src.at at h;dsimp only at h;cases e:s[n]? with
 |none=>rw[e] at h;cases h
 |some ob=>
  rw[e] at h;cases ob with
  |lst xs=>exact⟨xs,rfl,cW h⟩
  |_=>cases h
theorem jJ.mD{a:Addr}{n:Nat}(h:U.l[n]?=some a):jJ K cA (.mD n) U H (Ite K true a):=by
 refine⟨λU' H₁ H' s' i x o hS e=>?_,λU' H₁ H' s' i d x o hS e=>?_,λU' H₁ H' s' i d v H2 x o hS e y=>?_⟩
 ·obtain⟨xs,e1,e2⟩:=T_ e;rw[Option.map_eq_none_iff] at e2;obtain⟨vs,q1,q2⟩:=hS.obj n _ a e1 (x.get h);exact⟨vs,dj.of q1,qD.mp (q2.none e2)⟩
 ·obtain⟨xs,e1,e2⟩:=T_ e;obtain⟨d',e',_⟩:=kZ.mp e2;obtain⟨vs,q1,q2⟩:=hS.obj n _ a e1 (x.get h);obtain⟨v,q3,_⟩:=q2.get e';exact⟨vs,v,dj.of q1,q3⟩
 ·obtain⟨xs,e1,e2⟩:=T_ e;obtain⟨d',e',rfl⟩:=kZ.mp e2;obtain⟨vs,q1,q2⟩:=hS.obj n _ a e1 (x.get h);obtain⟨w,q3,lH⟩:=q2.get e';obtain⟨b,u,hn,rfl,rfl,hu⟩:=y;have:=hu vs (dj.of q1);rw[q3] at this;cases this;have g:bG H' (upd H' b (.tup [.int i,w])):=bG.new hn;exact⟨g,.tup (.inl ⟨.inl iH,hS.nz hn⟩) (.cons (.int _) (.cons (lH.mono g.ext hS.lz) .nil))⟩
end
section
variable {X:Cx}{cA:Cl}{aq:Nat->Nat->Bool}{aj:Bool}{F:Fn}{EX:XS}{a b:Expr}{A B:E}{pos pp tpos:Pos}{elts:List Expr}{kk:Nat}
theorem zjD(qw:Gl X "enumerate")(hmg:X.mg "enumerate"=none)(hb:SE X cA aq aj F EX b B)(h2:starEach [b] X.env=(false,eval b X.env)::starEach [] X.env) :
  SI X cA aq aj F EX (.Tuple elts kk tpos) (.Call (.Name "enumerate" pp) [b] [] pos) (.enum B):=PI.weak (zje qw hmg (rW hb xH h2) (by rw[h2];rfl)) λZ H R hh=>un hh λU J s hL hS h=>by
 refine bw hL hS h λy H2 U2 d2 s2 x2 hL2 aR r2 h2=>?_;cases r2 with
 |@l n ad hl=>
  unfold Run oU at h2;dsimp only at h2;cases e:s2[n]? with
  |none=>rw[e] at h2;exact h2.elim
  |some o=>
   rw[e] at h2;cases o with
   |lst xs=>
    obtain⟨vs,q1,q2⟩:=aR.obj n _ _ e hl;exact⟨true,_,_,rfl,dj.of q1,h2 U2 H2 Ext.refl aR _ (jJ.mD hl)⟩
   |_=>exact h2.elim
 |d r2=>
  cases r2 with
  |fl q r=>exact⟨true,_,_,rfl,q.sU,h2 U2 H2 Ext.refl aR _ (jJ.enum (kd:=true) aR.lz q r)⟩
  |tup q r=>exact⟨false,_,_,rfl,q.ju,h2 U2 H2 Ext.refl aR _ (jJ.enum (kd:=false) aR.lz q r)⟩
  |_=>exact h2.elim
theorem zgM:∀(ns:List Str) (vs:List V),((ns.zip vs).map (·.1)).Sublist ns
 |[],vs=>by simp
 |n::ns,[]=>by simp
 |n::ns,v::vs=>by
  rw[GD,jo];exact(zgM ns vs).cons₂ n
theorem ze8:∀{ns:List Str} {vs:List V} {i:Nat} {x:Str} {v:V},ns.Nodup->ns[i]?=some x->vs[i]?=some v->(ns.zip vs).lookup x=some v
 |ns,vs,i,x,v,hn,h1,h2=>by
  refine YW ?_ (zjv h1 h2);exact List.Sublist.nodup (zgM ns vs) hn
end
section
variable {X:Cx}{cA:Cl}{aq:Nat->Nat->Bool}{aj:Bool}{F:Bool->Fn}{EX:XS}{e:Expr}{es:List Expr}{Xs:Es}{pos p:Pos}{x:Str}
end
section
variable {X:Cx}{cA:Cl}{aq:Nat->Nat->Bool}{aj:Bool}{F:Fn}{EX:XS}{a b:Expr}{A B:E}{pos p tpos:Pos}{elts:List Expr}{kk:Nat}
theorem Ua(hmg:X.mg "enumerate"=none)(qw:JK X "enumerate" .globalImplicit)(hb:JE X cA aq aj F EX b B)(h2:aF b=true:=by rfl):JI X cA aq aj F EX (.Tuple elts kk tpos) (.Call (.Name "enumerate" p) [b] [] pos) (.enum B):=⟨zjD qw.o hmg hb.o (bA h2)⟩
end
end Mi
namespace Mi
open PySem PySem.Spec PyProof.Rows L2 PySem.W
theorem zjM{fd:FuncData}{q:Str}{st:Stmt}(h:nZ fd=Bb q st):fd=fnOf "__init__" q (aZ st) (aL st) (au st) .none fd.kwdefaults fd.doc fd.pyModule fd.annotations fd.code fd.closureTuple:=by
 cases fd;unfold nZ Bb at h;cases h;rfl
structure Ka(K:Frag)(C:Addr)(q:Str)(st:Stmt):Prop where
 ex:∃(fI:Addr) (od:Option Addr) (kV doc pm:Value) (an:Option Addr) (cdv ct:Value) (osl:Array (Option Value)) (cd:ClassData),
  K.lookup fI=some ⟨.type "function",od,.func (fnOf "__init__" q (aZ st) (aL st) (au st) .none kV doc pm an cdv ct),osl⟩/\codeIn K cdv q=true/\uf K C fI=true/\clsIn K C=some cd/\ud cd.mro=true/\cd.hasDict=true
theorem zmN{K:Frag}{C:Addr}{q:Str}{st:Stmt}(h:(G9 K C).map nZ=some (Bb q st)):Ka K C q st:=by
 cases e:G9 K C with
 |none=>rw[e] at h;cases h
 |some fd=>
  rw[e] at h;have hp:nZ fd=Bb q st:=cW h;unfold G9 at e;split at e
  ·rename_i cd iI;split at e
   ·rename_i f hf;split at e
    ·rename_i od fd' sl hl;split at e
     ·rename_i hc;cases e;simp only[fu] at hc;obtain⟨⟨⟨c1,c2⟩,c3⟩,c4⟩:=hc;have eq:=zjM hp;have qn:fd.qualname=q:=by rw[eq]
      refine⟨⟨f,od,fd.kwdefaults,fd.doc,fd.pyModule,fd.annotations,fd.code,fd.closureTuple,sl,cd,?_,by rw[<-qn];exact c1,c2,iI,c3,c4⟩⟩;rw[<-eq];exact hl
     ·cases e
    ·cases e
   ·cases e
  ·cases e
theorem zno{K:Frag}{C:Addr}{f:Str}(h:Ma K C f=true):XF K C f:=by
 unfold Ma at h;simp only[fu,nW] at h;obtain⟨⟨⟨⟨h1,h2⟩,h3⟩,h4⟩,h5⟩:=h;exact⟨h1,h2,h3,h4,h5⟩
structure o7(fs:List (Str×Stmt))(ms:List uh)(xs:List (Nat×Str))(l:Lk)(K:Frag):Prop where
 fn:∀p∈fs,FnAt K p.1 p.2
 gd:Ad l K
 mi:∀m∈ms,Ka K (iZ (l.L K) m.c) m.q m.st
 se:∀m∈ms,setB K (iZ (l.L K) m.c) m.fs=true
 xf:∀x∈xs,XF K (iZ (l.L K) x.1) x.2
theorem Ub{a:Nat}{o:Obj}:∀{l:List Obj} {i:Nat},((a:Addr),o)∈G_ i l->i<=a/\l[a-i]?=some o/\o.isFreed=false
 |[],i,h=>by cases h
 |p::r,i,h=>by
  unfold G_ at h;split at h
  ·obtain⟨h1,h2,h3⟩:=Ub h;refine⟨by lia,?_,h3⟩;rw[show a-i=(a-(i+1))+1 by lia];exact h2
  ·rename_i hf;rcases iY.mp h with e|h
   ·cases e;exact⟨cD _,by simp,(Bool.or_eq_false_iff.mp hf).1⟩
   ·obtain⟨h1,h2,h3⟩:=Ub h;refine⟨by lia,?_,h3⟩;rw[show a-i=(a-(i+1))+1 by lia];exact h2
theorem Uc:∀{K:Frag},K.lookup a=some o->(a,o)∈K
 |[],h=>by cases h
 |(b,p)::r,h=>by
  rw[pK] at h;by_cases e:a=b
  ·subst e;simp only[Em] at h;cases h;exact lQ
  ·rw[show (a==b)=false by simpa using e] at h;exact iG _ (Uc h)
theorem zho:(bY h).In h:=λa o e=>by
 have hm:=Uc e;unfold bY at hm;rcases nJ.mp hm with z|z
 ·unfold qJ at z;split at z
  ·rename_i p hp;rcases iY.mp z with e|z
   ·cases e;exact hp
   ·cases z
  ·cases z
 ·obtain⟨_,h2,h3⟩:=Ub (List.mem_reverse.mp z);rw[Heap.get?_some_iff];refine⟨?_,h3⟩;have:h.objs.toList[a]?=some o:=by simpa using h2
  simpa using this
end Mi
namespace Mi
open PySem PySem.Spec PyProof.Rows L2
section
variable {K:W.Frag}{cA:Cl}{U:Ph}{H:Hp}
noncomputable def jy(K:W.Frag)(U:Ph)(H:Hp):Bool->Addr->List V->Prop
 |true,a,vs=>LstAt K U H a vs
 |false,a,vs=>TupAt K U H a vs
theorem jy.sk{kd:Bool}{a:Addr}{vs:List V}(h:jy K U H kd a vs):Sk kd K H a vs:=by
 cases kd
 ·exact TupAt.ju h
 ·exact LstAt.sU h
theorem jy.later{kd:Bool}{a:Addr}{vs:List V}{U':Ph}{H₁ H':Hp}(hz:∀a∈U.l,U.z a)(h:jy K U H kd a vs)(x:Ext U H U' H₁)(o:cR U' H₁ H'):jy K U' H' kd a vs:=by
 cases kd
 ·exact TupAt.later hz h x o
 ·exact LstAt.later hz h x o
theorem Ud{xs ys:List D}{i:Nat}:(List.zipWith (λp q=>D.tup [p,q]) xs ys)[i]?=match xs[i]?,ys[i]? with
  |some p,some q=>some (.tup [p,q])
  |_,_=>none:=by
 rw[List.getElem?_zipWith];cases xs[i]?<;>cases ys[i]?<;>rfl
theorem jJ.zip{k1 k2:Bool}{l1 l2:Addr}{xs ys:List D}{us vs:List V}(hz:∀a∈U.l,U.z a)(h1:jy K U H k1 l1 us)(h2:jy K U H k2 l2 vs)(r1:aC K cA U H xs us)(r2:aC K cA U H ys vs):jJ K cA (.fix (List.zipWith (λp q=>D.tup [p,q]) xs ys)) U H (RM K k1 k2 l1 l2):=by
 refine⟨λU' H₁ H' s' i x o hS e=>?_,λU' H₁ H' s' i d x o hS e=>?_,λU' H₁ H' s' i d v H2 x o hS e y=>?_⟩
 ·have e:(List.zipWith (λp q=>D.tup [p,q]) xs ys)[i]?=none:=cW e;rw[Ud] at e;refine⟨us,vs,(h1.later hz x o).sk,(h2.later hz x o).sk,?_⟩;cases ex:xs[i]? with
  |none=>exact .inl (qD.mp (r1.none ex))
  |some p=>
   cases ey:ys[i]? with
   |none=>exact .inr (qD.mp (r2.none ey))
   |some q=>rw[ex,ey] at e;cases e
 ·have e:(List.zipWith (λp q=>D.tup [p,q]) xs ys)[i]?=some d:=cW e;rw[Ud] at e;cases ex:xs[i]? with
  |none=>rw[ex] at e;cases e
  |some p=>
   cases ey:ys[i]? with
   |none=>rw[ex,ey] at e;cases e
   |some q=>
    obtain⟨u,q1,_⟩:=r1.get ex;obtain⟨v,q2,_⟩:=r2.get ey;exact⟨us,vs,u,v,(h1.later hz x o).sk,(h2.later hz x o).sk,q1,q2⟩
 ·have e:(List.zipWith (λp q=>D.tup [p,q]) xs ys)[i]?=some d:=cW e;rw[Ud] at e;cases ex:xs[i]? with
  |none=>rw[ex] at e;cases e
  |some p=>
   cases ey:ys[i]? with
   |none=>rw[ex,ey] at e;cases e
   |some q=>
    rw[ex,ey] at e;cases e;obtain⟨a,u,w,hn,rfl,rfl,hu,hw⟩:=y;obtain⟨u',q1,ru⟩:=((r1.mono x hz).out o).get ex;obtain⟨w',q2,lH⟩:=((r2.mono x hz).out o).get ey;have e1:=hu us (h1.later hz x o).sk;have e2:=hw vs (h2.later hz x o).sk;rw[q1] at e1;rw[q2] at e2;cases e1;cases e2;have g:bG H' (upd H' a (.tup [u,w])):=bG.new hn;exact⟨g,.tup (.inl ⟨.inl iH,hS.nz hn⟩) (.cons (ru.mono g.ext hS.lz) (.cons (lH.mono g.ext hS.lz) .nil))⟩
theorem zex(r:aU K cA U H x v)(h:Run K cA (M.bd (ql x) k) U H s P Ee) :
  ∃xs kd a vs,v=.ref a/\jy K U H kd a vs/\aC K cA U H xs vs/\Run K cA (k xs) U H s P Ee:=by
 cases r with
 |l _=>exact h.elim
 |d r=>
  cases r with
  |tup q r=>exact⟨_,false,_,_,rfl,q,r,h⟩
  |fl q r=>exact⟨_,true,_,_,rfl,q,r,h⟩
  |_=>exact h.elim
end
section
variable {X:Cx}{cA:Cl}{aq:Nat->Nat->Bool}{aj:Bool}{F:Fn}{EX:XS}{a b:Expr}{A B:E}{pos pp tpos:Pos}{elts:List Expr}{kk:Nat}
theorem zl7(qw:Gl X "zip")(hmg:X.mg "zip"=none)(ha:SE X cA aq aj F EX a A)(hb:SE X cA aq aj F EX b B)(h1:starEach [a,b] X.env=(false,eval a X.env)::starEach [b] X.env)(h2:starEach [b] X.env=(false,eval b X.env)::starEach [] X.env) :
  SI X cA aq aj F EX (.Tuple elts kk tpos) (.Call (.Name "zip" pp) [a,b] [] pos) (.zip A B):=PI.weak (zmo qw hmg (rW ha (rW hb xH h2) h1) (by rw[h1,h2];rfl) (by rw[h2];rfl)) λZ H R hh=>un hh λU J s hL hS h=>by
 refine bw hL hS h λx H1 U1 d1 s1 x1 hL1 aJ r1 h1=>bw hL1 aJ h1 λy H2 U2 d2 s2 x2 hL2 aR r2 h2=>?_;obtain⟨xs,k1,l1,us,e1,q1,p1,h3⟩:=zex (r1.mono x2 aJ.lz) h2;obtain⟨ys,k2,l2,vs,e2,q2,p2,h4⟩:=zex r2 h3;subst e1 e2;exact⟨k1,k2,l1,l2,us,vs,rfl,q1.sk,q2.sk,(h4.bK aR) _ (jJ.zip aR.lz q1 q2 p1 p2)⟩
theorem zm5(hmg:X.mg "zip"=none)(qw:JK X "zip" .globalImplicit)(ha:JE X cA aq aj F EX a A)(hb:JE X cA aq aj F EX b B)(h1:aF a=true:=by rfl)(h2:aF b=true:=by rfl):JI X cA aq aj F EX (.Tuple elts kk tpos) (.Call (.Name "zip" p) [a,b] [] pos) (.zip A B):=⟨zl7 qw.o hmg ha.o hb.o (bA h1) (bA h2)⟩
end
theorem zfV:∀k,k<=is.length->(i::is).getD (argBest (λa b=>bt ((i::is).getD a 0) ((i::is).getD b 0)) k) 0=best bt i (is.take k)
 |0,_=>rfl
 |k+1,hk=>by
  have ih:=zfV (bt:=bt) (i:=i) (is:=is) k (by lia);have hg:is[k]?=some (is[k]'(by lia)):=eU (by lia);have ht:is.take (k+1)=is.take k++[is[k]'(by lia)]:=O9 (by lia);have hv:(i::is).getD (k+1) 0=is[k]'(by lia):=by
   rw[lE,Am,hg];rfl
  unfold best at ih ⊢;rw[ht,List.foldl_append,LQ,List.foldl_nil,<-ih];rw[argBest.eq_2];generalize argBest (λa b=>bt ((i::is).getD a 0) ((i::is).getD b 0)) k=m;rw[hv];by_cases hb:bt (is[k]'(by lia)) ((i::is).getD m 0)=true
  ·rw[if_pos hb,if_pos hb,hv]
  ·rw[if_neg hb,if_neg hb]
theorem zjV{bt:Int->Int->Bool}{i:Int}{is:List Int}:(i::is).getD (argBest (λa b=>bt ((i::is).getD a 0) ((i::is).getD b 0)) is.length) 0=best bt i is:=by
 rw[zfV is.length (cD _),En]
section
variable {K:W.Frag}{cA:Cl}{U:Ph}{H:Hp}
theorem zbJ:∀{xs:List D} {is:List Int} {vs:List V},gB xs=some is->aC K cA U H xs vs->vs=is.map V.int
 |[],is,vs,h,r=>by cases h;cases r;rfl
 |d::xs,is,vs,h,r=>by
  cases d with
  |int b=>
   simp only[gB,kZ] at h;obtain⟨bs',h1,rfl⟩:=h;cases r with
   |cons q r=>cases q;rw[zbJ h1 r];rfl
  |_=>simp[gB] at h
theorem zjI(hp:prim p=qW bt):bH K cA p (λxs H Q=>∃(a:Addr) (i:Int) (is:List Int),xs=[.ref a]/\(dj K H a ((i::is).map V.int)\/gw K H a ((i::is).map V.int))/\Q (.int (best bt i is)) H):=by
 intro U H ds vs Q zt rs o;rw[hp] at o;unfold qW at o;split at o
 ·rename_i a;obtain⟨v,rfl,rv⟩:=rs.one;cases e0:lK a with
  |none=>rw[e0] at o;exact o.elim
  |some xs=>
   rw[e0] at o;obtain⟨ad,us,rfl,l,q⟩:=Rv.sq rv e0;cases e1:gB xs with
   |none=>
    simp only[Lx,e1,qU] at o;exact o.elim
   |some js=>
    cases js with
    |nil=>
     simp only[Lx,e1,qU] at o;exact o.elim
    |cons i is=>
     simp only[Lx,e1,qU] at o;exact⟨ad,i,is,rfl,by rw[<-zbJ e1 q];exact l,(o.of rfl).here (.int _)⟩
 ·exact o.elim
end
section
variable {X:Cx}
theorem Ue{js:List Int}{its:List Value}(rv:Vals (js.map V.int) its){i:Nat}{v:Value}(hP:its.toArray[i]?=some v):∃t,v=.int (js.getD i 0) t:=by
 have hi:its[i]?=some v:=by simpa using hP
 have cF:i<its.length:=(f9.mp hi).1;have z:=rv.length;rw[eY] at z;have hb:js[i]?=some (js[i]'(by lia)):=eU (by lia);obtain⟨u,e1,e2⟩:=rv.get (i:=i) (x:=V.int (js[i]'(by lia))) (by rw[jN,hb];rfl);rw[hi] at e1;cases e1;obtain⟨t,e⟩:=e2;exact⟨t,by rw[e,lE,hb];rfl⟩
theorem zgd(hc:X.aj=true):dB X (.builtin "max") (λxs H Q=>∃(a:Addr) (i:Int) (is:List Int),xs=[.ref a]/\(dj X.K H a ((i::is).map V.int)\/gw X.K H a ((i::is).map V.int))/\Q (.int (best (λa b=>decide (a>b)) i is)) H):=by
 intro ao s Z H xs us Q I r ⟨p,i,is,e,hp,q⟩;subst e;obtain⟨u,rfl,ru⟩:=Vals.one r;cases (show u=Value.ref p from ru);have fin:∀{its:List Value},Vals ((i::is).map V.int) its->∀{v:Value} {h':Heap} {tk:Nat},its.toArray[argBest (λa b=>decide ((i::is).getD a 0>(i::is).getD b 0)) (its.toArray.size-1)]?=some v->(∀b o,s.heap.get? b=some o->h'.get? b=some o)->EP X ao Z Q v {s with heap:=h',toks:=tk}:=by
  intro its rv v h' tk hP hk;have z:is.length+1=its.length:=by have:=rv.length;rw[eY] at this;exact this
  have en:its.toArray.size-1=is.length:=by rw[fj];lia
  rw[en] at hP;obtain⟨t,ev⟩:=Ue rv hP;rw[zjV (bt:=λa b=>decide (a>b))] at ev;exact⟨.int (best (λa b=>decide (a>b)) i is),H,I.kept (h':=h') (t':=tk) hk,⟨t,ev⟩,q⟩
 rcases hp with hp|hp
 ·obtain⟨its,rv,pl,hz⟩:=I.list hp;have hl:s.heap.IsList p its.toArray:=pl.isList;have cF:p<s.heap.objs.size:=by
   obtain⟨o,hg,_⟩:=hl;exact bQ hg
  have z:is.length+1=its.length:=by have:=rv.length;rw[eY] at this;exact this
  refine call_max_walk (GJ hl ?_);refine⟨_,_,_,_,_,_,_,rfl,Walks.list (A:=X.A.in1) (I.ok.hd hc) _ p (c7 cF) its.toArray,⟨⟨_,eE _ rfl,rfl,rfl⟩,hl.push _⟩,?_,by rw[fj];lia,CmpOf.ints_gt (λj=>(i::is).getD j 0) (λ_ _=>Ue rv),λv h' tk hP hk=>fin rv hP (old_kept hk)⟩;intro b hb;show b<(s.heap.push _).objs.size;rw[rM];simp only[iY,List.not_mem_nil,or_false] at hb;rcases hb with e|e
  ·exact e▸Aq _
  ·exact e▸qG cF
 ·obtain⟨its,rv,pl,hz⟩:=I.tuple hp;have hl:s.heap.IsTuple p its.toArray:=pl;have cF:p<s.heap.objs.size:=by
   obtain⟨o,hg,_⟩:=hl;exact bQ hg
  have z:is.length+1=its.length:=by have:=rv.length;rw[eY] at this;exact this
  refine call_max_walk (wpAny_pyIter_tuple hl ?_);refine⟨_,_,_,_,_,_,_,rfl,Walks.tuple (A:=X.A.in1) (I.ok.hd hc) _ p (c7 cF) its.toArray,⟨⟨_,eE _ rfl,rfl,rfl⟩,hl.push _⟩,?_,by rw[fj];lia,CmpOf.ints_gt (λj=>(i::is).getD j 0) (λ_ _=>Ue rv),λv h' tk hP hk=>fin rv hP (λb o e=>hk b o (by simpa using c7 (bQ e)) (cG _ e))⟩;intro b hb;show b<(s.heap.push _).objs.size;rw[rM];simp only[iY,List.not_mem_nil,or_false] at hb;rcases hb with e|e
  ·exact e▸Aq _
  ·exact e▸qG cF
end
section
variable {X:Cx}{cA:Cl}{aq:Nat->Nat->Bool}{aj:Bool}{F:Fn}{EX:XS}{e:Expr}{pos p:Pos}{es:List Expr}{Xs:Es}{fz:Bool}
theorem zk1(hc:X.aj=true)(hm:X.mg "max"=none)(hg:JK X "max" .globalImplicit)(ha:JA X cA aq aj F EX (e::es) Xs)(he:aF e=true:=by rfl)(cO:es.all aF=true:=by rfl):JE X cA aq aj F EX (.Call (.Name "max" p) (e::es) [] pos) (.pr fz .xV Xs):=⟨zT (zgd hc) (zjI rfl) hg.o hm PyProof.Rows.boot_max ha.o (by decide) (by decide) (bA he) (bD cO)⟩
end
noncomputable def tX(i:Int)(n:Nat):List V:=(List.range n).map λk=>.int (i+(k:Nat))
def Kc(vs:List V)(H:Hp)(Q:VK):Prop:=∃i j:Int,(vs=[.int j]/\i=0\/vs=[.int i,.int j])/\okR i j=true/\∀l,H l=none->Q (.ref l) (upd H l (.lst (tX i (j-i).toNat)))
theorem zfI{i:Int}{acc:Array Value}:∀{n m:Nat},(∀k v,acc.toList[k]?=some (v:Value)->∃t,v=Value.int (i+((m+k:Nat):Int)) t)->acc.toList.length=n->Vals ((List.range n).map λk=>V.int (i+((m+k:Nat):Int))) acc.toList:=by
 generalize acc.toList=l
 induction l with
 |nil=>intro n m _ e;subst e;exact .nil
 |cons v l ih=>
  intro n m h e;subst e;rw[h_,Pn,jo,G4];refine .cons (h 0 v rfl) ?_;have:=ih (n:=l.length) (m:=m+1) (λk v e=>by
   have:=h (k+1) v e;rw[show m+1+k=m+(k+1) by lia];exact this) rfl
  have e:((λk=>V.int (i+((m+k:Nat):Int)))∘Nat.succ)=λk=>V.int (i+((m+1+k:Nat):Int)):=by
   funext k
   show V.int (i+((m+(k+1):Nat):Int))=_;rw[show m+(k+1)=m+1+k by lia]
  rw[e];exact this
section
variable {X:Cx}
theorem zbe{ao:List (Addr×Obj)}{Z:L2.St}{H:Hp}{s:Shared}{Q:VK}{lo hi:Int}{t u v:Tok}{tk:Nat}(hc:X.aj=true)(I:Inv X ao Z H s)(hk:okR lo hi=true)
  (q:∀l,H l=none->Q (.ref l) (upd H l (.lst (tX lo (hi-lo).toNat)))) :
  wpAny (model X.prog X.w) X.A (PySem.call (.type "list") [.ref s.heap.objs.size]) (EP X ao Z Q) X.xe {s with heap:=s.heap.push {cls:=.type "range",data:=.fields #[.int lo t,.int hi u,.int 1 v]},toks:=tk}:=by
 obtain⟨h1,h2,h3,h4,h5⟩:=jU hk;have en:Builtin.Range.rangeSize lo hi 1=((hi-lo).toNat:Nat):=by rw[rangeSize_one];split<;>lia
 refine call_list_range (I.ok.hd hc) (IsRange.new ..) (small_one h1 h2 h3 h4) en (by lia) λh' tk' acc c' kp e ⟨z1,z2⟩=>?_;have hs:(s.heap.push {cls:=.type "range",data:=.fields #[.int lo t,.int hi u,.int 1 v]}).objs.size=s.heap.objs.size+1:=rM ..;have hv:Vals (tX lo (hi-lo).toNat) acc.toList:=by
  have:=zfI (i:=lo) (acc:=acc) (n:=(hi-lo).toNat) (m:=0) (λk v e=>by
   obtain⟨t,e⟩:=z2 k v (by simpa using e);exact⟨t,by rw[e,Int.mul_one,G3]⟩) (by rw[nU];exact z1)
  simpa [tX] using this
 have I':=I.laid (a:=s.heap.objs.size+1) (o:=.lst (tX lo (hi-lo).toNat)) (h':=h') (t':=tk') (λb u q=>kp b u (cG _ q)) (uc _) (show bI X.prog X.w _ h' _ (.lst (tX lo (hi-lo).toNat)) from ⟨by
  rw[hv.length,nU,z1];exact jO h5 (by decide),acc.toList,c',hv,by rw[Li,<-hs];exact e⟩)
 refine⟨.ref (s.heap.objs.size+1),_,I',?_,q _ (I.hok.fresh (uc _))⟩;show Value.ref _=Value.ref _;rw[hs]
theorem zkA(hc:X.aj=true)(hg:Gl X "list")(hm:X.mg "list"=none)(yC:Gl X "range")(yD:X.mg "range"=none)(ha:PA X (e::es) t)
  (he:starEach (e::es) X.env=(false,eval e X.env)::starEach es X.env:=by rfl) (cO:(backTo pos' (starEach es X.env)).any (·.1)=false:=by rfl) :
  PE X (.Call (.Name "list" p) [.Call (.Name "range" p') (e::es) [] pos'] [] pos) (MF Kc t):=by
 intro ao s Z H Q I h;refine wJ (tO I hg hm Z9 ?_);refine wH ?_ rfl rfl;show wpAny _ _ (spliced ((false,eval (.Call (.Name "range" p') (e::es) [] pos') X.env)::backTo pos (starEach [] X.env))) _ _ s;refine Calls.spliced_cons ?_;refine wJ (tO I yC yD boot_range ?_);refine wH (aV (ha pos' ao s Z H _ I h) λus s1 ⟨vs,H1,I1,r1,q1⟩=>?_) he cO;obtain⟨i,j,ev,hk,q⟩:=q1;rcases ev with ⟨rfl,rfl⟩|rfl
 ·cases r1 with
  |cons r rr=>
   cases rr;obtain⟨t,rfl⟩:=r;exact call_range_1 (Lp (zbe hc I1 hk q))
 ·cases r1 with
  |cons r rr=>
   cases rr with
   |cons r' rr=>
    cases rr;obtain⟨t,rfl⟩:=r;obtain⟨t',rfl⟩:=r';exact call_range_2 (Lp (zbe hc I1 hk q))
end
section
variable {K:W.Frag}{cA:Cl}{U:Ph}{H:Hp}
theorem NQ:∀l:List Nat,aC K cA U H (l.map λk=>D.int (i+(k:Nat))) (l.map λk=>V.int (i+(k:Nat)))
 |[]=>.nil
 |_::l=>.cons (.int _) (NQ l)
theorem zmv:bH K cA .Fz Kc:=by
 intro U H ds vs Q zt rs o;have o:bN K cA U H (CG ds) Q:=o;unfold CG at o;split at o
 ·rename_i j _;obtain⟨v,rfl,r1⟩:=rs.one;cases r1;by_cases hk:okR 0 j=true
  ·rw[if_pos hk] at o;exact⟨0,j,.inl ⟨rfl,rfl⟩,hk,λl hl=>(o.of rfl) l _ hl (NQ _)⟩
  ·rw[if_neg hk] at o;exact o.elim
 ·rename_i i j _;obtain⟨v,v',rfl,r1,r2⟩:=rs.two (ds:=[]);cases r1;cases r2;by_cases hk:okR i j=true
  ·rw[if_pos hk] at o;exact⟨i,j,.inr rfl,hk,λl hl=>(o.of rfl) l _ hl (NQ _)⟩
  ·rw[if_neg hk] at o;exact o.elim
 ·exact o.elim
end
section
variable {X:Cx}{cA:Cl}{aq:Nat->Nat->Bool}{aj:Bool}{F:Fn}{EX:XS}{e:Expr}{pos pos' p p':Pos}{es:List Expr}{Xs:Es}{fz:Bool}
theorem zlQ(hc:X.aj=true)(hg:Gl X "list")(hm:X.mg "list"=none)(yC:Gl X "range")(yD:X.mg "range"=none)(ha:SA X cA aq aj F EX (e::es) Xs)
  (he:starEach (e::es) X.env=(false,eval e X.env)::starEach es X.env) (cO:(backTo pos' (starEach es X.env)).any (·.1)=false):SE X cA aq aj F EX (.Call (.Name "list" p) [.Call (.Name "range" p') (e::es) [] pos'] [] pos) (.pr fz .Fz Xs):=PE.weak (zkA hc hg hm yC yD ha he cO) λZ H Q hh=>un hh λU J s hL hS h=>
 oV hL hS h λvs H1 U1 ds s1 x1 hL1 aJ r1 h1=>by
  obtain⟨ds,rs,h3⟩:=tW aJ r1 h1;exact zmv U1 H1 ds _ _ aJ.zs rs (sV aJ h3)
theorem znH(hc:X.aj=true)(hm:X.mg "list"=none)(hg:JK X "list" .globalImplicit)(yD:X.mg "range"=none)(yC:JK X "range" .globalImplicit)(ha:JA X cA aq aj F EX (e::es) Xs)(he:aF e=true:=by rfl)(cO:es.all aF=true:=by rfl):JE X cA aq aj F EX (.Call (.Name "list" p) [.Call (.Name "range" p') (e::es) [] pos'] [] pos) (.pr fz .Fz Xs):=⟨zlQ hc hg.o hm yC.o yD ha.o (bA he) (bD cO)⟩
end
end Mi
namespace Mi
open PySem PySem.Spec PyProof.Rows L2 PySem.W
structure D3(K:Frag)(mg:Str->Option Value)(x:Str)(st:Stmt)(ps:List Str):Prop where
 f:oY K x x st (fZ K x) (fdOf K x st)
 m:mg x=some (.ref (fZ K x))
 b:Binds K (fdOf K x st) ps []
theorem dk{p:Prop}(h:p:=by decide +kernel):p:=h
section
variable {fs:List (Str×Stmt)}{ms:List uh}{xs:List (Nat×Str)}{lk:Lk}{K:Frag}{h:Heap}{mg:Str->Option Value}{x:Str}{st:Stmt}
theorem mL(S:o7 fs ms xs lk K)(X:K.In h)(G:h.Ns mainGlobals mg)(j:Nat)(hj:fs[j]?=some (x,st):=by rfl)(hb:∀(kV doc pm:Value) (an:Option Addr) (cdv ct a:Value),bindArgs (fnOf x x (aZ st) (aL st) (au st) .none kV doc pm an cdv ct) ⟨[a],[]⟩=pure [(p,a)]:=by intros;rfl):D3 K mg x st [p]:=have F:=S.fn (x,st) (gU hj);⟨F.fn,F.m X G,yt F.fn hb⟩
theorem lB(S:o7 fs ms xs lk K)(X:K.In h)(G:h.Ns mainGlobals mg)(j:Nat)(hj:fs[j]?=some (x,st):=by rfl)(hb:∀(kV doc pm:Value) (an:Option Addr) (cdv ct a b:Value),bindArgs (fnOf x x (aZ st) (aL st) (au st) .none kV doc pm an cdv ct) ⟨[a,b],[]⟩=pure [(p,a),(q,b)]:=by intros;rfl):D3 K mg x st [p,q]:=have F:=S.fn (x,st) (gU hj);⟨F.fn,F.m X G,yu F.fn hb⟩
theorem Gg(S:o7 fs ms xs lk K)(X:K.In h)(G:h.Ns mainGlobals mg)(j:Nat)(hj:fs[j]?=some (x,st):=by rfl)(hb:∀(kV doc pm:Value) (an:Option Addr) (cdv ct a b c:Value),bindArgs (fnOf x x (aZ st) (aL st) (au st) .none kV doc pm an cdv ct) ⟨[a,b,c],[]⟩=pure [(p,a),(q,b),(t,c)]:=by intros;rfl):D3 K mg x st [p,q,t]:=have F:=S.fn (x,st) (gU hj);⟨F.fn,F.m X G,yw F.fn hb⟩
theorem Ug(S:o7 fs ms xs lk K)(X:K.In h)(G:h.Ns mainGlobals mg)(j:Nat)(hj:fs[j]?=some (x,st):=by rfl)(hb:∀(kV doc pm:Value) (an:Option Addr) (cdv ct a b c d:Value),bindArgs (fnOf x x (aZ st) (aL st) (au st) .none kV doc pm an cdv ct) ⟨[a,b,c,d],[]⟩=pure [(p,a),(q,b),(t,c),(u,d)]:=by intros;rfl):D3 K mg x st [p,q,t,u]:=have F:=S.fn (x,st) (gU hj);⟨F.fn,F.m X G,yx F.fn hb⟩
theorem mG{α:Type}{l:List α}{a:α}(j:Nat)(h:l[j]?=some a:=by rfl):a∈l:=gU h
end
end Mi
namespace Mi
open PySem PySem.Spec PyProof.Rows L2
section
variable {X:Cx}{cA:Cl}
end
section
variable {X:Cx}{cA:Cl}{aq:Nat->Nat->Bool}{aj:Bool}{F:Fn}{EX:XS}{e:Expr}{pos p:Pos}{es:List Expr}{Xs:Es}{fz:Bool}
end
end Mi
namespace Mi
open PySem
def W{α:Type}(m:M α)(s:S)(P:α->S->Prop):Prop:=∃a s',m s=some (.ok a,s')/\P a s'
def WS(m:MS)(s:S)(Q:Out->S->Prop):Prop:=∃o s',m s=some (o,s')/\Q o s'
section
variable {α β:Type}{m:M α}{k:α->M β}{s:S}{P:α->S->Prop}{R:β->S->Prop}
theorem W.bd(h:W m s λa s'=>W (k a) s' R):W (M.bd m k) s R:=by
 obtain⟨a,s',e,b,s2,e2,r⟩:=h;exact⟨b,s2,by unfold M.bd;rw[e];exact e2,r⟩
theorem W.ret{a:α}(h:P a s):W (M.ret a) s P:=⟨a,s,rfl,h⟩
theorem W.qt(h:W m s P):W (M.qt m) s P:=by
 obtain⟨a,s',e,p⟩:=h;exact⟨a,s',by unfold M.qt;rw[e],p⟩
theorem W.opt(e:o=some a)(h:P a s):W (M.opt o) s P:=by subst e;exact⟨a,s,rfl,h⟩
theorem W.imp{P':α->S->Prop}(h:W m s P)(f:∀a s',P a s'->P' a s'):W m s P':=let ⟨a,s',e,p⟩:=h;⟨a,s',e,f a s' p⟩
theorem W.eq(e:m s=some (.ok a,s'))(p:P a s'):W m s P:=⟨a,s',e,p⟩
theorem KaZ{d:D}{P:D->S->Prop}(h:P d s):W (rd (.d d)) s P:=⟨d,s,rfl,h⟩
theorem Ka0{n:Nat}{xs:List D}{P:D->S->Prop}(e:s[n]?=some (.lst xs))(h:P (.fl xs) s):W (rd (.l n)) s P:=⟨.fl xs,s,by unfold rd;simp only[e],h⟩
theorem Ka2{P:List D->S->Prop}(h:P [] s):W (gW []) s P:=⟨[],s,rfl,h⟩
theorem Ka1{x:Xv}{r:List Xv}{P:List D->S->Prop}(h:W (rd x) s λd s1=>W (gW r) s1 λds s2=>P (d::ds) s2):W (gW (x::r)) s P:=W.bd (h.imp λd s1 h1=>W.bd (h1.imp λds s2 h2=>W.ret h2))
theorem Kav{P:List D->S->Prop}(h:P [] s):W (cP []) s P:=⟨[],s,rfl,h⟩
theorem Kau{d:D}{r:List Xv}{P:List D->S->Prop}(h:W (cP r) s λds s2=>P (d::ds) s2):W (cP (.d d::r)) s P:=W.bd (W.ret (W.bd (h.imp λds s2 h2=>W.ret h2)))
theorem W.dat{x:D}{P:D->S->Prop}(h:P x s):W (dat (.d x)) s P:=⟨x,s,rfl,h⟩
theorem W.bool{b:Bool}{P:Bool->S->Prop}(h:P b s):W (bool (.d (.bl b))) s P:=⟨b,s,rfl,h⟩
theorem W.int{b:Int}{P:Int->S->Prop}(h:P b s):W (int (.d (.int b))) s P:=⟨b,s,rfl,h⟩
theorem mO{fz:Bool}{o:Option Rz}{d:D}{P:Xv->S->Prop}(e:o=some (.dat d))(h:P (.d d) s):W (cL fz o) s P:=by subst e;exact⟨_,s,rfl,h⟩
theorem Uh{o:Option Rz}{xs:List D}{P:Xv->S->Prop}(e:o=some (.nw xs))(h:P (.d (.fl xs)) s):W (cL true o) s P:=by subst e;exact⟨_,s,rfl,h⟩
theorem KaP{xs:List D}{P:Xv->S->Prop}(h:P (.d (.fl xs)) s):W (newL true xs) s P:=⟨_,s,rfl,h⟩
theorem KaO{xs:List D}{P:Xv->S->Prop}(h:P (.l s.length) (s++[.lst xs])):W (newL false xs) s P:=⟨_,_,rfl,h⟩
theorem vC{F:List Xv->M Xv}{xs:List Xv}{P:Xv->S->Prop}(hl:locs xs=[])(h:W (F (dG 0 xs)) [] λv _=>∃d,v=.d d/\P (.d d) s):W (b_ F xs) s P:=by
 obtain⟨v,s1,e,d,rfl,p⟩:=h;refine⟨.d d,s,?_,p⟩;unfold b_;rw[hl,if_pos Az];simp only[iQ,e,dH]
theorem Kan{F:List Xv->M Xv}{xs:List Xv}{P:Xv->S->Prop}(hl:locs xs=[])(h:W (F (dG 0 xs)) [] λv s1=>∃n o,v=.l n/\s1[n]?=some o/\P (.l s.length) (s++[o])):W (b_ F xs) s P:=by
 obtain⟨v,s1,e,n,o,rfl,eo,p⟩:=h;refine⟨.l s.length,s++[o],?_,p⟩;unfold b_;rw[hl,if_pos Az];simp only[iQ,e,dH,List.getElem?_nil,eo]
theorem Kao{F:List Xv->M Xv}{xs:List Xv}{n:Nat}{o:SO}{P:Xv->S->Prop}(hl:locs xs=[n])(ho:s[n]?=some o)(h:W (F (dG 0 xs)) [o] λv s1=>∃d o',v=.d d/\s1=[o']/\P (.d d) (s.set n o')):W (b_ F xs) s P:=by
 obtain⟨v,s1,e,d,o',rfl,rfl,p⟩:=h;refine⟨.d d,s.set n o',?_,p⟩;unfold b_;rw[hl,if_pos (by simp)];simp only[iQ,ho,e,dH]
end
section
variable {s:S}{Q:Out->S->Prop}
theorem WS.ofM(h:W m s λa s'=>WS (k a) s' Q):WS (Mi.ofM m J k) s Q:=by
 obtain⟨a,s',e,o,s2,e2,q⟩:=h;exact⟨o,s2,by unfold Mi.ofM;rw[e];exact e2,q⟩
theorem WS.nx(h:Q (.nx J) s):WS (λs=>some (.nx J,s)) s Q:=⟨_,s,rfl,h⟩
theorem WS.rt(h:Q (.rt x) s):WS (λs=>some (.rt x,s)) s Q:=⟨_,s,rfl,h⟩
end
theorem W.call(hT:T f=some d)(hl:xs.length=d.fC)
  (h:WS (exs aq aj (λc=>Mi.call aq T k c) d.body (xs.map some++List.replicate (d.many-d.fC) none)) s λo s'=>match o with|.nx _=>P (.d .non) s'|.rt v=>P v s'|_=>False):W (Mi.call aq T (k+1) aj f xs) s P:=by
 obtain⟨o,s',e,q⟩:=h;unfold Mi.call;simp only[hT,if_pos hl];unfold W;simp only[e];cases o with
 |nx J=>exact⟨_,_,rfl,q⟩
 |rt v=>exact⟨_,_,rfl,q⟩
 |bk J=>exact q.elim
 |ct J=>exact q.elim
 |er c fs J=>exact q.elim
theorem NZ(I:Nat->Vs->S->Prop)(h0:I 0 J s)(hb:∀i x J s,c[i]?=some x->I i J s->WS (b x J) s λo s'=>∃J',o=.nx J'/\I (i+1) J' s')
  (he:∀J s,I c.length J s->Q (.nx J) s):WS (cQ (.fix c) b (c.length+1) 0 J) s Q:=by
 have key:∀n i J s,i+n=c.length->I i J s->WS (cQ (.fix c) b (n+1) i J) s Q:=by
  intro n
  induction n with
  |zero=>
   intro i J s hi hI;have e:c[i]?=none:=by rw[qD];lia
   have:i=c.length:=by lia
   subst this;refine⟨_,s,?_,he J s hI⟩;unfold cQ;simp only[Src.at,e]
  |succ n ih=>
   intro i J s hi hI;have cF:i<c.length:=by lia
   have e:c[i]?=some c[i]:=eU cF;obtain⟨o,s',eb,J',rfl,Ke⟩:=hb i c[i] J s e hI;obtain⟨o2,s2,e2,q⟩:=ih (i+1) J' s' (by lia) Ke;refine⟨o2,s2,?_,q⟩;unfold cQ;simp only[Src.at,e,eb];exact e2
 exact key c.length 0 J s (by lia) h0
theorem znB{i j:Int}(h:(-(2^64)<i/\i<2^64)\/(-(2^64)<j/\j<2^64)):prim .mul [.int i,.int j]=some (.dat (.int (i*j))):=by
 show Option.map _ (if _ then _ else _)=_;rw[if_pos h];rfl
theorem znk{i j:Int}(h:0<j):prim .mod [.int i,.int j]=some (.dat (.int (i%j))):=by
 show Option.map _ (if _ then _ else _)=_;rw[if_pos h];rfl
theorem zlt{i j:Int}(h:0<j/\j<1073741824):prim .fdiv [.int i,.int j]=some (.dat (.int (i/j))):=by
 show Option.map _ (if _ then _ else _)=_;rw[if_pos h];rfl
theorem zht{i j:Int}(h:0<j/\j<1073741824):prim .divmod [.int i,.int j]=some (.dat (.tup [.int (i/j),.int (i%j)])):=by
 show Option.map _ (if _ then _ else _)=_;rw[if_pos h];rfl
theorem znO{i j:Int}(h:0<=j/\j<=1000000/\i.natAbs<2^64):prim .pow [.int i,.int j]=some (.dat (.int (i^j.toNat))):=by
 show Option.map _ (if _ then _ else _)=_;rw[if_pos h];rfl
theorem znR{xs:List D}{i:Nat}{x:D}(h:xs[i]?=some x):prim .ix [.fl xs,.int i]=some (.dat x):=by
 show Option.map Rz.dat (L2.qO xs i)=_;have:L2.qO xs (i:Int)=some x:=by
  unfold L2.qO L2.sy;have hl:i<xs.length:=(f9.mp h).1;simp[hl];exact(f9.mp h).2
 rw[this];rfl
theorem zkY(h:xs.length+ys.length<=sizeLine):prim .add [.fl xs,.fl ys]=some (.nw (xs++ys)):=by
 show (if _ then _ else _)=_;rw[if_pos h]
theorem W.ite[Decidable c](h1:c->W m1 s P)(h2:¬c->W m2 s P):W (if c then m1 else m2) s P:=by
 by_cases h:c
 ·rw[if_pos h];exact h1 h
 ·rw[if_neg h];exact h2 h
theorem WS.ite[Decidable c](h1:c->WS m1 s P)(h2:¬c->WS m2 s P):WS (if c then m1 else m2) s P:=by
 by_cases h:c
 ·rw[if_pos h];exact h1 h
 ·rw[if_neg h];exact h2 h
theorem Ui{n:Nat}{xs:List D}{s:S}{P:Unit->S->Prop}(h:P () (s.set n (.lst xs))):W (putL n xs) s P:=⟨_,_,rfl,h⟩
theorem W.dD{n:Nat}{xs:List D}{s:S}{P:Nat×List D->S->Prop}(e:s[n]?=some (.lst xs))(h:P (n,xs) s):W (dD (.l n)) s P:=⟨_,s,by unfold Mi.dD;simp only[e],h⟩
theorem Ka4{xs:List D}{s:S}{P:Src×Nat->S->Prop}(h:P (.fix xs,xs.length) s):W (src (.d (.tup xs))) s P:=⟨_,s,rfl,h⟩
theorem Ka3{xs:List D}{s:S}{P:Src×Nat->S->Prop}(h:P (.fix xs,xs.length) s):W (src (.d (.fl xs))) s P:=⟨_,s,rfl,h⟩
theorem WS.nil{aq:Nat->Nat->Bool}{aj:Bool}{F:Bool->Fn}{J:Vs}{s:S}{Q:Out->S->Prop}(h:Q (.nx J) s):WS (exs aq aj F .nil J) s Q:=⟨_,s,rfl,h⟩
theorem WS.cons{aq:Nat->Nat->Bool}{aj:Bool}{F:Bool->Fn}{a:St}{r:bR}{J:Vs}{s:S}{Q:Out->S->Prop}(h:WS (ex aq aj F a J) s λo s'=>match o with|.nx J'=>WS (exs aq aj F r J') s' Q|.rt x=>Q (.rt x) s'|_=>False):WS (exs aq aj F (.cons a r) J) s Q:=by
 obtain⟨o,s',e,q⟩:=h;unfold WS exs Mi.bV;rw[e];cases o with
 |nx J'=>exact q
 |rt x=>exact⟨_,_,rfl,q⟩
 |bk _=>exact q.elim
 |ct _=>exact q.elim
 |er _ _ _=>exact q.elim
def yE{α:Type}(o:Option α)(P:α->Prop):Prop:=∃a,o=some a/\P a
theorem yE.mk{α:Type}{o:Option α}{P:α->Prop}{a:α}(e:o=some a)(h:P a):yE o P:=⟨a,e,h⟩
section
variable {aq:Nat->Nat->Bool}{aj:Bool}{F:Fn}{J:Vs}{s:S}{P:Xv->S->Prop}
theorem W.eC{d:D}(h:P (.d d) s):W (ev aq aj F (.c d) J) s P:=W.ret h
theorem W.eV{i:Nat}{x:Xv}(e:J[i]?.join=some x)(h:P x s):W (ev aq aj F (.v i) J) s P:=W.opt e h
theorem KaF{fz:Bool}{p:Pr}{xs:Es}(h:W (evs aq aj F xs J) s λvs s1=>W (gW vs) s1 λds s2=>W (cL fz (prim p ds)) s2 P):W (ev aq aj F (.pr fz p xs) J) s P:=W.bd (h.imp λ_ _ h=>W.bd h)
theorem Kaw{a b:E}(h:W (ev aq aj F a J) s λx s1=>W (Mi.bool x) s1 λk s2=>W (if k=true then ev aq aj F b J else M.ret (.d (.bl false))) s2 P):W (ev aq aj F (.and a b) J) s P:=W.bd (h.imp λ_ _ h=>W.bd h)
theorem KaE{a b:E}(h:W (ev aq aj F a J) s λx s1=>W (Mi.bool x) s1 λk s2=>W (if k=true then M.ret (.d (.bl true)) else ev aq aj F b J) s2 P):W (ev aq aj F (.or a b) J) s P:=W.bd (h.imp λ_ _ h=>W.bd h)
theorem KaD{a:E}(h:W (ev aq aj F a J) s λx s1=>W (Mi.bool x) s1 λk s2=>P (.d (.bl (!k))) s2):W (ev aq aj F (.not a) J) s P:=W.bd (h.imp λ_ _ h=>W.bd (h.imp λ_ _ h=>W.ret h))
theorem KaH{xs:Es}(h:W (evs aq aj F xs J) s λvs s1=>W (cP vs) s1 λds s2=>P (.d (.tup ds)) s2):W (ev aq aj F (.tup xs) J) s P:=W.bd (h.imp λ_ _ h=>W.bd (h.imp λ_ _ h=>W.ret h))
theorem KaC{fz:Bool}{xs:Es}(h:W (evs aq aj F xs J) s λvs s1=>W (cP vs) s1 λds s2=>W (newL fz ds) s2 P):W (ev aq aj F (.lst fz xs) J) s P:=W.bd (h.imp λ_ _ h=>W.bd h)
theorem Kaz{k:Str}{i:Int}(h:P (.d (.fd [.str k] [.int i])) s):W (ev aq aj F (.Cp k i) J) s P:=W.ret h
theorem Kax{f:Nat}{xs:Es}(h:W (evs aq aj F xs J) s λvs s1=>W (b_ (F f) vs) s1 P):W (ev aq aj F (.call f xs) J) s P:=W.bd h
theorem KaG{fz:Bool}{a:E}{lo hi:Eo}(h:W (ev aq aj F a J) s λx s1=>W (tV aq aj F lo J) s1 λl s2=>W (tV aq aj F hi J) s2 λu s3=>W (rd x) s3 λd s4=>W (cL fz (cutD d l u)) s4 P):W (ev aq aj F (.sl fz a lo hi) J) s P:=W.bd (h.imp λ_ _ h=>W.bd (h.imp λ_ _ h=>W.bd (h.imp λ_ _ h=>W.bd h)))
theorem KaQ{P:Option Int->S->Prop}(h:P none s):W (tV aq aj F .no J) s P:=W.ret h
theorem KaR{a:E}{P:Option Int->S->Prop}(h:W (ev aq aj F a J) s λx s1=>W (Mi.int x) s1 λi s2=>P (some i) s2):W (tV aq aj F (.yes a) J) s P:=W.bd (h.imp λ_ _ h=>W.bd (h.imp λ_ _ h=>W.ret h))
theorem Kaj{P:List Xv->S->Prop}(h:P [] s):W (evs aq aj F .nil J) s P:=W.ret h
theorem Kai{a:E}{r:Es}{P:List Xv->S->Prop}(h:W (ev aq aj F a J) s λx s1=>W (evs aq aj F r J) s1 λxs s2=>P (x::xs) s2):W (evs aq aj F (.cons a r) J) s P:=W.bd (h.imp λ_ _ h=>W.bd (h.imp λ_ _ h=>W.ret h))
theorem KaM{a:E}{P:Src×Nat->S->Prop}(h:W (ev aq aj F a J) s λx s1=>W (src x) s1 P):W (gO aq aj F (.seq a) J) s P:=W.bd h
end
section
variable {aq:Nat->Nat->Bool}{aj:Bool}{F:Bool->Fn}{J:Vs}{s:S}{Q:Out->S->Prop}
theorem WS.Uj{b:Bool}{m1 m2:MS}(e:b=true)(h:WS m1 s Q):WS (if b=true then m1 else m2) s Q:=by rw[if_pos e];exact h
theorem WS.Gh{b:Bool}{m1 m2:MS}(e:b=false)(h:WS m2 s Q):WS (if b=true then m1 else m2) s Q:=by rw[if_neg (by rw[e];decide)];exact h
theorem WS.Ae{m1 m2:MS}(h:WS m1 s Q):WS (if true=true then m1 else m2) s Q:=by rw[if_pos rfl];exact h
theorem WS.Uk{m1 m2:MS}(h:WS m2 s Q):WS (if false=true then m1 else m2) s Q:=by rw[if_neg (by decide)];exact h
theorem Kba{e:E}(h:W (ev aq aj (F aj) e J) s λ_ s1=>Q (.nx J) s1):WS (ex aq aj F (.ex e) J) s Q:=WS.ofM (h.imp λ_ _ h=>WS.nx h)
theorem Kbd{i:Nat}{e:E}(h:W (ev aq aj (F aj) e J) s λx s1=>Q (.nx (J.set i (some x))) s1):WS (ex aq aj F (.asg (.nm i) e) J) s Q:=WS.ofM (h.imp λ_ _ h=>WS.nx h)
theorem Kbi{is:List Nat}{e:E}(h:W (ev aq true (F true) e J) s λx s1=>W (dat x) s1 λd s2=>yE ((j_ d).bind λds=>gH is (ds.map .d) J) λJ'=>Q (.nx J') s2):WS (ex aq true F (.asg (.tp is) e) J) s Q:=by
 refine WS.ofM (h.imp λx s1 h=>?_);exact WS.Ae (m2:=λ_=>none) (WS.ofM (W.bd (h.imp λd s2 ⟨J',e,q⟩=>W.opt e (WS.nx q))))
theorem Kbh{o i e:E}(h:W (ev aq aj (F aj) e J) s λx s1=>W (dat x) s1 λd s2=>W (ev aq aj (F aj) o J) s2 λy s3=>W (ev aq aj (F aj) i J) s3 λz s4=>W (Mi.int z) s4 λj s5=>W (dD y) s5 λnx s6=>yE (L2.sy nx.2.length j) λq=>Q (.nx J) (s6.set nx.1 (.lst (nx.2.set q d)))):WS (ex aq aj F (.asg (.aq o i) e) J) s Q:=by
 refine WS.ofM (h.imp λx s1 h=>WS.ofM (W.bd (h.imp λd s2 h=>W.bd (h.imp λy s3 h=>W.bd (h.imp λz s4 h=>W.bd (h.imp λj s5 h=>W.bd (h.imp λnx s6 h=>?_)))))));obtain⟨q,e,h⟩:=h;simp only[e];exact Ui (WS.nx h)
theorem Kbe{i j:Nat}{a b:E}(h:W (ev aq true (F true) a J) s λx s1=>W (ev aq true (F true) b J) s1 λy s2=>Q (.nx ((J.set i (some x)).set j (some y))) s2):WS (ex aq true F (.par i j a b) J) s Q:=by
 exact WS.Ae (m2:=λ_=>none) (WS.ofM (W.bd (h.imp λx s1 h=>W.bd (h.imp λy s2 h=>W.ret (WS.nx h)))))
theorem Kbf{e:E}(h:W (ev aq aj (F aj) e J) s λx s1=>Q (.rt x) s1):WS (ex aq aj F (.ret e) J) s Q:=WS.ofM (h.imp λ_ _ h=>WS.rt h)
theorem Kbc{c:E}{t e:bR}(h:W (ev aq aj (F aj) c J) s λx s1=>W (Mi.bool x) s1 λb s2=>WS (if b=true then exs aq aj F t J else exs aq aj F e J) s2 Q):WS (ex aq aj F (.iff c t e) J) s Q:=WS.ofM (W.bd h)
theorem Kbb{t:Tg}{w:Wk}{b:bR}(h:W (gO aq true (F true) w J) s λcn s1=>WS (cQ cn.1 (λd J=>Mi.bV (store aq true (F true) t (.d d) J) λJ'=>exs aq true F b J') (cn.2+1) 0 J) s1 Q):WS (ex aq true F (.fr t w b) J) s Q:=by
 exact WS.Ae (m2:=λ_=>none) (WS.ofM h)
end
theorem W.Uj{α:Type}{b:Bool}{m1 m2:M α}{s:S}{P:α->S->Prop}(e:b=true)(h:W m1 s P):W (if b=true then m1 else m2) s P:=by rw[if_pos e];exact h
theorem W.Gh{α:Type}{b:Bool}{m1 m2:M α}{s:S}{P:α->S->Prop}(e:b=false)(h:W m2 s P):W (if b=true then m1 else m2) s P:=by rw[if_neg (by rw[e];decide)];exact h
theorem W.Ae{α:Type}{m1 m2:M α}{s:S}{P:α->S->Prop}(h:W m1 s P):W (if true=true then m1 else m2) s P:=by rw[if_pos rfl];exact h
theorem W.Uk{α:Type}{m1 m2:M α}{s:S}{P:α->S->Prop}(h:W m2 s P):W (if false=true then m1 else m2) s P:=by rw[if_neg (by decide)];exact h
structure Bx(R:Prop):Prop where
 o:R
end Mi
namespace Mi
open PySem PySem.W PyProof.Rows L2
def tH{α:Type}(lt:Nat->Nat->Option Bool)(t:KasT α)(P:α->Prop):Prop:=∃a,bF lt t=some a/\P a
section
variable {α β:Type}{lt:Nat->Nat->Option Bool}{n:Nat}
theorem tH.ret(h:P a):tH lt (.ret a) P:=⟨a,rfl,h⟩
theorem tH.bind(hf:∀a,P a->tH lt (f a) R):∀{t:KasT α},tH lt t P->tH lt (t.bind f) R
 |.ret a,⟨a',e,h⟩=>by cases e;exact hf _ h
 |.ask i j k,⟨a',e,h⟩=>by
  unfold bF at e;cases el:lt i j with
  |none=>rw[el] at e;cases e
  |some b=>
   rw[el] at e;obtain⟨c,e1,h1⟩:=tH.bind hf (t:=k b) ⟨a',e,h⟩;refine⟨c,?_,h1⟩;show bF lt (.ask i j λb=>(k b).bind f)=some c;unfold bF;rw[el];exact e1
def Tot(n:Nat)(lt:Nat->Nat->Option Bool):Prop:=∀i j,i<n->j<n->∃b,lt i j=some b
variable (ht:Tot n lt)(hn:0<n)
include ht hn
end
section
variable {lt:Nat->Nat->Option Bool}{n:Nat}
theorem zgQ(h:∀k,1<=k->k<n->lt (p.getD k 0) (p.getD (k-1) 0)=some false):∀f k,1<=k->k+f=n->tH lt (kas_asc p f k) λr=>r=n
 |0,k,h1,e=>.ret (by lia)
 |f+1,k,h1,e=>by
  obtain⟨a,e1,e2⟩:=zgQ h f (k+1) (by lia) (by lia);refine⟨a,?_,e2⟩;unfold kas_asc bF;rw[h k h1 (by lia)];exact e1
theorem zej(hk:k<n):(List.range n).toArray.getD k 0=k:=by
 simp[Array.getD,hk]
theorem zfJ(hn:0<n)(h:∀k,k+1<n->lt (k+1) k=some false):bF lt (kas_sort n)=some (List.range n).toArray:=by
 have h1:tH lt (kas_asc (List.range n).toArray (n-1) 1) λr=>r=n:=zgQ (λk a b=>by
  rw[zej b,zej (by lia)];have:=h (k-1) (by lia)
  rwa [show k-1+1=k by lia] at this) _ _ (cD _) (by lia)
 have h2:tH lt (kas_count n (List.range n).toArray) λr=>r=(n,(List.range n).toArray):=by
  refine tH.bind (λr hr=>?_) h1;subst hr;rw[if_pos (by simp)];exact .ret rfl
 have h3:tH lt (kas_sort n) λr=>r=(List.range n).toArray:=by
  refine tH.bind (λr hr=>?_) h2;subst hr;rw[if_neg (pN _)];exact .ret rfl
 obtain⟨a,e,rfl⟩:=h3;exact e
end
theorem zhH(hk:(xs.all j9||xs.all jh)=true)(nO:xs.length<64)(h:∀k,k+1<xs.length->zL xs (k+1) k=some false):zM xs=some xs:=by
 unfold zM;rw[if_pos hk];unfold jr;by_cases h2:xs.length<2
 ·rw[if_pos h2]
 ·rw[if_neg h2,if_pos nO,zfJ (by lia) h];dsimp only;rw[if_pos (by simp)]
  congr 1
  apply List.ext_getElem
  ·simp
  ·intro i a b;simp[lE,b]
noncomputable def lC(p:Int×Int):D:=.tup [.int p.1,.int p.2]
end Mi
namespace Mi
open PySem
theorem W.walk{c:List D}{f:D->List D->M (List D)}{s:S}{acc:List D}{P:List D->S->Prop}(I:Nat->List D->S->Prop)(h0:I 0 acc s)(hb:∀i x acc s,c[i]?=some x->I i acc s->W (f x acc) s λa s'=>I (i+1) a s')
  (he:∀acc s,I c.length acc s->P acc s):W (Mi.walk (.fix c) f (c.length+1) 0 acc) s P:=by
 have key:∀n i acc s,i+n=c.length->I i acc s->W (Mi.walk (.fix c) f (n+1) i acc) s P:=by
  intro n
  induction n with
  |zero=>
   intro i acc s hi hI;have e:c[i]?=none:=by rw[qD];lia
   have:i=c.length:=by lia
   subst this;refine⟨acc,s,?_,he acc s hI⟩;unfold Mi.walk;simp only[Src.at,e]
  |succ n ih=>
   intro i acc s hi hI;have cF:i<c.length:=by lia
   have e:c[i]?=some c[i]:=eU cF;obtain⟨a,s',eb,Ke⟩:=hb i c[i] acc s e hI;obtain⟨a2,s2,e2,q⟩:=ih (i+1) a s' (by lia) Ke;refine⟨a2,s2,?_,q⟩;unfold Mi.walk;simp only[Src.at,e,M.bd,eb];exact e2
 exact key c.length 0 acc s (by lia) h0
section
variable {aq:Nat->Nat->Bool}{F:Fn}{J:Vs}{s:S}{P:Xv->S->Prop}
theorem Kar{fz:Bool}{elt:E}{tg:List Nat}{it:Wk}{fr:List Nat}{many:Nat}{cond:Eo}{c:List D}(g:D->Option D)(hc:c.length<=sizeLine)
  (hw:W (gO aq true F it J) s λcn s1=>cn=(.fix c,c.length)/\s1=s)
  (hb:∀x∈c,∃J',fP tg x (blk many fr J)=some J'/\W (m_ aq true F cond J') s λb s1=>s1=s/\(if b=true then W (ev aq true F elt J') s λy s2=>s2=s/\∃d,y=.d d/\g x=some d else g x=none))
  (h:W (newL fz (c.filterMap g)) s P):W (ev aq true F (.comp fz elt tg it fr many cond) J) s P:=by
 change W (_root_.ite (true=true) _ _) s P
 rw[if_pos rfl];refine W.bd (hw.imp λcn s1=>?_);rintro⟨rfl,rfl⟩;refine W.bd ?_;refine W.walk (c:=c) (λi acc s'=>s'=s1/\acc=(c.take i).filterMap g) ⟨rfl,rfl⟩ (λi x acc s' e hI=>?_) (λacc s' hI=>?_)
 ·obtain⟨rfl,rfl⟩:=hI;have hi:i<c.length:=(f9.mp e).1;have ht:c.take (i+1)=c.take i++[x]:=by rw[List.take_succ,e];rfl
  have hl:((c.take i).filterMap g).length<sizeLine:=Ej (Pg _ _) (by rw[Ar];lia);obtain⟨J',e1,h1⟩:=hb x (gU e);refine W.bd (W.opt e1 ?_);refine W.bd (W.qt (h1.imp λb s2=>?_));rintro⟨rfl,h2⟩;rw[ht,Pu];cases b
  ·rw[if_neg (by decide)] at h2 ⊢;refine W.ret ⟨rfl,?_⟩;simp[h2]
  ·rw[if_pos rfl] at h2 ⊢;refine W.bd (W.qt (h2.imp λy s3=>?_));rintro⟨rfl,d,rfl,eg⟩;refine W.bd (W.dat ?_);rw[if_pos hl];refine W.ret ⟨rfl,?_⟩;simp[eg]
 ·obtain⟨rfl,rfl⟩:=hI;rw[En];exact h
end
section
variable {aq:Nat->Nat->Bool}{aj:Bool}{F:Fn}{J:Vs}{s:S}{P:Xv->S->Prop}
theorem KaA(h:W (ev aq aj F a J) s λx s1=>W (rd x) s1 λd s2=>∃b,mC aq d k=some b/\P (.d (.bl b)) s2):W (ev aq aj F (.qe a k) J) s P:=
 W.bd (h.imp λ_ _ h=>W.bd (h.imp λ_ _ ⟨_,e,h⟩=>W.bd (W.opt e (W.ret h))))
theorem Kay(h:W (ev aq aj F a J) s λx s1=>W (ev aq aj F b J) s1 λy s2=>W (gW [x,y]) s2 λds s3=>W (cL true (prim p ds)) s3 λt s4=>W (Mi.bool t) s4 λk s5=>
  W (if k=true then M.bd (ev aq aj F c J) λz=>M.bd (gW [y,z]) λds=>cL true (prim q ds) else M.ret (.d (.bl false))) s5 P):W (ev aq aj F (.xW p q a b c) J) s P:=
 W.bd (h.imp λ_ _ h=>W.bd (h.imp λ_ _ h=>W.bd (h.imp λ_ _ h=>W.bd (h.imp λ_ _ h=>W.bd h))))
end
noncomputable def Kf(fz:Bool):Option Rz->Option Xv
 |some (.dat d)=>some (.d d)
 |some (.nw ys)=>match fz with
  |true=>some (.d (.fl ys))
  |false=>none
 |none=>none
noncomputable def addQ:D->D->Option Rz
 |.int i,.int j=>some (.dat (.int (i+j)))
 |_,_=>none
noncomputable def Af:List D->Option Rz
 |a::r=>match r with
  |b::r=>match r with
   |[]=>addQ a b
   |_::_=>none
  |[]=>none
 |[]=>none
noncomputable def quick:Pr->Bool
 |.sG=>false|.Cj=>false|.mul=>false|.fdiv=>false|.mod=>false|.pow=>false|.divmod=>false|.sorted=>false|.qT=>false|.Jc=>false|.mult=>false|.zJ=>false|.repr=>false|.str1=>false|.Fz=>false|.xV=>false|.Ja=>false
 |_=>true
noncomputable def rC(p:Pr)(ds:List D):Option Rz:=match p with
 |.add=>Af ds
 |p=>match quick p with
  |true=>prim p ds
  |false=>none
theorem Kg{ds:List D}{r:Rz}(h:Af ds=some r):Cu ds=some r:=by
 cases ds with
 |nil=>cases h
 |cons a t=>cases t with
  |nil=>cases h
  |cons b t=>cases t with
   |cons _ _=>cases h
   |nil=>cases a with
    |int i=>cases b with
     |int j=>exact h
     |_=>cases h
    |_=>cases h
theorem Du{p:Pr}{ds:List D}{r:Rz}(h:rC p ds=some r):prim p ds=some r:=by
 cases p with
 |add=>exact Kg h
 |_=>first|exact h|cases h
noncomputable def Ul(fz:Bool)(ds:List D):Option Xv:=match fz with
 |true=>some (.d (.fl ds))
 |false=>none
noncomputable def Kh:Xv->Option D
 |.d x=>some x
 |.l _=>none
noncomputable def obP(c:Nat):Xv->Option (List D)
 |.d (.ob e fs)=>if e=c then some fs else none
 |_=>none
noncomputable def notP:Xv->Option Xv
 |.d (.bl b)=>some (.d (.bl (!b)))
 |_=>none
noncomputable def Um(r:Option Xv):Xv->Option Xv
 |.d (.bl true)=>r
 |.d (.bl false)=>some (.d (.bl false))
 |_=>none
noncomputable def orP(r:Option Xv):Xv->Option Xv
 |.d (.bl true)=>some (.d (.bl true))
 |.d (.bl false)=>r
 |_=>none
section
variable (aq:Nat->Nat->Bool)
mutual
noncomputable def dR:E->Vs->Option Xv
 |.c d,_=>some (.d d)
 |.v i,J=>J[i]?.join
 |.pr fz p xs,J=>(qz xs J).bind λds=>Kf fz (rC p ds)
 |.tup xs,J=>(qz xs J).bind λds=>some (.d (.tup ds))
 |.lst fz xs,J=>(qz xs J).bind λds=>Ul fz ds
 |.not a,J=>(dR a J).bind notP
 |.and a b,J=>(dR a J).bind (Um (dR b J))
 |.or a b,J=>(dR a J).bind (orP (dR b J))
 |.qe a k,J=>(dR a J).bind λx=>(Kh x).bind λd=>(mC aq d k).bind λb=>some (.d (.bl b))
 |.of o c i,J=>(dR o J).bind λx=>(obP c x).bind λfs=>fs[i]?.map .d
 |_,_=>none
noncomputable def qz:Es->Vs->Option (List D)
 |.nil,_=>some []
 |.cons a r,J=>(dR a J).bind λx=>(Kh x).bind λd=>(qz r J).bind λds=>some (d::ds)
end
noncomputable def o8:Es->Vs->Option (List Xv)
 |.nil,_=>some []
 |.cons a r,J=>(dR aq a J).bind λx=>(o8 r J).bind λxs=>some (x::xs)
end
theorem nG{α β:Type}{o:Option α}{f:α->Option β}{b:β}(h:o.bind f=some b):∃a,o=some a/\f a=some b:=yS.mp h
theorem jz{α β:Type}{m:M α}{k:α->M β}{s s':S}{a:α}(e:m s=some (.ok a,s')):M.bd m k s=k a s':=by
 show (match m s with|some (.ok a,s')=>k a s'|some (.er c f,s')=>some (.er c f,s')|none=>none)=_;rw[e]
theorem Dv(s:S):∀ds:List D,gW (ds.map .d) s=some (.ok ds,s)
 |[]=>rfl
 |d::r=>(jz (s':=s) (a:=d) rfl).trans ((jz (Dv s r)).trans rfl)
theorem vD(s:S):∀ds:List D,cP (ds.map .d) s=some (.ok ds,s)
 |[]=>rfl
 |d::r=>(jz (s':=s) (a:=d) rfl).trans ((jz (vD s r)).trans rfl)
theorem Uo{fz:Bool}{p:Pr}{ds:List D}{x:Xv}{s:S}(h:Kf fz (rC p ds)=some x):cL fz (prim p ds) s=some (.ok x,s):=by
 cases o:rC p ds with
 |none=>rw[o] at h;cases h
 |some r=>
  rw[o] at h;rw[Du o];cases r with
  |dat d=>cases h;rfl
  |nw ys=>cases fz with
   |true=>cases h;rfl
   |false=>cases h
section
variable {aq:Nat->Nat->Bool}{aj:Bool}{F:Fn}{J:Vs}{s:S}
theorem g_(e:E):∀x:Xv,dR aq e J=some x->ev aq aj F e J s=some (.ok x,s):=by
 refine E.rec (motive_1:=λe=>∀x:Xv,dR aq e J=some x->ev aq aj F e J s=some (.ok x,s)) (motive_2:=λ_=>True) (motive_3:=λxs=>∀ds:List D,qz aq xs J=some ds->evs aq aj F xs J s=some (.ok (ds.map .d),s)) (motive_4:=λ_=>True)
  ?c ?v ?pr (λ_ _ _ _ _ _ _ _ _ h=>nomatch h) (λ_ _ _ _ _ _ _ _ _ _ _ _ h=>nomatch h) ?and ?or ?not (λ_ _ _ _ _ _ _ h=>nomatch h) ?tup ?lst (λ_ _ _ h=>nomatch h) (λ_ _ _ _ h=>nomatch h) ?qe (λ_ _ _ _ _ _ _ _ h=>nomatch h) (λ_ _ _ _ _ _ _ _ h=>nomatch h) (λ_ _ _ _ _ h=>nomatch h) (λ_ _ _ h=>nomatch h)
  (λ_ _ _ _ _ _ _ _ _ _ _ h=>nomatch h) (λ_ _ _ _ _ _ _ _ _ _ _ _ _ _ h=>nomatch h) (λ_ _ _ _ _ h=>nomatch h) ?of (λ_ _ _ _ _ h=>nomatch h) (λ_ _ _ _ _ _ _ h=>nomatch h) (λ_ h=>nomatch h) (λ_ _ _ _ _ _ h=>nomatch h) (λ_ _ _ _ _ h=>nomatch h) (λ_ _ _ h=>nomatch h) (λ_ _ _ _ _ _ h=>nomatch h) (λ_ _ _ _ _ h=>nomatch h) (λ_ _ _ _ _ _ _ h=>nomatch h) (λ_ h=>nomatch h)
  (λ_ _=>trivial) (λ_ _ _ _=>trivial) (λ_ _ _ _=>trivial) (λ_ _=>trivial) (λ_ _=>trivial) ?nil ?cons trivial (λ_ _=>trivial) e
 case c=>intro d x h;cases h;rfl
 case v=>intro i x h;exact(show M.opt (J[i]?.join) s=_ from by rw[show J[i]?.join=some x from h];rfl)
 case pr=>
  intro fz p xs ih x h;obtain⟨ds,e1,e2⟩:=nG h;exact(jz (ih _ e1)).trans ((jz (Dv s ds)).trans (Uo e2))
 case tup=>
  intro xs ih x h;obtain⟨ds,e1,e2⟩:=nG h;cases e2;exact(jz (ih _ e1)).trans ((jz (vD s ds)).trans rfl)
 case lst=>
  intro fz xs ih x h;obtain⟨ds,e1,e2⟩:=nG h;cases fz with
  |false=>cases e2
  |true=>cases e2;exact(jz (ih _ e1)).trans ((jz (vD s ds)).trans rfl)
 case not=>
  intro a ih x h;obtain⟨y,e1,e2⟩:=nG h;cases y with
  |l n=>cases e2
  |d y=>cases y with
   |bl b=>cases e2;exact(jz (ih _ e1)).trans rfl
   |_=>cases e2
 case and=>
  intro a b ih ih2 x h;obtain⟨y,e1,e2⟩:=nG h;cases y with
  |l n=>cases e2
  |d y=>cases y with
   |bl b=>cases b with
    |true=>exact(jz (ih _ e1)).trans (ih2 _ e2)
    |false=>cases e2;exact(jz (ih _ e1)).trans rfl
   |_=>cases e2
 case or=>
  intro a b ih ih2 x h;obtain⟨y,e1,e2⟩:=nG h;cases y with
  |l n=>cases e2
  |d y=>cases y with
   |bl b=>cases b with
    |true=>cases e2;exact(jz (ih _ e1)).trans rfl
    |false=>exact(jz (ih _ e1)).trans (ih2 _ e2)
   |_=>cases e2
 case qe=>
  intro a k ih x h;obtain⟨y,e1,e2⟩:=nG h;cases y with
  |l n=>cases e2
  |d y=>
   obtain⟨d,e3,e4⟩:=nG e2;cases e3;obtain⟨b,e5,e6⟩:=nG e4;cases e6;refine(jz (ih _ e1)).trans ((jz (s':=s) (a:=y) rfl).trans ((jz (s':=s) (a:=b) ?_).trans rfl));rw[e5];rfl
 case of=>
  intro o c i ih x h;obtain⟨y,e1,e2⟩:=nG h;obtain⟨fs,e3,e4⟩:=nG e2;refine(jz (ih _ e1)).trans ((jz (s':=s) (a:=fs) ?_).trans ?_)
  ·cases y with
   |l n=>cases e3
   |d y=>cases y with
    |ob e gs=>
     have e3:(if e=c then some gs else none)=some fs:=e3;show (if e=c then M.ret gs else M.no) s=_;split at e3
     ·rename_i h;cases e3;rw[if_pos h];rfl
     ·cases e3
    |_=>cases e3
  ·show M.opt (fs[i]?.map Xv.d) s=_;rw[e4];rfl
 case nil=>intro ds h;cases h;rfl
 case cons=>
  intro a r ih ih2 ds h;obtain⟨y,e1,e2⟩:=nG h;cases y with
  |l n=>cases e2
  |d y=>
   obtain⟨d,e3,e4⟩:=nG e2;cases e3;obtain⟨rs,e5,e6⟩:=nG e4;cases e6;exact(jz (ih _ e1)).trans ((jz (ih2 _ e5)).trans rfl)
theorem vG:∀(xs:Es) (ds:List D),qz aq xs J=some ds->evs aq aj F xs J s=some (.ok (ds.map .d),s)
 |.nil,ds,h=>by cases h;rfl
 |.cons a r,ds,h=>by
  obtain⟨y,e1,e2⟩:=nG h;cases y with
  |l n=>cases e2
  |d y=>
   obtain⟨d,e3,e4⟩:=nG e2;cases e3;obtain⟨rs,e5,e6⟩:=nG e4;cases e6;exact(jz (g_ a _ e1)).trans ((jz (vG r _ e5)).trans rfl)
theorem jT:∀(xs:Es) {vs:List Xv},o8 aq xs J=some vs->evs aq aj F xs J s=some (.ok vs,s)
 |.nil,vs,h=>by cases h;rfl
 |.cons a r,vs,h=>by
  obtain⟨y,e1,e2⟩:=nG h;obtain⟨ys,e3,e4⟩:=nG e2;cases e4;exact(jz (g_ a _ e1)).trans ((jz (jT r e3)).trans rfl)
variable {P:Xv->S->Prop}
theorem W.pv{e:E}{x:Xv}(h:dR aq e J=some x)(k:P x s):W (ev aq aj F e J) s P:=W.eq (g_ e _ h) k
theorem KaX{f:Nat}{xs:Es}{vs:List Xv}(h:o8 aq xs J=some vs)(k:W (b_ (F f) vs) s P):W (ev aq aj F (.call f xs) J) s P:=Kax (W.eq (jT xs h) k)
theorem KaY{fz:Bool}{p:Pr}{xs:Es}{ds:List D}(h:qz aq xs J=some ds)(k:W (cL fz (prim p ds)) s P):W (ev aq aj F (.pr fz p xs) J) s P:=KaF (W.eq (vG xs _ h) (W.eq (Dv s ds) k))
theorem KaW{xs:Es}{vs:List Xv}{P:List Xv->S->Prop}(h:o8 aq xs J=some vs)(k:P vs s):W (evs aq aj F xs J) s P:=W.eq (jT xs h) k
end
section
variable {aq:Nat->Nat->Bool}{aj:Bool}{F:Bool->Fn}{J:Vs}{s:S}{Q:Out->S->Prop}{e:E}{r:bR}
theorem Ka8{i:Nat}{x:Xv}(h:dR aq e J=some x)(k:WS (exs aq aj F r (J.set i (some x))) s Q):WS (exs aq aj F (.cons (.asg (.nm i) e) r) J) s Q:=WS.cons (Kbd (W.pv h k))
theorem Ka9{x:Xv}(h:dR aq e J=some x)(k:Q (.rt x) s):WS (exs aq aj F (.cons (.ret e) r) J) s Q:=WS.cons (Kbf (W.pv h k))
theorem Ka7{b:Bool}{t u:bR}(h:dR aq e J=some (.d (.bl b)))(k:WS (if b=true then exs aq aj F t J else exs aq aj F u J) s λo s'=>match o with|.nx J'=>WS (exs aq aj F r J') s' Q|.rt x=>Q (.rt x) s'|_=>False):WS (exs aq aj F (.cons (.iff e t u) r) J) s Q:=WS.cons (Kbc (W.pv h (W.bool k)))
end
section
variable {α β:Type}{m:M α}{k:α->M β}{s:S}{c:Nat}{fs:List D}
end
section
variable {aq:Nat->Nat->Bool}{aj:Bool}{F:Bool->Fn}{J:Vs}{s:S}{Q:Out->S->Prop}{c:Nat}{fs:List D}
theorem Kbg{c:Nat}{kp:Bool}{xs:Es}(h:W (evs aq true (F true) xs J) s λvs s1=>W (cP vs) s1 λds s2=>Q (.er c (if kp=true then ds else []) J) s2):WS (ex aq true F (.rise c kp xs) J) s Q:=by
 refine WS.Ae (m2:=λ_=>none) (WS.ofM (W.bd (h.imp λvs s1 h=>h.imp λds s2 h=>?_)));exact⟨_,s2,rfl,h⟩
theorem Kbl{m:MS}{k:Vs->MS}(h:WS m s λo s'=>match o with|.nx J'=>WS (k J') s' Q|.rt x=>Q (.rt x) s'|_=>False):WS (Mi.bV m k) s Q:=by
 obtain⟨o,s',e,q⟩:=h;unfold WS Mi.bV;rw[e];cases o with
 |nx J'=>exact q
 |rt x=>exact⟨_,_,rfl,q⟩
 |bk _=>exact q.elim
 |ct _=>exact q.elim
 |er _ _ _=>exact q.elim
theorem Kbj{F:Fn}{i:Nat}{x:Xv}(h:Q (.nx (J.set i (some x))) s):WS (store aq aj F (.nm i) x J) s Q:=⟨_,s,rfl,h⟩
theorem Kbk{F:Fn}{is:List Nat}{d:D}(h:yE ((j_ d).bind λds=>gH is (ds.map .d) J) λJ'=>Q (.nx J') s):WS (store aq true F (.tp is) (.d d) J) s Q:=by
 obtain⟨J',e,q⟩:=h;exact WS.Ae (m2:=λ_=>none) (WS.ofM (W.bd (W.dat (W.opt e (WS.nx q)))))
end
section
variable {aq:Nat->Nat->Bool}{aj:Bool}{F:Fn}{J:Vs}{s:S}{P:Xv->S->Prop}
theorem W.qe{a:E}{k:Kd}(h:W (ev aq aj F a J) s λx s1=>W (rd x) s1 λd s2=>yE (mC aq d k) λb=>P (.d (.bl b)) s2):W (ev aq aj F (.qe a k) J) s P:=KaA h
theorem W.xW{p q:Pr}{a b c:E}(h:W (ev aq aj F a J) s λx s1=>W (ev aq aj F b J) s1 λy s2=>W (gW [x,y]) s2 λds s3=>W (cL true (prim p ds)) s3 λt s4=>W (Mi.bool t) s4 λk s5=>
  W (if k=true then M.bd (ev aq aj F c J) λz=>M.bd (gW [y,z]) λds=>cL true (prim q ds) else M.ret (.d (.bl false))) s5 P):W (ev aq aj F (.xW p q a b c) J) s P:=Kay h
theorem KaB{c a b:E}(h:W (ev aq aj F c J) s λx s1=>W (Mi.bool x) s1 λk s2=>W (if k=true then ev aq aj F a J else ev aq aj F b J) s2 P):W (ev aq aj F (.ite c a b) J) s P:=W.bd (h.imp λ_ _ h=>W.bd h)
theorem KaK{a:E}{P:Src×Nat->S->Prop}(h:W (ev aq aj F a J) s λx s1=>W (oU x) s1 P):W (gO aq aj F (.enum a) J) s P:=W.bd h
theorem KaI{xs:List D}{P:Src×Nat->S->Prop}(h:P (.fix (enumFrom 0 xs),(enumFrom 0 xs).length) s):W (oU (.d (.fl xs))) s P:=⟨_,s,rfl,h⟩
theorem KaL{a b:E}{P:Src×Nat->S->Prop}(h:W (ev aq aj F a J) s λx s1=>W (ev aq aj F b J) s1 λy s2=>W (Mi.int x) s2 λi s3=>W (Mi.int y) s3 λj s4=>(gF i&&gF j)=true/\P (.fix (mF i j),(mF i j).length) s4):W (gO aq aj F (.rg a b) J) s P:=by
 refine W.bd (h.imp λx s1 h=>W.bd (h.imp λy s2 h=>W.bd (h.imp λi s3 h=>W.bd (h.imp λj s4 h=>?_))));rw[if_pos h.1];exact W.ret h.2
theorem KaN{a b:E}{P:Src×Nat->S->Prop}(h:W (ev aq aj F a J) s λx s1=>W (ev aq aj F b J) s1 λy s2=>W (ql x) s2 λxs s3=>W (ql y) s3 λys s4=>P (.fix (List.zipWith (λp q=>.tup [p,q]) xs ys),(List.zipWith (λ(p q:D)=>D.tup [p,q]) xs ys).length) s4):W (gO aq aj F (.zip a b) J) s P:=
 W.bd (h.imp λx s1 h=>W.bd (h.imp λy s2 h=>W.bd (h.imp λxs s3 h=>W.bd (h.imp λys s4 h=>W.ret h))))
theorem W.ju{xs:List D}{P:List D->S->Prop}(h:P xs s):W (ql (.d (.tup xs))) s P:=W.ret h
theorem W.sU{xs:List D}{P:List D->S->Prop}(h:P xs s):W (ql (.d (.fl xs))) s P:=W.ret h
theorem Kak{P:Bool->S->Prop}(h:P true s):W (m_ aq aj F .no J) s P:=W.ret h
theorem Kal{a:E}{P:Bool->S->Prop}(h:W (ev aq aj F a J) s λx s1=>W (Mi.bool x) s1 P):W (m_ aq aj F (.yes a) J) s P:=W.bd h
theorem Kas(g:D->D)(hc:c.length<=sizeLine)
  (hw:W (gO aq true F it J) s λcn s1=>cn=(.fix c,c.length)/\s1=s)
  (hb:∀x∈c,yE (fP tg x (blk many fr J)) λJ'=>W (ev aq true F elt J') s λy s2=>s2=s/\y=.d (g x))
  (h:W (newL fz (c.map g)) s P):W (ev aq true F (.comp fz elt tg it fr many .no) J) s P:=by
 refine Kar (c:=c) (λx=>some (g x)) hc hw (λx hx=>?_) ?_
 ·obtain⟨J',e,h1⟩:=hb x hx;refine⟨J',e,W.ret ⟨rfl,?_⟩⟩;rw[if_pos rfl];exact h1.imp λy s2 ⟨a,b⟩=>⟨a,_,b,rfl⟩
 ·rw[show c.filterMap (λx=>some (g x))=c.map g by rw[<-List.filterMap_eq_map];rfl];exact h
theorem wC{α:Type}{f:α->D}{l:List α}{fz:Bool}{elt:E}{tg:List Nat}{it:Wk}{fr:List Nat}{many:Nat}{cond:Eo}(g:α->Option D)(hc:l.length<=sizeLine)
  (hw:W (gO aq true F it J) s λcn s1=>cn=(.fix (l.map f),(l.map f).length)/\s1=s)
  (hb:∀x∈l,yE (fP tg (f x) (blk many fr J)) λJ'=>W (m_ aq true F cond J') s λb s1=>s1=s/\(b=true->W (ev aq true F elt J') s λy s2=>s2=s/\∃d,y=.d d/\g x=some d)/\(b=false->g x=none))
  (h:W (newL fz (l.filterMap g)) s P):W (ev aq true F (.comp fz elt tg it fr many cond) J) s P:=by
 change W (_root_.ite (true=true) _ _) s P
 rw[if_pos rfl];refine W.bd (hw.imp λcn s1=>?_);rintro⟨rfl,rfl⟩;refine W.bd ?_;refine W.walk (c:=l.map f) (λi acc s'=>s'=s1/\acc=(l.take i).filterMap g) ⟨rfl,rfl⟩ (λi x acc s' e hI=>?_) (λacc s' hI=>?_)
 ·obtain⟨rfl,rfl⟩:=hI;rw[jN] at e;cases el:l[i]? with
  |none=>rw[el] at e;cases e
  |some y=>
   rw[el] at e;cases e;have hi:i<l.length:=(f9.mp el).1;have ht:l.take (i+1)=l.take i++[y]:=by rw[List.take_succ,el];rfl
   have hl:((l.take i).filterMap g).length<sizeLine:=Ej (Pg _ _) (by rw[Ar];lia);obtain⟨J',e1,h1⟩:=hb y (gU el);refine W.bd (W.opt e1 ?_);refine W.bd (W.qt (h1.imp λb s2=>?_));rintro⟨rfl,h2,h3⟩;rw[ht,Pu];cases b
   ·rw[if_neg (by decide)];refine W.ret ⟨rfl,?_⟩;simp[h3 rfl]
   ·rw[if_pos rfl];refine W.bd (W.qt ((h2 rfl).imp λy s3=>?_));rintro⟨rfl,d,rfl,eg⟩;refine W.bd (W.dat ?_);rw[if_pos hl];refine W.ret ⟨rfl,?_⟩;simp[eg]
 ·obtain⟨rfl,rfl⟩:=hI;rw[eY,En];exact h
theorem W.push{o a:E}(h:W (ev aq aj F o J) s λx s1=>W (Mi.dD x) s1 λ_ s2=>W (ev aq aj F a J) s2 λy s3=>W (Mi.dat y) s3 λd s4=>W (Mi.dD x) s4 λnx s5=>nx.2.length<sizeLine/\P (.d .non) (s5.set nx.1 (.lst (nx.2++[d])))):W (ev aq aj F (.push o a) J) s P:=by
 refine W.bd (h.imp λx s1 h=>W.bd (h.imp λ_ s2 h=>W.bd (h.imp λy s3 h=>W.bd (h.imp λd s4 h=>W.bd (h.imp λnx s5 h=>?_)))));rw[if_pos h.1];exact W.bd (Ui (W.ret h.2))
end
theorem zeC{s:S}{o:SO}:(s++[o])[s.length]?=some o:=by simp
theorem Y{P R:Prop}(k:R)(h:Bx R->P:=by
 intro k
 repeat (first|with_reducible first
   |refine Ka8 (by with_unfolding_all rfl) ?_|refine Ka9 (by with_unfolding_all rfl) ?_|refine Ka7 (by with_unfolding_all rfl) ?_|refine W.pv (by with_unfolding_all rfl) ?_|refine KaY (by with_unfolding_all rfl) ?_|refine KaX (by with_unfolding_all rfl) ?_|refine KaW (by with_unfolding_all rfl) ?_
   |refine WS.cons ?_|refine WS.nil ?_|refine Kbl ?_|refine Kbj ?_|refine Kbk ?_|refine Kbd ?_|refine Kbf ?_|refine Kbc ?_|refine Kbi ?_|refine Kbh ?_|refine Kbe ?_|refine Kba ?_|refine Kbb ?_|refine Kbg ?_|refine WS.Ae ?_|refine WS.Uk ?_|refine WS.Uj (by with_unfolding_all rfl) ?_|refine WS.Gh (by with_unfolding_all rfl) ?_|refine yE.mk (by with_unfolding_all rfl) ?_
   |refine Kai ?_|refine Kaj ?_|refine W.eC ?_|refine W.eV (by with_unfolding_all rfl) ?_|refine KaF ?_|refine Kax ?_|refine KaH ?_|refine KaC ?_|refine KaD ?_|refine Kaw ?_|refine KaE ?_|refine KaB ?_|refine W.qe ?_|refine W.xW ?_|refine W.push ?_|refine KaG ?_|refine Kaz ?_|refine KaQ ?_|refine KaR ?_|refine KaM ?_|refine KaL ?_|refine KaN ?_|refine KaK ?_|refine Kak ?_|refine Kal ?_|refine W.Ae ?_|refine W.Uk ?_|refine W.Uj (by with_unfolding_all rfl) ?_|refine W.Gh (by with_unfolding_all rfl) ?_
   |refine Ka1 ?_|refine Ka2 ?_|refine KaZ ?_|refine Ka0 (by with_unfolding_all rfl) ?_|refine Ka0 zeC ?_|refine Kau ?_|refine Kav ?_|refine W.dat ?_|refine W.bool ?_|refine W.int ?_|refine W.dD (by with_unfolding_all rfl) ?_|refine W.dD zeC ?_|refine Ui ?_|refine Ka4 ?_|refine KaI ?_|refine W.ju ?_|refine W.sU ?_|refine Ka3 ?_|refine KaP ?_|refine KaO ?_
   |refine mO (by first|(with_unfolding_all rfl)|exact znB (by first|(left;constructor<;>lia)|(right;constructor<;>lia))|exact znk (by lia)|exact zlt (by lia)|exact zht (by lia)|exact znO (by decide)) ?_|refine Uh (by with_unfolding_all rfl) ?_
   |refine W.ret ?_|refine W.bd ?_
   | (dsimp only))
 all_goals exact k.o):P:=h ⟨k⟩
def lx(p q:Int×Int):Prop:=p.1<q.1\/p.1=q.1/\p.2<q.2
noncomputable def aK(n:Int)(ps:List (Int×Int)):D:=.tup [.int n,.tup (ps.map lC)]
structure Web(n:Int)(ps:List (Int×Int)):Prop where
 h1:1<=n
 h8:n<=8
 tie:∀p∈ps,0<=p.1/\p.1<p.2/\p.2<n
 inc:ps.Pairwise lx
 len:(ps.length:Int)<=7*n
theorem zjQ(h:∀x∈xs,x=.bl true):eG xs=some (List.replicate xs.length true):=by
 induction xs with
 |nil=>rfl
 |cons x r ih=>
  rw[h x (by simp)];show Option.map _ (eG r)=_;rw[ih λy hy=>h y (by simp[hy])];rfl
theorem zik(h:∀x∈xs,x=.bl true):prim .all [.fl xs]=some (.dat (.bl true)):=by
 show Option.map _ (eG xs)=_;rw[zjQ h];simp
theorem zmW(h:lx p q):ltI [p.1,p.2] [q.1,q.2]=true:=by
 simp only[ltI];rcases h with h|⟨h,h2⟩
 ·rw[if_neg (by lia)];simp[h]
 ·rw[if_pos h,if_neg (by lia)];simp[h2]
theorem Uq(xs:List D):cut xs (some 1) none=xs.drop 1:=by
 unfold cut;rw[HT.uD];rw[show (some 1:Option Int)=some ((1:Nat):Int) from rfl,HT.xK];cases xs with
 |nil=>rfl
 |cons x r=>simp
theorem zic:∀{ps:List (Int×Int)},ps.Pairwise lx->∀x∈List.zipWith (λ(p q:D)=>D.tup [p,q]) (ps.map lC) ((ps.map lC).drop 1),∃p q,x=.tup [lC p,lC q]/\lx p q
 |[],_,x,hx=>by simp at hx
 |[p],_,x,hx=>by simp at hx
 |p::q::r,h,x,hx=>by
  rw[show (List.map lC (p::q::r)).drop 1=List.map lC (q::r) from rfl] at hx;have e:List.zipWith (λ(p q:D)=>D.tup [p,q]) (List.map lC (p::q::r)) (List.map lC (q::r))=.tup [lC p,lC q]::List.zipWith (λ(p q:D)=>D.tup [p,q]) (List.map lC (q::r)) (List.map lC r):=rfl;rw[e,iY] at hx;rcases hx with rfl|hx
  ·exact⟨p,q,rfl,(GF.mp h).1 q (by simp)⟩
  ·exact zic (ps:=q::r) (GF.mp h).2 x hx
theorem zf4:∀(xs:List D) (j i:Nat),(enumFrom j xs)[i]?=xs[i]?.map λx=>.tup [.int ((j+i:Nat):Int),x]
 |[],j,i=>by simp[enumFrom]
 |x::r,j,0=>by simp[enumFrom]
 |x::r,j,i+1=>by
  simp only[enumFrom,Am,zf4 r (j+1) i];rw[show j+1+i=j+(i+1) by lia]
theorem zea:∀(xs:List D) (j:Nat),(enumFrom j xs).length=xs.length
 |[],j=>rfl
 |x::r,j=>by simp[enumFrom,zea r (j+1)]
theorem zky{p:Int×Int}:¬lx p p:=by rintro(h|⟨_,h⟩)<;>lia
theorem zgX{ps:List (Int×Int)}(h:ps.Pairwise lx):ps.Nodup:=h.imp λ{p q} h e=>by subst e;exact zky h
theorem zf9(h:zM xs=some ys):prim .sorted [.fl xs]=some (.nw ys):=by
 show Option.map Rz.nw (zM xs)=_;rw[h];rfl
theorem zhG{es:List Int}(nO:es.length<64)(h:es.Pairwise (·<·)):zM (es.map D.int)=some (es.map D.int):=by
 refine zhH ?_ (by rw[eY];exact nO) λk hk=>?_
 ·rw[LC]
  left
  rw[List.all_map,iu];intro x _;rfl
 ·rw[eY] at hk;unfold zL;rw[jN,jN,eU hk,eU (show k<es.length by lia)];have:=List.pairwise_iff_getElem.mp h k (k+1) (by lia) hk (by lia);simp only[Option.map_some]
  congr 1
  apply tM
  lia
noncomputable def endOf(i:Int)(p:Int×Int):Option Int:=if p.1=i then some p.2 else if p.2=i then some p.1 else none
noncomputable def bT(i:Int)(ps:List (Int×Int)):List Int:=ps.filterMap (endOf i)
theorem zeX(h:Web n ps)(i:Int):(bT i ps).Pairwise (·<·):=by
 have ht:=h.tie;have hi:=h.inc;clear h;unfold bT
 induction ps with
 |nil=>simp
 |cons p r ih=>
  obtain⟨hp,hr⟩:=GF.mp hi;have ih:=ih (λq hq=>ht q (by simp[hq])) hr;rw[Ed]
  split
  ·exact ih
  ·rename_i b eb;refine GF.mpr ⟨λc hc=>?_,ih⟩;obtain⟨q,hq,eq⟩:=GC.mp hc;have l:=hp q hq;have tp:=ht p (by simp);have tq:=ht q (by simp[hq]);unfold endOf at eb eq;unfold lx at l;split at eb
   ·cases eb;split at eq
    ·cases eq;lia
    ·split at eq
     ·cases eq;lia
     ·cases eq
   ·split at eb
    ·cases eb;split at eq
     ·cases eq;lia
     ·split at eq
      ·cases eq;lia
      ·cases eq
    ·cases eb
theorem zes(h:Web n ps)(he:e∈bT i ps):0<=e/\e<n:=by
 obtain⟨q,hq,eq⟩:=GC.mp he;have tq:=h.tie q hq;unfold endOf at eq;split at eq
 ·cases eq;lia
 ·split at eq
  ·cases eq;lia
  ·cases eq
theorem tY(h1 : -1000<=a)(h2:a<=1000):gF a=true:=by
 unfold gF;rw[mR (by lia),mR (by lia)];rfl
theorem tZ(hl:locs xs=[s.length])(h:W (F (dG 0 xs)) [o] λv s1=>∃d o',v=.d d/\s1=[o']/\P (.d d) (s++[o'])):W (b_ F xs) (s++[o]) P:=by
 refine Kao (n:=s.length) (o:=o) hl (by simp) (h.imp λv s1=>?_);rintro⟨d,o',rfl,rfl,hp⟩;exact⟨d,o',rfl,rfl,by rw[show (s++[o]).set s.length o'=s++[o'] by simp];exact hp⟩
theorem zj9{ns:List Int}{lo hi:Option Int}{x:D}(h:x∈cut (ns.map D.int) lo hi):∃n,x=.int n:=by
 have:=List.mem_of_mem_drop (List.mem_of_mem_take h);obtain⟨n,_,rfl⟩:=qH.mp this;exact⟨n,rfl⟩
theorem ziU{ns:List Int}{lo hi:Option Int}:(cut (ns.map D.int) lo hi).length<=ns.length:=by
 unfold cut;rw[Ar,List.length_drop,eY]
 lia
theorem zdg{α:Type}[DecidableEq α]:∀{l m:List α},l.Nodup->(∀x∈l,x∈m)->l.length<=m.length
 |[],m,_,_=>rP _
 |x::r,m,h,hm=>by
  obtain⟨h1,h2⟩:=wN.mp h;have hx:x∈m:=hm x (by simp);have:=zdg (l:=r) (m:=m.erase x) h2 λy hy=>(List.mem_erase_of_ne (λe=>by subst e;exact h1 hy)).mpr (hm y (by simp[hy]));rw[List.length_erase_of_mem hx] at this;have:=Pq hx;rw[h_]
  lia
section
variable {aq:Nat->Nat->Bool}{F:Fn}{J:Vs}{s:S}{P:Xv->S->Prop}
end
noncomputable def at'(fs:List Int)(j:Int):Int:=fs.getD j.toNat 0
theorem Ur{fs:List Int}{j:Int}(h0:0<=j)(h:j<fs.length):∃(i:Nat) (hi:i<fs.length),j=i/\at' fs j=fs[i]:=by
 obtain⟨i,rfl⟩:=Lf h0;have hi:i<fs.length:=by lia
 refine⟨i,hi,rfl,?_⟩;unfold at';rw[rK,lE,eU hi];rfl
theorem Kl{fs:List Int}{j:Int}(h0:0<=j)(h:j<fs.length):at' fs j∈fs:=by
 obtain⟨i,hi,_,e⟩:=Ur h0 h;rw[e];exact List.getElem_mem _
theorem Ag{fs gs:List Int}{j:Int}(h0:0<=j)(h:j<fs.length):at' (fs++gs) j=at' fs j:=by
 obtain⟨i,hi,rfl,e⟩:=Ur h0 h;unfold at';rw[rK,lE,lE,pB hi]
theorem Us:at' (fs++[x]) fs.length=x:=by
 unfold at';rw[rK,lE,pJ (cD _)];simp
theorem yF(h0:0<=j)(h:xs[j.toNat]?=some x):prim .ix [.fl xs,.int j]=some (.dat x):=by
 obtain⟨k,rfl⟩:=Lf h0;exact znR h
theorem zmj(h0:0<=j)(h:xs[j.toNat]?=some x):prim .ix [.tup xs,.int j]=some (.dat x):=yF h0 h
noncomputable def kJ(k a b:Int):Int:=if k-(if a-b<0 then -(a-b) else a-b)<(if a-b<0 then -(a-b) else a-b) then k-(if a-b<0 then -(a-b) else a-b) else (if a-b<0 then -(a-b) else a-b)
theorem Gi(hd:1<=d):d<=kJ k a b↔(d<=a-b/\a-b<=k-d)\/(d<=b-a/\b-a<=k-d):=by
 unfold kJ
 split<;>split<;>lia
structure jL(n k d:Int)(ps:List (Int×Int))(hs:List Int):Prop where
 len:(hs.length:Int)=n
 lo:∀x∈hs,0<=x/\x<k
 fit:∀p∈ps,d<=kJ k (at' hs p.1) (at' hs p.2)
section
variable {aq:Nat->Nat->Bool}{aj:Bool}{F:Bool->Fn}{J:Vs}{s:S}{Q:Out->S->Prop}
end
section
variable {aq:Nat->Nat->Bool}{aj:Bool}{F:Fn}{J:Vs}{s:S}{P:Xv->S->Prop}
end
def Ge(h r:List Int):Prop:=∀j:Nat,j<r.length->(∀i:Nat,i<j->at' h i=at' r i)->at' r j<=at' h j
noncomputable def bJ(k d:Int):D:=.tup [.int k,.int d]
section
variable {n k d:Int}{ps:List (Int×Int)}{ls:List Int}
end
section
variable {aq:Nat->Nat->Bool}{F:Fn}{J:Vs}{s:S}{P:Xv->S->Prop}
end
theorem Dw{α:Type}{l:List α}{f:α->D}:l.filterMap (λx=>some (f x))=l.map f:=by
 rw[<-List.filterMap_eq_map];rfl
theorem Ka6(I:Nat->Vs->S->Prop)(h0:I 0 J s)(hb:∀i x J s,c[i]?=some x->I i J s->WS (b x J) s λo s'=>(∃J',o=.nx J'/\I (i+1) J' s')\/(∃x,o=.rt x/\Q (.rt x) s'))
  (he:∀J s,I c.length J s->Q (.nx J) s):WS (cQ (.fix c) b (c.length+1) 0 J) s Q:=by
 have key:∀n i J s,i+n=c.length->I i J s->WS (cQ (.fix c) b (n+1) i J) s Q:=by
  intro n
  induction n with
  |zero=>
   intro i J s hi hI;have e:c[i]?=none:=by rw[qD];lia
   have:i=c.length:=by lia
   subst this;refine⟨_,s,?_,he J s hI⟩;unfold cQ;simp only[Src.at,e]
  |succ n ih=>
   intro i J s hi hI;have cF:i<c.length:=by lia
   have e:c[i]?=some c[i]:=eU cF;obtain⟨o,s',eb,hr⟩:=hb i c[i] J s e hI;rcases hr with ⟨J',rfl,Ke⟩|⟨x,rfl,hq⟩
   ·obtain⟨o2,s2,e2,q⟩:=ih (i+1) J' s' (by lia) Ke;refine⟨o2,s2,?_,q⟩;unfold cQ;simp only[Src.at,e,eb];exact e2
   ·refine⟨_,s',?_,hq⟩;unfold cQ;simp only[Src.at,e,eb]
 exact key c.length 0 J s (by lia) h0
theorem Km{hs:List Int}{f:Int->Int}{j:Int}(h0:0<=j)(h:j<hs.length):at' (hs.map f) j=f (at' hs j):=by
 obtain⟨i,hi,rfl,e⟩:=Ur h0 h;rw[e];unfold at';rw[rK,lE,jN,eU hi];rfl
theorem zft{α:Type}(l:List α)(f:α->Bool):eG (l.map λx=>D.bl (f x))=some (l.map f):=by
 induction l with
 |nil=>rfl
 |cons x r ih=>
  show Option.map _ (eG (r.map λx=>D.bl (f x)))=_;rw[ih];rfl
theorem zmh{α:Type}{l:List α}{f:α->Bool}:prim .all [.fl (l.map λx=>D.bl (f x))]=some (.dat (.bl (l.all f))):=by
 show Option.map _ (eG (l.map λx=>D.bl (f x)))=_;rw[zft];show some (Rz.dat (.bl ((l.map f).all id)))=_;rw[List.all_map];rfl
section
variable {n m:Int}{ps:List (Int×Int)}
end
end Mi
namespace Mi
open PySem PySem.W PyProof.Rows L2
structure Ord(n:Nat)(lt:Nat->Nat->Option Bool)(le:Nat->Nat->Prop):Prop where
 ans:∀i j,i<n->j<n->(lt i j=some true/\le i j)\/(lt i j=some false/\le j i)
 tr:∀i j k,i<n->j<n->k<n->le i j->le j k->le i k
section
variable {lt:Nat->Nat->Option Bool}{le:Nat->Nat->Prop}{n:Nat}
variable (o:Ord n lt le)(hn:0<n)
include o hn
end
end Mi
namespace Ts
open PySem PySem.SetTable
end Ts
namespace Ts
open Mi PySem PySem.SetTable
end Ts
namespace Ts
open PySem PySem.SetTable
section
variable {prog:Program}{w:World}{A:Around}{E:Value->Shared->Prop}{s:Shared}{S:Addr}{items:List Value}{ts:List (Int×Int)}{L:Ent}{led:Bool}
end
end Ts
namespace Ts
open Mi (zO)
open PySem PySem.SetTable
section
variable {prog:Program}{w:World}{A:Around}{E:Value->Shared->Prop}{s:Shared}{S:Addr}{items:List Value}{ts:List (Int×Int)}{L:Ent}{led:Bool}
end
end Ts
namespace Ts
open PySem PySem.SetTable
section
variable {prog:Program}{w:World}{A:Around}{R:Result->Shared->Prop}{I:Addr}{fp wr:List Addr}{G:Array GenState->Array GenState->Prop}{n:Nat}{P:Nat->Value->Prop}{St:Nat->Shared->Prop}{S:Addr}{items:List Value}{ts:List (Int×Int)}{led:Bool}
end
section
variable {prog:Program}{w:World}{A:Around}{E:Value->Shared->Prop}{s:Shared}
end
section
variable {prog:Program}{w:World}{A:Around}{E:Value->Shared->Prop}{s:Shared}{S:Addr}{items:List Value}{ts:List (Int×Int)}{L:Ent}
end
end Ts
namespace Ts
open PySem PySem.SetTable PySem.Spec PyProof.Rows PySem.W L2
section
variable {prog:Program}{w:World}{A:Around}{E:Value->Shared->Prop}{s:Shared}{S:Addr}{items:List Value}{ts:List (Int×Int)}{L:Ent}
end
end Ts
namespace Mi
open PySem PySem.Spec PyProof.Rows L2 PySem.W Ts
section
variable {prog:Program}{w:World}{A:Around}{E:Value->Shared->Prop}{s:Shared}{S:Addr}{items:List Value}{ts:List (Int×Int)}{L:Ent}
end
section
variable {X:Cx}
end
section
variable {K:W.Frag}{cA:Cl}{U:Ph}{H:Hp}
end
section
variable {X:Cx}{cA:Cl}{aq:Nat->Nat->Bool}{aj:Bool}{F:Fn}{EX:XS}{e:Expr}{pos pos' p p':Pos}{Xs:Es}{fz:Bool}
end
end Mi
namespace Mi
open PySem PySem.Spec PyProof.Rows L2 PySem.W
section
variable {X:Cx}{a b:Expr}{rest:List Expr}{pos:Pos}{ta tb:TE}
end
section
variable {K:W.Frag}{cA:Cl}{U:Ph}{H:Hp}
theorem zlI{d:D}{v:V}{k:Bool}(r:Rv K cA U H d v)(e:xX d=some k):Bv K v H k:=by
 cases d with
 |non=>
  cases (show Rep K cA U H .non v from r);cases e;rfl
 |bl c=>
  cases (show Rep K cA U H (.bl c) v from r);cases e;rfl
 |int i=>
  cases (show Rep K cA U H (.int i) v from r);cases e;rfl
 |tup xs=>
  cases (show Rep K cA U H (.tup xs) v from r) with
  |tup t q=>
   cases e;refine .inr (.inl ⟨_,t.ju,?_⟩);cases q<;>rfl
 |fl xs=>
  obtain⟨a,us,rfl,sq,q⟩ : ∃a us,v=.ref a/\dj K H a us/\aC K cA U H xs us:=r;cases e;refine .inl ⟨_,sq,?_⟩;cases q<;>rfl
 |_=>cases e
end
section
variable {X:Cx}{cA:Cl}{aq:Nat->Nat->Bool}{aj:Bool}{F:Fn}{EX:XS}{a b:Expr}{A B:E}{pos p:Pos}{x:Str}{e:Expr}{es:List Expr}{Xs:Es}
noncomputable def vH(sc:Scope)(x:Str):Bool:=match sc.names.lookup x with
 |some k=>Dj k
 |none=>false
noncomputable def N5(sc:Scope)(x:Str):Bool:=match sc.names.lookup x with
 |some .globalImplicit=>true
 |_=>false
theorem Ut{sc:Scope}{x:Str}(h:vH sc x=true):∃k,sc.names.lookup x=some k/\Dj k=true:=by
 unfold vH at h;split at h
 ·rename_i k e;exact⟨k,e,h⟩
 ·cases h
theorem zib{sc:Scope}{x:Str}(h:N5 sc x=true):sc.names.lookup x=some .globalImplicit:=by
 unfold N5 at h;split at h
 ·assumption
 ·cases h
theorem gk(h:N5 X.env.scope x=true:=by kernel_rfl):JK X x .globalImplicit:=⟨zib h⟩
theorem jl(h:(match X.env.scope.names.lookup x with|some .local=>true|_=>false)=true:=by kernel_rfl):JK X x .local:=by
 split at h
 ·exact⟨by assumption⟩
 ·cases h
theorem jc(h:(match X.env.scope.names.lookup x with|some .cell=>true|_=>false)=true:=by kernel_rfl):JK X x .cell:=by
 split at h
 ·exact⟨by assumption⟩
 ·cases h
theorem Ah{scope:Scope}{cl:List (Str×Addr)}{N:List Str}{Cc:Addr}{s3:Shared}{H3:Hp}{fp:List Addr}{ao:List (Addr×Obj)}(h:N5 scope x=true:=by kernel_rfl):JK (X.blk scope cl N Cc s3 H3 fp ao) x .globalImplicit:=Z_ (zib h) rfl
theorem gv(i:Nat)(h:(decide (X.N[i]?=some x)&&vH X.env.scope x&&okN x)=true:=by kernel_rfl):JE X cA aq aj F EX (.Name x pos) (.v i):=by
 rw[fu,fu] at h;obtain⟨k,e,hv⟩:=Ut h.1.2;exact g_v i (jU h.1.1) ⟨e⟩ hv h.2
theorem cB(i:Nat){scope:Scope}{cl:List (Str×Addr)}{N:List Str}{Cc:Addr}{s3:Shared}{H3:Hp}{fp:List Addr}{ao:List (Addr×Obj)}(h:(decide (N[i]?=some x)&&vH scope x&&okN x)=true:=by kernel_rfl):JE (X.blk scope cl N Cc s3 H3 fp ao) cA aq aj F EX (.Name x pos) (.v i):=by
 rw[fu,fu] at h;obtain⟨k,e,hv⟩:=Ut h.1.2;by_cases hk:k=.free
 ·subst hk;exact zoA i (jU h.1.1) e h.2
 ·exact g_v i (jU h.1.1) (Z_ e (by cases k<;>first|rfl|exact absurd rfl hk)) hv h.2
theorem gc{f k:Nat}{cm:Bool}{st:Stmt}{ps:List Str}(Fo:cJ X.prog X.w X.K X.mg X.base (fL X.prog X.w) cm k (fZ X.K x) (fdOf X.K x st) ps (lM X.K cA (F f)))(D:D3 X.K X.mg x st ps)(hr:bC k X.A)(R:JR X EX)(g:JK X x .globalImplicit)(ha:JA X cA aq aj F EX (e::es) Xs)(h:okN x=true:=by kernel_rfl)
  (jg:cm=true->X.aj=true:=by first|exact λ_=>rfl|exact λz=>nomatch z) (he:aF e=true:=by rfl) (cO:es.all aF=true:=by rfl):JE X cA aq aj F EX (.Call (.Name x p) (e::es) [] pos) (.call f Xs):=
 zma f Fo jg hr D.m D.f.kp D.b R g ha h he cO
theorem nd(h:decide X.N.Nodup=true:=by kernel_rfl):X.N.Nodup:=jU h
end
theorem fJ{P:Program}{w:World}{K:W.Frag}{mg:Str->Option Value}{base:Heap}{cA:Cl}{aq:Nat->Nat->Bool}{T:Nat->Option Df}{x:Str}{st:Stmt}{ps:List Str}{k n:Nat}{cm:Bool}{df:Df}(D:D3 K mg x st ps)(N:List Str)(hT:T n=some df)
  (hb:∀(cdv:Value) (A:Around) (outer:List Env) (s:Shared) (H:Hp) (E:XK),bC k (A.deeper (envOfC x (au st) s.heap.objs.size (fZ K x) cdv))->
   JB (dN (fL P w) P w K mg base N x (au st) (fZ K x) cdv A outer s H E cm) cA aq cm (λc=>call aq T k c) (λ_ C dx H'=>E C dx H') (aL st) df.body) (S:cj N ps (au st):=by exact⟨rfl,rfl,rfl,dk,rfl,dk,dk⟩) (hp:df.fC=ps.length:=by rfl) (hm:df.many=N.length:=by rfl) :
  cJ P w K mg base (fL P w) cm (k+1) (fZ K x) (fdOf K x st) ps (lM K cA (call aq T (k+1) cm n)):=zim D.f S hT hp hm hb
end Mi
namespace L2
open PySem PySem.Spec PySem.Calls PyProof.Rows PySem.W
theorem fU.tri{H:Hp}{l:List Value}(x:fU H l):TriplesOk l:=by
 induction x with
 |nil=>trivial
 |cons l m c r _ _ ih=>exact ih
theorem fU.found{H:Hp}{pos:Pos}{cv:Value}{l:List Value}(x:fU H l)(h:codeAmong pos l=some cv):∃c,cv=.ref c/\GoodC H c:=by
 induction x with
 |nil=>cases h
 |cons a b c r g _ ih=>
  unfold rawInt codeAmong at h;split at h
  ·cases h;exact⟨c,rfl,g⟩
  ·exact ih h
structure vI(H H':Hp):Prop where
 kp:∀b o,H b=some o->(∀ps,o≠.lV ps)->H' b=some o
 st:∀b o,H b=some o->∃o',H' b=some o'
theorem vI.refl{H:Hp}:vI H H:=⟨λ_ _ e _=>e,λ_ o e=>⟨o,e⟩⟩
def Ko(K:Frag)(mg:Str->Option Value):Prop:=∃bm ob,mg "__builtins__"=some (.ref bm)/\bm≠builtinsNs/\bm≠mainGlobals/\K.lookup bm=some ob/\ob.cls=.type "module"/\ob.dict=some builtinsNs/\ob.data=.plain
noncomputable abbrev lamO(params:Arguments)(body:Expr)(scope:Scope)(pm:Value)(c':Addr)(ctv:Value):Obj:=kla_obj "<lambda>" i_ params body scope [] pm c' ctv
section
variable {X:Cx}{ao:List (Addr×Obj)}{Z:St}{H:Hp}{s:Shared}{c P:Addr}{params:Arguments}{body:Expr}{scope:Scope}{pos:Pos}{E:Value->Shared->Prop}{Q:Value->Shared->Prop}
theorem Inv.Dy{H1:Hp}{s1:Shared}{fa:Addr}{o:Obj}(I:Inv X ao Z H1 s1)(h1:s1.heap.get? fa=some o)(h2:H1 fa=none)(h3:fa≠X.env.locals)(h4:fa∉X.fs)(h5:∀v,o.data≠.cell v):Inv X (ao++[(fa,o)]) Z H1 s1:=
 I.jP λp hp=>by
  rcases nJ.mp hp with hp|hp
  ·exact I.pin p (k_ _ hp)
  ·rw[rJ.mp hp];exact⟨h1,h2,h3,h4,h5⟩
theorem zg6(I:Inv X ao Z H s)(on:qL=true)(iI:X.env.code=.ref c)(hC:codeHdIn X.K c P=true)(hl:jW X.K c P=true)(Uu:Ko X.K X.mg)(qb:closureFor scope X.env=pure [])(hq:X.env.qual++"<lambda>"=i_)(vJ:defaultsOf params X.env=([],[]))
  (k:∀fa c' ctv pm H1 s1,Inv X (ao++[(fa,lamO params body scope pm c' ctv)]) Z H1 s1->GoodC H1 c'->vI H H1->Q (.ref fa) s1) :
  wpAny (model X.prog X.w) X.A (eval (.Lambda params body scope pos) X.env) Q E s:=by
 obtain⟨ps,hP,hT⟩:=I.Bj on c P hl;have oP:s.heap.get? P=some (tabObj ps):=I.hok P _ hP;obtain⟨bm,ob,b1,b2,b3,b4,b5,b6,b7⟩:=Uu;have kb:s.heap.get? bm=some ob:=I.lW bm ob b4;have nb:H bm=none:=(I.bs bm ob (I.mod.wQ bm ob b4)).2;have hg:=I.mod.glob.keeps I.bk;have ng:H mainGlobals=none:=by
  obtain⟨o,_,_,e,_⟩:=I.mod.glob;exact(I.bs _ _ e).2
 have hgP:mainGlobals≠P:=λz=>by rw[z,hP] at ng;cases ng
 have hB:s.heap.BuiltinsAt X.mg P:=⟨bm,ob,b1,b2,b3,(λz=>by rw[z,hP] at nb;cases nb),kb,b5,b6,b7⟩;refine kla_eval vJ ?_;rw[hq];cases hf:codeAmong pos ps.toList with
 |some cv=>
  obtain⟨c',rfl,gc⟩:=hT.found hf;refine kla_makeFunctionHit (mg:=X.mg) qb I.ok.glob hg iI (codeHd_of_K I.lW hC) oP hT.tri hf hB λctv h' tk hk hsz=>?_;have kp:∀b u,s.heap.get? b=some u->(h'.push (lamO params body scope ((X.mg "__name__").getD .none) c' ctv)).get? b=some u:=λb u e=>cG _ (hk b u e);have I1:=I.kept (t':=tk) kp;refine k _ c' ctv _ H _ (I1.Dy (eE _ rfl) (I.hok.fresh hsz) (pO (gb I.lt hsz)) (I.wZ hsz) λv z=>by cases z) gc vI.refl
 |none=>
  refine kla_makeFunction (mg:=X.mg) qb I.ok.glob hg iI (codeHd_of_K I.lW hC) oP hT.tri hf hgP hB λc' ctv h' tk hx v7 cF Dz htb=>?_;obtain⟨c2,oc,vs,t,e2,Ht,hd,hv⟩:=Dz;cases e2;have nc:H c'=none:=I.hok.fresh v7;have ncP:c'≠P:=λz=>by rw[z,hP] at nc;cases nc
  have kp:∀b u,b≠P->s.heap.get? b=some u->(h'.push (lamO params body scope ((X.mg "__name__").getD .none) c' ctv)).get? b=some u:=λb u nb e=>cG _ (hx b u nb e);have nP:∀b,H b=none->b≠P:=λb e z=>by rw[z,hP] at e;cases e
  have old:∀b u,s.heap.get? b=some u->b≠c':=λb u e=>c7 (gb (bQ e) v7);have hP1:upd (upd H P (.lV (ps++#[rawInt pos.line,rawInt pos.col,.ref c']))) c' (.n8 oc (.own 0)) P=some (.lV (ps++#[rawInt pos.line,rawInt pos.col,.ref c'])):=by rw[bZ ncP.symm,iH]
  have ot:∀b u,H b=some u->(∀ps,u≠.lV ps)->upd (upd H P (.lV (ps++#[rawInt pos.line,rawInt pos.col,.ref c']))) c' (.n8 oc (.own 0)) b=some u:=λb u e nt=>by
   rw[bZ (wW e nc),bZ λz=>by rw[z,hP] at e;cases e;exact nt _ rfl];exact e
  have gc:GoodC (upd (upd H P (.lV (ps++#[rawInt pos.line,rawInt pos.col,.ref c']))) c' (.n8 oc (.own 0))) c':=⟨oc,_,vs,t,iH,hd,hv⟩;have I1:Inv X ao Z (upd (upd H P (.lV (ps++#[rawInt pos.line,rawInt pos.col,.ref c']))) c' (.n8 oc (.own 0))) {s with heap:=h'.push (lamO params body scope ((X.mg "__name__").getD .none) c' ctv),toks:=tk}:=by
   refine I.step (g':=s.gens) (d':=s.drawn) (ch:=[]) (λ_ z=>nomatch z) (λb o _ _ _ e n=>kp b o (nP b n) e) (λb o _ _ _ e n=>⟨o.slots,kp b o (nP b n) e⟩) (λb o _ e n=>by rw[bZ (old b o e),bZ (nP b n)];exact n) (λb o _ e=>?_) (λb xs e=>ot b _ e λ_ z=>by cases z) (λb o u e=>ot b _ e λ_ z=>by cases z) (λb qs e=>?_) (λm hm=>?_) (λb u e=>?_) I.bare
   ·by_cases z:b=P
    ·exact⟨_,by rw[z];exact cG _ htb⟩
    ·exact⟨o,kp b o z e⟩
   ·by_cases z:b=P
    ·subst z;rw[hP] at e;cases e;exact⟨_,hP1,fU.cons _ _ c' _ gc .nil⟩
    ·exact⟨#[],by rw[bZ (wW e nc),bZ z,e];simp,.nil⟩
   ·obtain⟨o,es,ep,ho,r⟩:=hm;exact⟨o,es,ep,kp _ o (nP _ I.free) ho,r⟩
   ·by_cases z:b=c'
    ·subst z;rw[iH] at e;cases e;exact⟨cG _ Ht,⟨oc,cG _ Ht⟩⟩
    ·rw[bZ z] at e;by_cases y:b=P
     ·subst y;rw[iH] at e;cases e;show (h'.push _).get? b=some _;exact cG _ htb
     ·rw[bZ y] at e;refine(I.hok b u e).stay (λa v ha q=>kp a v ?_ q) (λa q=>ot a _ q λ_ z=>by cases z) λa xs q=>ot a _ q λ_ z=>by cases z
      rcases ha with rfl|ha
      ·exact y
      ·intro z;rw[z,hP] at ha;cases ha
  refine k _ c' ctv _ _ _ (I1.Dy (eE _ rfl) ?_ (pO (gb I.lt (rO (Ej v7 cF)))) (I.wZ (rO (Ej v7 cF))) λv z=>by cases z) gc ⟨ot,λb o e=>?_⟩
  ·rw[bZ (pO cF),bZ (pO (gb (bQ oP) (rO (Ej v7 cF))))];exact I.hok.fresh (rO (Ej v7 cF))
  ·by_cases z:b=P
   ·rw[z];exact⟨_,hP1⟩
   ·exact⟨o,by rw[bZ (wW e nc),bZ z];exact e⟩
end
section
variable {X:Cx}{ao:List (Addr×Obj)}{Z:St}{H:Hp}{s:Shared}{CX:rY}{cm:Bool}{k:Nat}{fa c':Addr}{params:Arguments}{body:Expr}{scope:Scope}{pm ctv:Value}{N:List Str}{x:Str}{u:Value}{v:V}{t:TE}{Q:VK}
theorem zg5(I:Inv X ao Z H s)(hfo:s.heap.get? fa=some (lamO params body scope pm c' ctv))(gc:GoodC H c')(S:cj N [x] scope)(jg:cm=true->X.A.handled=none)(hr:X.A.depth<recursionLimit)(kO:∀u,bindArgs (kla_fn "<lambda>" i_ params body scope [] pm (.ref c') ctv) ⟨[u],[]⟩=pure [(x,u)])(rv:RelV v u)
  (hb:PE (dN CX X.prog X.w X.K X.mg X.base N i_ scope fa (.ref c') X.A X.stack s H (λ_ _ _=>False) cm) body t) (hq:t (start N [v]) H Q) (pY:∀e s',CX X.stack H s (λ_ _ _=>False) e s'->X.xe e s') :
  wpAny (model X.prog X.w) X.A (call (.ref fa) [u]) (EP X ao Z Q) X.xe s:=by
 have e0:=I.env0;have lim:s.heap.NoLimit:=I.nolimit;obtain⟨oc,w,vs,tq,g1,g2,g3⟩:=gc;have Dz:s.heap.CodeRec (.ref c') i_:=⟨c',oc,vs,tq,rfl,(I.hok c' _ g1).1,g2,g3⟩;have uz:∀y∈[(x,u)],scope.names.lookup y.1=some .local\/(scope.names.lookup y.1=some .cell/\((cellsFrom (s.heap.objs.size+1) scope.names []).lookup y.1).isSome=true):=λy hy=>by
  rw[rJ.mp hy];rcases S.par x (by simp) with q|q
  ·exact .inl q
  ·exact .inr ⟨q,Lg _ _ _ (.inl q)⟩
 refine Ez (zc (R:=CR CX X.stack X.prog X.w H s Q λ_ _ _=>False) (kla_callFunE hr hfo rfl S.co S.gen rfl Dz ?_) λr s' hq=>?_)
 ·rw[kO];refine aM ?_;refine wpAny_newFunctionEnv_cells S.kind uz λenv he s1 y=>?_;subst he;refine⟨lim.keeps y.toInCall.keep,kla_codeExpr ?_⟩;have I1:Inv (dN CX X.prog X.w X.K X.mg X.base N i_ scope fa (.ref c') X.A X.stack s H (λ_ _ _=>False) cm) [] (start N [v]) H s1:=Yj S jg e0 rfl (.cons rv .nil) y;refine gj (hb [] s1 (start N [v]) H _ I1 hq) (λu' s' hs=>?_) λe s' hs=>hs;obtain⟨v',H',bf,rv',q⟩:=hs;exact⟨v',H',bf.os,bf.bare,bf.base,bf.hok,rv',q⟩
 ·cases r with
  |error e=>exact pY e s' hq
  |ok fl=>
   cases fl with
   |ret u=>exact I.after hq
   |next=>exact False.elim hq
   |brk=>exact False.elim hq
   |cont=>exact False.elim hq
end
section
variable {X:Cx}{ao:List (Addr×Obj)}{Z:St}{H:Hp}{s:Shared}{E:Value->Shared->Prop}{fa D:Addr}{fo:Obj}{ys:List V}{its:List Value}{kz:List Int}{lt:Nat->Nat->Option Bool}{p:Array Nat}
theorem Inv.apart{a:Addr}(I:Inv X ao Z H s)(h:s.heap.objs.size<=a):a≠X.env.locals/\a∉X.fs/\(a∈X.ex\/X.s₀.heap.objs.size<=a)/\(∀x c,X.env.cells.lookup x=some c->c≠a)/\∀p∈X.pn++ao,p.1≠a:=
 ⟨pO (gb I.lt h),I.wZ h,.inr (jO I.sz h),λx c e=>by
  obtain⟨v,o,ho,_⟩:=I.cell x c e;exact c7 (gb (bQ ho) h),λp hp=>c7 (gb (bQ (I.pin p hp).1) h)⟩
structure Own(X:Cx)(ao:List (Addr×Obj))(a:Addr):Prop where
 hL:a≠X.env.locals
 hf:a∉X.fs
 h1:a∈X.ex\/X.s₀.heap.objs.size<=a
 h2:∀x c,X.env.cells.lookup x=some c->c≠a
 h3:∀p∈X.pn++ao,p.1≠a
theorem Inv.own{a:Addr}(I:Inv X ao Z H s)(h:s.heap.objs.size<=a):Own X ao a:=let ⟨a1,a2,a3,a4,a5⟩:=I.apart h;⟨a1,a2,a3,a4,a5⟩
theorem Own.set{a:Addr}{h':Heap}{t':Nat}(o:Own X ao a)(hn:H a=none)(I:Inv X ao Z H s)(k:∀b o,b≠a->s.heap.get? b=some o->h'.get? b=some o):Inv X ao Z H {s with heap:=h',toks:=t'}:=I.turned k hn o.hL o.h1 o.h2 o.h3
theorem Own.pin{a:Addr}{u:Obj}(o:Own X ao a)(hn:H a=none)(I:Inv X ao Z H s)(h:s.heap.get? a=some u)(d:∀v,u.data≠.cell v):Inv X (ao++[(a,u)]) Z H s:=I.Dy h hn o.hL o.hf d
noncomputable abbrev Cx.DG(X:Cx):Cx:=X.seen X.A.in1.in1 X.aj X.pn λ_ _=>False
theorem Inv.DG(I:Inv X ao Z H s):Inv X.DG ao Z H s:=I.seen rfl (λz=>I.ok.hd z) λ_ z=>z
theorem Inv.Uv(I:Inv X.DG ao Z H s)(bf:X.aj=true->X.A.handled=none):Inv X ao Z H s:=I.BX rfl bf λ_ z=>z
def Kp(X:Cx)(Z:St)(G:Hp->Prop)(fa:Addr)(fo:Obj)(ys:List V)(kz:List Int):Prop:=
 ∀(i:Nat) (v:V) (k:Int),ys[i]?=some v->kz[i]?=some k->∀(H:Hp) (ps:List (Addr×Obj)) (s':Shared) (u:Value),G H->Inv X.DG ps Z H s'->(fa,fo)∈ps->RelV v u->
  wpAny (model X.prog X.w) X.A.in1.in1 (call (.ref fa) [u]) (EP X.DG ps Z λv' H'=>v'=.int k/\G H') (λ_ _=>False) s'
theorem zew{kS:Addr}{keys:Array Value}{e e1:Nat}{st:SortSt}{A:Around}{P:PySem.Fin->Shared->Prop}{out:Array Value}(oD:Own X ao D)(oK:Own X (ao++[(D,seqObj "list" #[] e1)]) kS)
  (I:Inv X (ao++[(D,seqObj "list" #[] e1)]++[(kS,seqObj "list" keys e)]) Z H s) (hz:keys.size<=100) (ho:out.size<=100) (hs:(arrOf st).map (·.2)=out) (hf:failedOf st=none)
  (h:∀s' c,Inv X ao Z H s'->H D=none->s'.heap.get? D=some (seqObj "list" out c)->P (.done (.ret .none)) s') :
  wpAny (model X.prog X.w) A (ksk_tail D false e1 (.ref kS) st) P E s:=by
 have hl:(100:Nat)<=sizeLine:=by decide
 obtain⟨nk,Uw,_⟩:=I.pin (kS,seqObj "list" keys e) (by simp);obtain⟨nd,Kq,_⟩:=I.pin (D,seqObj "list" #[] e1) (by simp);have nDK:D≠kS:=oK.h3 (D,seqObj "list" #[] e1) (by simp);have I1:Inv X (ao++[(D,seqObj "list" #[] e1)]) Z H {s with heap:=s.heap.update kS (Obj.mapSeq λ_=>(#[]:Array Value))}:=oK.set (t':=s.toks) Uw I.cH λb o nb q=>(yV _ _ _ _ nb).trans q;have Ux:(s.heap.update kS (Obj.mapSeq λ_=>(#[]:Array Value))).get? D=some (seqObj "list" #[] e1):=(yV _ _ _ _ nDK).trans nd;obtain⟨c2,nM⟩ : ∃c2,((s.heap.update kS (Obj.mapSeq λ_=>(#[]:Array Value))).update D (Obj.mapSeq λ_=>out)).get? D=some (seqObj "list" out c2):=⟨_,get?_update_seq Ux λ_=>out⟩;unfold ksk_tail
 try dsimp only
 refine aB (A_ nk rfl ?_ (by lia) (rP _));refine aB (zj ?_);refine aB (seqEpoch_at Ux rfl ?_);rw[hs];refine aB (A_ Ux rfl ?_ (rP _) (by simp only[rH,nY];lia));rw[hf];simp only[PL,rH,nY];refine aM (h _ c2 ?_ Kq nM);exact Own.set (s:={s with heap:=s.heap.update kS (Obj.mapSeq λ_=>(#[]:Array Value))}) (h':=(s.heap.update kS (Obj.mapSeq λ_=>(#[]:Array Value))).update D (Obj.mapSeq λ_=>out)) (t':=s.toks) oD Kq I1.cH λb o nb q=>(yV _ _ _ _ nb).trans q
theorem ziW{kS:Addr}{keys:Array Value}{e e1:Nat}{A:Around}{P:PySem.Fin->Shared->Prop}(oD:Own X ao D)(oK:Own X (ao++[(D,seqObj "list" #[] e1)]) kS)
  (I:Inv X (ao++[(D,seqObj "list" #[] e1)]++[(kS,seqObj "list" keys e)]) Z H s) (hk:IntsAre keys.toList kz) (hlen:kz.length=its.length) (nO:its.length<64)
  (cF:∀i j b,lt i j=some b->∃x y,kz[i]?=some x/\kz[j]?=some y/\b=decide (x<y)) (hr:2<=its.length->bF lt (kas_sort its.length)=some p/\p.size=its.length)
  (h:∀s' c,Inv X ao Z H s'->H D=none->s'.heap.get? D=some (seqObj "list" (dO its p) c)->P (.done (.ret .none)) s') :
  wpAny (model X.prog X.w) A (ksk_end D false its.toArray e1 (.ref kS) keys) P E s:=by
 have hkl:=hk.length;rw[nU] at hkl;have hsz:its.toArray.size=its.length:=by simp
 unfold ksk_end
 try dsimp only
 simp only[rH,nY];by_cases h2:its.toArray.size<2
 ·rw[if_pos h2,if_pos h2];refine aB (aM ?_);rw[StateT.run_pure];refine aB (aM ?_)
  try dsimp only
  refine zew (out:=dO its p) oD oK I (by lia) ?_ ?_ rfl h
  ·unfold dO;rw[if_pos (by lia)];simp;lia
  ·unfold dO;rw[if_pos (by lia)];apply Array.toList_inj.mp;show ((keys.zip its.toArray).map (·.2)).toList=_;rw[Array.toList_map,ksk_zip];have:keys.toList.length=keys.size:=nU;exact List.map_snd_zip (by lia)
 ·rw[if_neg h2,if_neg h2];have lY:2<=its.length:=by lia
  obtain⟨hr,I9⟩:=hr lY;have ek:keys=keys.toList.toArray:=by rw[Li]
  rw[ek];refine aB (YT (by rw[nU];lia) (λu hu=>?_) ?_)
  ·obtain⟨n,t,e⟩:=hk.all u hu;exact⟨n,t,e⟩
  refine aB (gj (kat_run (κ:=oneType') (ks:=keys.toList) (vs:=its) (G:=λp' s'=>p'=p/\s'=s)
   (Q:=λst' s'=>arrOf st'=p.map (kas_item (keys.toList.toArray.zip its.toArray))/\failedOf st'=none/\s'=s)
   (by rw[nU];lia) lY nO (λp' st' s' a1 a2 a3 a4=>⟨by rw[a2,a4.1],a3,a4.2⟩) (RD (λi j b C hl hC=>?_) ⟨rfl,rfl⟩ hr)) ?_ λ_ _ e=>e)
  ·obtain⟨x,y,e1,e2,rfl⟩:=cF i j b hl;obtain⟨t1,f1⟩:=hk.get i x e1;obtain⟨t2,f2⟩:=hk.get j y e2;show wpAny _ _ (keyLt' oneType' (keys.toList.getD i Value.none) (keys.toList.getD j Value.none)) C _ s;rw[Fw f1,Fw f2];exact kat_lt_int hC
  ·rintro⟨⟨⟩,st'⟩ s' ⟨Ft,hf,rfl⟩
   try dsimp only
   have hout:=kat_snds (ks:=keys.toList) (vs:=its) (by rw[nU];lia) Ft;have e:List.toArray (p.toList.map λi=>its.getD i Value.none)=dO its p:=by
    unfold dO;rw[if_neg (by lia)]
   rw[e] at hout;have YM:(dO its p).size=its.length:=by rw[<-e,fj,eY,nU,I9]
   exact zew (out:=dO its p) oD oK I (by lia) (by lia) hout hf h
theorem zh0{G:Hp->Prop}{n:Nat}{P:PySem.Fin->Shared->Prop}(I:Inv X ao Z H s)(g:G H)(oD:Own X ao D)(Kq:H D=none)(ho:s.heap.get? D=some (seqObj "list" its.toArray n))(DK:(fa,fo)∈ao)(rv:Vals ys its)(hlen:kz.length=ys.length)(nO:ys.length<64)(K:Kp X Z G fa fo ys kz)
  (cF:∀i j b,lt i j=some b->∃x y,kz[i]?=some x/\kz[j]?=some y/\b=decide (x<y)) (hr:2<=ys.length->bF lt (kas_sort ys.length)=some p/\p.size=ys.length)
  (h:∀H' s' c,G H'->Inv X ao Z H' s'->H' D=none->s'.heap.get? D=some (seqObj "list" (dO its p) c)->P (.done (.ret .none)) s') :
  wpAny (model X.prog X.w) X.A.in1.in1 (ksk_tree D (.ref fa) false) P E s:=by
 have hl:(100:Nat)<=sizeLine:=by decide
 have hil:=rv.length;have hD:D<s.heap.objs.size:=bQ ho;obtain⟨e1,Cd⟩ : ∃e1,(s.heap.update D (Obj.mapSeq λ_=>(#[]:Array Value))).get? D=some (seqObj "list" #[] e1):=⟨_,get?_update_seq ho λ_=>#[]⟩;have hkS:((s.heap.update D (Obj.mapSeq λ_=>(#[]:Array Value))).push (seqObj "tuple" its.toArray 0)).objs.size=s.heap.objs.size+1:=by rw[size_push',GK]
 have Gj:Own X ao (s.heap.objs.size+1):=I.own (uc _);have Uw:H (s.heap.objs.size+1)=none:=I.hok.fresh (uc _);have oK:Own X (ao++[(D,seqObj "list" #[] e1)]) (s.heap.objs.size+1):=⟨Gj.hL,Gj.hf,Gj.h1,Gj.h2,λq hq=>by
  rcases nJ.mp hq with hq|hq
  ·exact Gj.h3 q (Gw _ hq)
  ·rcases nJ.mp hq with hq|hq
   ·exact Gj.h3 q (k_ _ hq)
   ·rw[rJ.mp hq];exact c7 (qG hD)⟩
 have kp:∀b o,b≠D->s.heap.get? b=some o->(((s.heap.update D (Obj.mapSeq λ_=>(#[]:Array Value))).push (seqObj "tuple" its.toArray 0)).push (seqObj "list" #[] 0)).get? b=some o:=λb o nb q=>
  cG _ (cG _ ((yV _ _ _ _ nb).trans q))
 unfold ksk_tree;refine aB (listItems_at ho rfl ?_);refine aB (A_ ho rfl ?_ (by rw[fj];lia) (rP _));refine aB (seqEpoch_at Cd rfl ?_);refine aB (wpAny_newTuple ?_ (by show its.length<=_;lia));refine aB (GR ?_ (rP _));refine pF ?_;rw[hkS];have I3:Inv X (ao++[(D,seqObj "list" #[] e1)]++[(s.heap.objs.size+1,seqObj "list" #[] 0)]) Z H {s with heap:=((s.heap.update D (Obj.mapSeq λ_=>(#[]:Array Value))).push (seqObj "tuple" its.toArray 0)).push (seqObj "list" #[] 0)}:=by
  have bf:=oD.set (t':=s.toks) Kq I kp;have Uy:=oD.pin Kq bf (cG _ (cG _ Cd)) λv z=>by cases z
  exact oK.pin Uw Uy (by rw[<-hkS];exact eE _ rfl) λv z=>by cases z
 show wpAny (model X.prog X.w) X.A.in1.in1 (ksk_rest D (.ref fa) false its.toArray e1 (.ref (s.heap.objs.size+1))) P E _;unfold ksk_rest;refine aB (zm ?_)
 first
  |rw[List.forIn_toArray]
  |(rw[<-Ln];simp only[List.toList_toArray])
 refine aB (ksk_fold (λi s'=>∃(H':Hp) (kA:Array Value) (e:Nat),G H'/\Inv X (ao++[(D,seqObj "list" #[] e1)]++[(s.heap.objs.size+1,seqObj "list" kA e)]) Z H' s'/\IntsAre kA.toList (kz.take i)) its 0 _
  ⟨H,#[],0,g,I3,by simpa using IntsAre.nil⟩ ?step ?done)
 case step=>
  rintro j x s' hx ⟨H1,kA,e,g1,I',hk⟩;simp only[G3] at hk ⊢;have hj:j<its.length:=(f9.mp hx).1;obtain⟨k,hkj⟩ : ∃k,kz[j]?=some k:=⟨_,eU (by lia)⟩;obtain⟨v,hv⟩ : ∃v,ys[j]?=some v:=⟨_,eU (by lia)⟩;obtain⟨u,hu,rvu⟩:=rv.get hv;rw[hx] at hu;cases hu;have hz:kA.size<=64:=by
   have h1:=hk.length;rw[nU,Ar] at h1
   lia
  refine aB (Ew (gj (K j v k hv hkj H1 _ s' x g1 I'.DG (by simp[DK]) rvu) (λw s2 he=>?_) λ_ _ hF=>hF.elim));obtain⟨v',H2,bf,rv',rfl,g2⟩:=he;obtain⟨t2,rfl⟩:=rv';have bf:=bf.Uv I'.ok.hd
  try dsimp only
  obtain⟨nk,Kr,_⟩:=bf.pin (s.heap.objs.size+1,seqObj "list" kA e) (by simp);obtain⟨c2,nM⟩ : ∃c2,(s2.heap.update (s.heap.objs.size+1) (Obj.mapSeq (·.push (.int k t2)))).get? (s.heap.objs.size+1)=some (seqObj "list" (kA.push (.int k t2)) c2):=⟨_,get?_update_seq nk (·.push (.int k t2))⟩;have ek:kz.take (j+1)=kz.take j++[k]:=by rw[List.take_add_one,hkj];simp
  have ea:(kA.push (Value.int k t2)).toList=kA.toList++[Value.int k t2]:=by simp
  refine aB (A_ nk rfl ?_ (by lia) (jO (Nat.le_of_eq (Array.size_push ..)) (by lia)));refine aM ⟨rfl,H2,kA.push (.int k t2),c2,g2,?_,by rw[ea,ek];exact ksk_snoc hk⟩;exact oK.pin Kr (oK.set (t':=s2.toks) Kr bf.cH λb o nb q=>(yV _ _ _ _ nb).trans q) nM λv z=>by cases z
 case done=>
  rintro s' ⟨H1,kA,e,g1,I',hk⟩;have NK:IntsAre kA.toList kz:=by
   have e3:kz.take (0+its.length)=kz:=List.take_of_length_le (by lia);rw[e3] at hk;exact hk
  have nk:=(I'.pin (s.heap.objs.size+1,seqObj "list" kA e) (by simp)).1
  try dsimp only
  refine aB (listItems_at nk rfl ?_);exact ziW oD oK I' NK (by lia) (by lia) cF (by rw[<-hil];exact hr) λs' c=>h H1 s' c g1
theorem zf3{G:Hp->Prop}{l:Addr}{Q:VK}(I:Inv X (ao++[(fa,fo)]) Z H s)(g:G H)(hq:dj X.K H l ys)(hlen:kz.length=ys.length)(nO:ys.length<64)(K:Kp X Z G fa fo ys kz)
  (cF:∀i j b,lt i j=some b->∃x y,kz[i]?=some x/\kz[j]?=some y/\b=decide (x<y)) (hr:2<=ys.length->bF lt (kas_sort ys.length)=some p/\p.size=ys.length)
  (q:∀H' r,G H'->H' r=none->Q (.ref r) (upd H' r (.lst (fX ys p)))) :
  wpAny (model X.prog X.w) X.A (call (.builtin "sorted") [.ref l] [(Str.ofString "key",.ref fa)]) (EP X ao Z Q) E s:=by
 have hl:(100:Nat)<=sizeLine:=by decide
 obtain⟨its,rv,pl,hz⟩:=I.list hq;have hil:=rv.length;refine call_function_entry_kw kind_sorted plain_sorted entry_sorted (ksk_s1 _ _) ?_;unfold Builtin.«sorted»;refine aB (m:=checkCount "sorted" 1 1 _) (aM ?_);refine aB (collect_list pl.isList ?_ (by lia));refine aB (GR ?_ (by show its.length<=_;lia));have hsz:((s.heap.push (seqObj "list" #[] 0)).update s.heap.objs.size (Obj.mapSeq (·++its.toArray))).objs.size=s.heap.objs.size+1:=by
  rw[GK,size_push']
 have Bl:(((s.heap.push (seqObj "list" #[] 0)).update s.heap.objs.size (Obj.mapSeq (·++its.toArray))).push (seqObj "list" its.toArray 0)).get? (s.heap.objs.size+1)=some (seqObj "list" its.toArray 0):=by
  rw[<-hsz];exact eE _ rfl
 have keep:∀b o,s.heap.get? b=some o->(((s.heap.push (seqObj "list" #[] 0)).update s.heap.objs.size (Obj.mapSeq (·++its.toArray))).push (seqObj "list" its.toArray 0)).get? b=some o:=λb o q=>by
  have cF:b<s.heap.objs.size:=bQ q;rw[El _ _ _ (by rw[hsz];exact c7 (qG cF)),yV _ _ _ _ (c7 cF),El _ _ _ (c7 cF)];exact q
 show wpAny _ _ _ _ _ {s with heap:=((s.heap.push (seqObj "list" #[] 0)).update s.heap.objs.size (Obj.mapSeq (·++its.toArray))).push (seqObj "list" its.toArray 0)};rw[hsz];have oD:Own X (ao++[(fa,fo)]) (s.heap.objs.size+1):=I.own (uc _);have I1:=I.kept (t':=s.toks) keep;refine aB (pF (wpAny_call_entry_kw slot_list_sort ⟨_,Bl,rfl⟩ entry_list_sort ?body (ksk_l1 _ _)));show wpAny (model X.prog X.w) X.A.in1.in1 (Builtin.«list.sort» ⟨[.ref (s.heap.objs.size+1)],[(Str.ofString "key",.ref fa)]⟩) _ _ _;rw[ksk_t1];refine zh0 (n:=0) I1 g oD (I.hok.fresh (uc _)) Bl (by simp) rv hlen nO K cF hr λH' s' c g' bf Ml hc=>⟨_,rfl,?_⟩;refine aM ⟨_,rfl,.ref (s.heap.objs.size+1),upd H' (s.heap.objs.size+1) (.lst (fX ys p)),?_,rfl,q H' _ g' Ml⟩;have hn:X.s₀.heap.get? (s.heap.objs.size+1)=none:=DY (jO I.sz (uc _));refine bf.cH.track hn Ml (λp hp=>oD.h3 p (by
  rcases nJ.mp hp with z|z
  ·exact Gw _ z
  ·exact k_ _ (Gw _ z))) oD.hL oD.h2 ⟨?_,(dO its p).toList,c,YS rv p,by rw[Li];exact hc⟩
 unfold fX;by_cases h2:ys.length<2
 ·rw[if_pos h2];exact hz
 ·rw[if_neg h2,eY,nU,(hr (by lia)).2];exact hz
end
end L2
namespace Mi
open PySem PySem.Spec PyProof.Rows L2 PySem.W
section
variable {K:Frag}{cA:Cl}{U U1:Ph}{H H':Hp}{s:S}
theorem Ks(hS:aD K cA U H s)(x:Ext ⟨U.z,[]⟩ H U1 H')(r1:aD K cA U1 H' []):Ext U H ⟨U1.z,U.l⟩ H'/\aD K cA ⟨U1.z,U.l⟩ H' s:=by
 refine⟨⟨⟨[],by simp,by simp⟩,λa h=>x.qu a h,λa h=>x.kh a h,λa o h t n=>x.frame a o h t (by simp),x.stay⟩,?_⟩;exact⟨hS.len,λn o a e1 e2=>(hS.obj n o a e1 e2).map (λ_ t q=>x.frame a _ q t (by simp)) λ_ _ r=>Rep.zl ((Rep.zl r []).mono x λa ha=>by simp at ha) _,hS.uniq,λa ha=>x.qu a (hS.lz a ha),r1.zt⟩
theorem ziJ(t:vI H H'):Ext ⟨U.z,[]⟩ H ⟨U.z,[]⟩ H':=
 ⟨⟨[],by simp,by simp⟩,λ_ h=>h,λ_ h=>.inl h,λa o h nt _=>t.kp a o h λps e=>by rw[e] at nt;exact nt,t.st⟩
theorem Ku(z:∀a,U.z a->∃o,H a=some o):aD K cA ⟨U.z,[]⟩ H []:=⟨rfl,λn o a e=>by simp at e,Az,λa h=>by simp at h,z⟩
theorem zeh{f:D->M Xv}:∀{xs:List D} {ks:List Int},gG f xs=some ks->ks.length=xs.length/\∀(i:Nat) d k,xs[i]?=some d->ks[i]?=some k->f d []=some (.ok (.d (.int k)),[])
 |[],ks,h=>by
  cases h;exact⟨rfl,λi d k e=>by simp at e⟩
 |x::r,ks,h=>by
  unfold gG at h;split at h
  ·rename_i k e;obtain⟨ks',e1,rfl⟩:=kZ.mp h;obtain⟨l,q⟩:=zeh e1;refine⟨by simp[l],λi d k' ed ek=>?_⟩;cases i with
   |zero=>simp at ed ek;subst ed ek;exact e
   |succ i=>exact q i d k' (by simpa using ed) (by simpa using ek)
  ·cases h
end
section
variable {X:Cx}{cA:Cl}{aq:Nat->Nat->Bool}{aj:Bool}{F:Fn}{EX:XS}{a:Expr}{A B:E}{fz:Bool}{k:Nat}{c P:Addr}{params:Arguments}{body:Expr}{scope:Scope}{x:Str}{p pos yG kpos:Pos}
theorem zg3(on:qL=true)(hc:X.aj=true)(iI:X.env.code=.ref c)(hC:codeHdIn X.K c P=true)(hl:jW X.K c P=true)(Uu:Ko X.K X.mg)(qb:closureFor scope X.env=pure [])(hq:X.env.qual++"<lambda>"=i_)(vJ:defaultsOf params X.env=([],[]))
  (Sc:cj [x] [x] scope) (hr:bC k X.A) (kO:∀pm c' ctv u,bindArgs (kla_fn "<lambda>" i_ params body scope [] pm (.ref c') ctv) ⟨[u],[]⟩=pure [(x,u)])
  (hm:X.mg "sorted"=none) (hg:Gl X "sorted") (ha:SE X cA aq aj F EX a A)
  (hb:∀fa c' s' H',SE (dN (fL X.prog X.w) X.prog X.w X.K X.mg X.base [x] i_ scope fa (.ref c') X.A.in1.in1 X.stack s' H' (λ_ _ _=>False) true) cA aq aj F (λ_ _ _ _=>False) body B)
  (he:starEach [a] X.env=(false,eval a X.env)::starEach [] X.env:=by rfl) :
  SE X cA aq aj F EX (.Call (.Name "sorted" p) [a] [⟨some "key",.Lambda params body scope yG,kpos⟩] pos) (.oO fz A B):=by
 intro ao s Z H Q I hh;obtain⟨U,J,st,hL,hS,h⟩:=hh;cases aj with
 |false=>exact h.elim
 |true=>
 have h:Run X.K cA (M.bd (ev aq true F A J) λx=>match x with
   |.d (.fl xs)=>M.bd (M.opt (gG (λd=>ev aq true F B [some (.d d)]) xs)) λks=>M.bd (M.opt (jr (zN ks) xs)) λys=>newL fz ys
   |_=>M.no) U H st _ _:=h
 refine wJ (tO I hg hm zbP ?_ (by decide) (by decide));refine callWith_kw (e:=a) (rest:=[]) ?_ (by rw[he];rfl) (by rw[he];rfl);have PAa:PA X [a] (zF (tE X.K cA EX (ev aq true F A)) H_):=rW ha xH he;refine aV (PAa pos ao s Z H (λvs H1=>∃v U1 d st1,vs=[v]/\aY X.K cA U1 H1 Z J/\aD X.K cA U1 H1 st1/\aU X.K cA U1 H1 d v/\Run X.K cA ((λx:Xv=>match x with
   |.d (.fl xs)=>M.bd (M.opt (gG (λd=>ev aq true F B [some (.d d)]) xs)) λks=>M.bd (M.opt (jr (zN ks) xs)) λys=>newL fz ys
   |_=>M.no) d) U1 H1 st1 (λd _ U' H'=>∀v,aU X.K cA U' H' d v->Q v H') (eX X.K cA EX Z)) I ?_) λus s1 hx=>?_
 ·exact bw hL hS h λv H1 U1 d st1 x1 hL1 aJ r1 h2=>⟨v,U1,d,st1,rfl,hL1,aJ,r1,h2⟩
 obtain⟨vs0,H1,I1,rvs,v,U1,d,st1,rfl,hL1,aJ,r1,h2⟩:=hx;obtain⟨u,rfl,ru⟩:=vals1 rvs;have key:∃xs,d=.d (.fl xs):=by
  cases d with
  |l n=>exact h2.elim
  |d d=>cases d<;>first|exact⟨_,rfl⟩|exact h2.elim
 obtain⟨xs,rfl⟩:=key;have h2:Run X.K cA (M.bd (M.opt (gG (λd=>ev aq true F B [some (.d d)]) xs)) λks=>M.bd (M.opt (jr (zN ks) xs)) λys=>newL fz ys) U1 H1 st1 (λd _ U' H'=>∀v,aU X.K cA U' H' d v->Q v H') (eX X.K cA EX Z):=h2;obtain⟨ks,ek,h3⟩:=h2.nu;obtain⟨zs,ez,h4⟩:=h3.nu;obtain⟨kl,kf⟩:=zeh ek;cases r1 with
 |d r1=>
 cases r1 with
 |@fl _ l vs hl1 rs=>
 cases ru;have hlen:=rs.len;obtain⟨pp,tD,nO,hz⟩ : ∃pp:Array Nat,(2<=vs.length->bF (zN ks) (kas_sort vs.length)=some pp/\pp.size=vs.length)/\vs.length<64/\∀{U':Ph} {H':Hp},aC X.K cA U' H' xs vs->aC X.K cA U' H' zs (fX vs pp):=by
  unfold jr at ez;by_cases c2:xs.length<2
  ·rw[if_pos c2] at ez;cases ez;refine⟨#[],λz=>absurd z (by lia),by lia,λr=>?_⟩;have:fX vs #[]=vs:=by unfold fX;rw[if_pos (by lia)]
   rw[this];exact r
  ·rw[if_neg c2] at ez;by_cases c3:xs.length<64
   ·rw[if_pos c3] at ez;cases e:bF (zN ks) (PySem.W.kas_sort xs.length) with
    |none=>rw[e] at ez;cases ez
    |some q=>
     rw[e] at ez;dsimp only at ez;by_cases hq:q.size=xs.length
     ·rw[if_pos hq] at ez;cases ez;refine⟨q,λ_=>⟨by rw[<-hlen];exact e,by lia⟩,by lia,λr=>?_⟩;have:fX vs q=q.toList.map λi=>vs.getD i .non:=by unfold fX;rw[if_neg (by lia)]
      rw[this];exact r.Dt q.toList
     ·rw[if_neg hq] at ez;cases ez
   ·rw[if_neg c3] at ez;cases ez
 show wpAny _ _ (evalAll [do let v <-eval (.Lambda params body scope yG) X.env;standAt pos;pure v]) _ _ s1;refine wpAny_evalAll_cons (aB (zg6 I1 on iI hC hl Uu qb hq vJ λfa c' ctv pm H2 s2 I2 gc tx=>aB (t_ (aM (wpAny_evalAll_nil ?_)))));have x2:Ext ⟨U1.z,[]⟩ H1 ⟨U1.z,[]⟩ H2:=ziJ tx;have r2:aD X.K cA ⟨U1.z,[]⟩ H2 []:=Ku λa z=>by obtain⟨o,e⟩:=aJ.zt a z;exact tx.st a o e
 refine zf3 (G:=λH3=>∃U3,Ext ⟨U1.z,[]⟩ H2 U3 H3/\aD X.K cA U3 H3 []) (fo:=lamO params body scope pm c' ctv) (ys:=vs) (kz:=ks) (lt:=zN ks) (p:=pp) I2 ⟨_,Ext.refl,r2⟩ (LstAt.sU (LstAt.mono (U:=⟨U1.z,[]⟩) x2 (λa ha=>by simp at ha) hl1)) (by lia) nO (λi v k' hv hk H3 ps s' u g3 bf DK rv=>?_) (λi j b e=>?_) tD λH' r g3 hn=>?_
 ·obtain⟨U3,x3,r3⟩:=g3;obtain⟨d,ed⟩ : ∃d,xs[i]?=some d:=by
   cases e:xs[i]? with
   |none=>rw[rs.none e] at hv;cases hv
   |some d=>exact⟨d,rfl⟩
  obtain⟨v2,ev2,rd⟩:=rs.get ed;rw[hv] at ev2;cases ev2;have ef:=kf i d k' ed hk;have Uz:Rep X.K cA U3 H3 d v:=((Rep.zl rd []).mono x2 λa ha=>by simp at ha).mono x3 λa ha=>by simp at ha
  obtain⟨oc,w,ws,tq,g1,g2,g4⟩:=gc;have gc3:GoodC H3 c':=⟨oc,w,ws,tq,x3.frame c' _ g1 trivial (by simp),g2,g4⟩;refine zg5 (X:=X.DG) (CX:=fL X.prog X.w) (cm:=true) bf (bf.pin _ (k_ _ DK)).1 gc3 Sc (λ_=>bf.ok.hd hc) hr.depth (kO pm c' ctv) rv (hb fa c' s' H3) ?_ (λe s' z=>by obtain⟨_,_,_,_,_,_,_,_,_,_,z⟩:=z;exact z);refine⟨U3,[some (.d d)],[],⟨rfl,λj y e=>?_⟩,r3,?_⟩
  ·cases j with
   |zero=>simp at e;subst e;exact⟨v,rfl,.d Uz⟩
   |succ j=>simp at e
  ·unfold Run;rw[ef];intro U' H' x' r' v' rv';cases rv' with
   |d rv'=>
    cases rv';exact⟨rfl,U',x3.trans x',r'⟩
 ·unfold zN at e;cases e1:ks[i]? with
  |none=>rw[e1] at e;cases e
  |some a=>
   cases e2:ks[j]? with
   |none=>rw[e1,e2] at e;cases e
   |some b'=>
    rw[e1,e2] at e;cases e;exact⟨a,b',rfl,rfl,rfl⟩
 ·obtain⟨U3,x3,r3⟩:=g3;obtain⟨xe,re⟩:=Ks aJ (x2.trans x3) r3;have rs3:aC X.K cA ⟨U3.z,U1.l⟩ H' xs vs:=rs.mono xe aJ.lz;exact Y8 re (h4.ext xe) r _ hn (hz rs3)
end
structure JL(X:Cx):Prop where
 ex:∃c P,X.env.code=.ref c/\codeHdIn X.K c P=true/\jW X.K c P=true/\Ko X.K X.mg
structure DN(K:Frag)(mg:Str->Option Value)(fd:FuncData):Prop where
 ex:∃c P,fd.code=.ref c/\codeHdIn K c P=true/\jW K c P=true/\Ko K mg
section
variable {X:Cx}{cA:Cl}{aq:Nat->Nat->Bool}{aj:Bool}{F:Fn}{EX:XS}{a:Expr}{A B:E}{fz:Bool}{k:Nat}{params:Arguments}{body:Expr}{scope:Scope}{p pos yG kpos:Pos}
theorem zkg(x:Str)(L:JL X)(hr:bC k X.A)(hc:X.aj=true)(hm:X.mg "sorted"=none)(hg:JK X "sorted" .globalImplicit)(ha:JE X cA aq aj F EX a A)
  (hb:∀fa c' s' H',JE (dN (fL X.prog X.w) X.prog X.w X.K X.mg X.base [x] i_ scope fa (.ref c') X.A.in1.in1 X.stack s' H' (λ_ _ _=>False) true) cA aq aj F (λ_ _ _ _=>False) body B)
  (qb:closureFor scope X.env=pure []:=by rfl) (hq:X.env.qual++"<lambda>"=i_:=by kernel_rfl) (vJ:defaultsOf params X.env=([],[]):=by rfl)
  (kO:∀pm c' ctv u,bindArgs (kla_fn "<lambda>" i_ params body scope [] pm (.ref c') ctv) ⟨[u],[]⟩=pure [(x,u)]:=by intros;rfl)
  (Sc:cj [x] [x] scope:=by exact⟨rfl,rfl,rfl,dk,rfl,dk,dk⟩) (he:starEach [a] X.env=(false,eval a X.env)::starEach [] X.env:=by rfl) (on:qL=true:=by rfl) :
  JE X cA aq aj F EX (.Call (.Name "sorted" p) [a] [⟨some "key",.Lambda params body scope yG,kpos⟩] pos) (.oO fz A B):=by
 obtain⟨c,P,l1,l2,l3,l4⟩:=L.ex;exact⟨zg3 on hc l1 l2 l3 l4 qb hq vJ Sc hr kO hm hg.o ha.o (λfa c' s' H'=>(hb fa c' s' H').o) he⟩
end
theorem fJL{P:Program}{w:World}{K:Frag}{mg:Str->Option Value}{base:Heap}{cA:Cl}{aq:Nat->Nat->Bool}{T:Nat->Option Df}{x:Str}{st:Stmt}{ps:List Str}{k n:Nat}{cm:Bool}{df:Df}(D:D3 K mg x st ps)(LK:DN K mg (fdOf K x st))(N:List Str)(hT:T n=some df)
  (hb:∀(cdv:Value) (A:Around) (outer:List Env) (s:Shared) (H:Hp) (E:XK),bC k (A.deeper (envOfC x (au st) s.heap.objs.size (fZ K x) cdv))->JL (dN (fL P w) P w K mg base N x (au st) (fZ K x) cdv A outer s H E cm)->
   JB (dN (fL P w) P w K mg base N x (au st) (fZ K x) cdv A outer s H E cm) cA aq cm (λc=>call aq T k c) (λ_ C dx H'=>E C dx H') (aL st) df.body) (S:cj N ps (au st):=by exact⟨rfl,rfl,rfl,dk,rfl,dk,dk⟩) (hp:df.fC=ps.length:=by rfl) (hm:df.many=N.length:=by rfl) :
  cJ P w K mg base (fL P w) cm (k+1) (fZ K x) (fdOf K x st) ps (lM K cA (call aq T (k+1) cm n)):=by
 obtain⟨c,P',l1,l2,l3,l4⟩:=LK.ex;obtain⟨oc,od,kV,doc,pm,an,cdv,ct,osl,e,lk,iI⟩:=D.f.ex;rw[e] at lk l1 ⊢;have l1:cdv=.ref c:=l1;refine QS lk iI S (λvs H Q E ⟨U,ds,s,r,hS,h⟩=>?_) λA outer s H vs Q E hr ⟨U,ds,st',r,hS,h⟩=>?_
 ·rw[<-r.len,(Nm hT h).1,hp]
 ·obtain⟨hl,h2⟩:=Nm hT h;exact⟨_,(hb cdv A outer s H E (hr.deeper _) ⟨c,P',l1,l2,l3,l4⟩).o,U,_,st',S8 r hl.symm hm,hS,h2⟩
structure kW(K:Frag)(h:Heap):Prop where
 ex:∃(q:Addr×FuncData) (c P:Addr),wO K "plain_rings"=some q/\q.2.code=.ref c/\codeHdIn K c P=true/\jW K c P=true/\K.lookup P=none/\h.get? P=some (tabObj #[])/\(∀c' P',jW K c' P'=true->P'=P)/\bmB K=true
theorem zjn{K:Frag}{c P:Addr}(h:jW K c P=true):∃o,K.lookup c=some o/\lU o=some (.ref P):=by
 unfold jW at h;split at h
 ·rename_i o e;refine⟨o,e,?_⟩;split at h
  ·rename_i vs ed;rw[fu] at h;obtain⟨h1,h2⟩:=h;split at h1
   ·rename_i q t e1;split at h2
    ·rename_i p RB;unfold lU;rw[ed];dsimp only;rw[e1];dsimp only;rw[h1];dsimp only;rw[RB,nW.mp h2]
    ·cases h2
   ·cases h1
  ·cases h
 ·cases h
theorem zjY{K:Frag}{c P:Addr}{o:Obj}(e:K.lookup c=some o)(h:lU o=some (.ref P)):jW K c P=true:=by
 unfold lU at h;split at h
 ·rename_i vs ed;split at h
  ·rename_i q t e1;split at h
   ·rename_i eq;unfold jW;rw[e];dsimp only;rw[ed];dsimp only;rw[e1,h];dsimp only;rw[eq];simp
   ·cases h
  ·cases h
 ·cases h
theorem zhm{o:Obj}(h:qK o=true):o=tabObj #[]:=by
 unfold qK at h;split at h
 ·rename_i vs sl;rw[fu] at h;rw[Array.isEmpty_iff.mp h.1,Array.isEmpty_iff.mp h.2]
 ·cases h
theorem ziZ{K:Frag}{h:Heap}(e:Bc K h=true):kW K h:=by
 unfold Bc at e;split at e
 ·rename_i q hq;split at e
  ·rename_i c hc;split at e
   ·rename_i P hP;simp only[fu,iu] at e;obtain⟨⟨⟨⟨e1,e2⟩,e3⟩,e4⟩,e5⟩:=e;obtain⟨o,ho,hi⟩:=yS.mp hP;refine⟨q,c,P,hq,hc,e1,zjY ho hi,by simpa using e2,?_,λc' P' hl=>?_,e4⟩
    ·unfold Hg at e3;split at e3
     ·rename_i o' pP;rw[pP,zhm e3]
     ·cases e3
    ·obtain⟨o',pP,sE⟩:=zjn hl;have:=e5 (c',o') (Uc pP);dsimp only at this;rw[sE] at this;exact nW.mp this
   ·cases e
  ·cases e
 ·cases e
theorem kW.keeps{K:Frag}{h h':Heap}(L:kW K h)(k:∀b o,h.get? b=some o->h'.get? b=some o):kW K h':=by
 obtain⟨q,c,P,a1,a2,a3,a4,a5,a6,a7⟩:=L.ex;exact⟨q,c,P,a1,a2,a3,a4,a5,k _ _ a6,a7⟩
theorem znj{K:Frag}{h:Heap}{mg:Str->Option Value}(e:bmB K=true)(X:K.In h)(G:h.Ns mainGlobals mg):Ko K mg:=by
 unfold bmB at e;split at e
 ·rename_i bm hb;split at e
  ·rename_i d sl hl;simp only[fu,nW,bne_iff_ne] at e;obtain⟨⟨e1,e2⟩,e3⟩:=e;exact⟨bm,_,mg_of X G hb,e2,e3,hl,rfl,by rw[e1],rfl⟩
  ·cases e
 ·cases e
theorem kW.lk{K:Frag}{h:Heap}{mg:Str->Option Value}(L:kW K h)(X:K.In h)(G:h.Ns mainGlobals mg)(st:Stmt):DN K mg (fdOf K "plain_rings" st):=by
 obtain⟨q,c,P,a1,a2,a3,a4,a5,a6,a7,a8⟩:=L.ex;refine⟨c,P,?_,a3,a4,znj a8 X G⟩;unfold fdOf;rw[a1];exact a2
theorem zgq{P:Program}{w:World}{K:Frag}{mg mb:Str->Option Value}{CX:rY}{k:Nat}{fa a:Addr}{fd:FuncData}{x:Str}{sp:Sp}{s₁:Shared}{vs:List Value}{ns:List Int}
  (KX:K.In s₁.heap) (hns:s₁.heap.Ns mainGlobals mg) (hb:s₁.heap.Ns builtinsNs mb) (hbb:∀x:Str,x≠"__name__"->mb x=bootBuiltins x) (UG:s₁.heap.NoLimit) (hg:s₁.gens=#[])
  (ha:s₁.heap.get? a=some {cls:=.type "list",data:=.seq vs.toArray}) (hi:IntsAre vs ns) (hl:ns.length<=sizeLine) (hr:bC k callerA)
  (F:∀base:Heap,K.In base->base.Ns mainGlobals mg->cJ P w K mg base CX true k fa fd [x] sp) (kO:∀(s:Shared) (u:Value),BindsTo s fd ⟨[u],[]⟩ [(x,u)])
  (Mz:∀H:Hp,dj K H a (ns.map V.int)->sp [.ref a] H (λv _=>v=.bl true) λ_ _ _=>False)
  (hCX:∀H e s',CX [] H s₁ (λ_ _ _=>False) e s'->False) (LH:kW K s₁.heap) :
  codeAny (model P w) callerA (.call (.ref fa) ⟨[.ref a],[]⟩) (λr s'=>r=.ok (.ret (.bool true))/\OldK s₁.heap s'.heap/\s'.os=s₁.os/\AllBare s'.gens) s₁:=by
 have rv:=Yt hi;have lenV:=hi.length;obtain⟨q,c,T,a1,a2,a3,a4,a5,a6,a7,a8⟩:=LH.ex;have nTa:T≠a:=λz=>by rw[z,ha] at a6;cases a6
 have core:∀H:Hp,H T=some (.lV #[])->dj K H a (ns.map V.int)->iV P w H s₁.heap->(∀b,H b≠none->b=T\/(b=a/\∃o xs,H b=some (.n8 o (.lst xs))))->(H a≠none->K.lookup a=none)->
   codeAny (model P w) callerA (.call (.ref fa) ⟨[.ref a],[]⟩) (λr s'=>r=.ok (.ret (.bool true))/\OldK s₁.heap s'.heap/\s'.os=s₁.os/\AllBare s'.gens) s₁:=by
  intro H hT hS hok hA hK;have rD:∀{b:Addr} {o:Obj},s₁.heap.get? b=some o->H b=none->(mW s₁.heap H).get? b=some o:=λe n=>zhc e n;have Ig:∀{b:Addr} {o:Obj} {es:Array DictEntry} {ep:Nat},s₁.heap.get? b=some o->o.data=.dict es ep->H b=none:=λ{b o es ep} e d=>by
   cases qq:H b with
   |none=>rfl
   |some u=>
    rcases hA b (by rw[qq];simp) with z|⟨z,_⟩
    ·subst z;rw[a6] at e;cases e;have d':Data.fields #[]=Data.dict es ep:=d;cases d'
    ·subst z;rw[ha] at e;cases e;have d':Data.seq vs.toArray _=Data.dict es ep:=d;cases d'
  have N6:∀{b:Addr} {m:Str->Option Value},s₁.heap.Ns b m->(mW s₁.heap H).Ns b m:=λ{b m} ⟨o,es,ep,e,d,r⟩=>⟨o,es,ep,rD e (Ig e d),d,r⟩;have hKb:K.In (mW s₁.heap H):=λb o e=>rD (KX b o e) (by
   cases qq:H b with
   |none=>rfl
   |some u=>
    rcases hA b (by rw[qq];simp) with z|⟨z,_⟩
    ·subst z;rw[a5] at e;cases e
    ·subst z;rw[hK (by rw[qq];simp)] at e;cases e)
  have hM:Mod K mg (mW s₁.heap H):=⟨hKb,N6 hns,⟨mb,N6 hb,hbb⟩,let ⟨mc,h1,h2⟩:=UG;⟨mc,N6 h1,h2⟩⟩;have e0:pW P w K mg (mW s₁.heap H) callerA [] s₁ H:=⟨rfl,hM,λb o e=>zjt e,Nat.le_of_eq (zgU _ _),trivial,⟨λb hb=>absurd (show b∈([]:List Addr) from hb) (by simp),λ_ c' P' hc=>⟨#[],by rw[a7 c' P' hc];exact hT,.nil⟩⟩,hok,.of_eq hg⟩;refine zc ((F _ hKb (N6 hns)).run callerA [] s₁ H ⟨[.ref a],[]⟩ [.ref a] [.ref a] _ _ (λ_=>rfl) hr e0 (kO s₁ (.ref a)) (.cons rfl .nil) (Mz H hS)) λr s' h=>?_;cases r with
  |error e=>exact(hCX H e s' h).elim
  |ok fl=>
   cases fl with
   |next=>exact False.elim h
   |brk=>exact False.elim h
   |cont=>exact False.elim h
   |ret u=>
    obtain⟨v,H',os,bare,un,Kv,r',q'⟩:=h;have q':v=.bl true:=q';subst q';obtain rfl:u=Value.bool true:=r';obtain⟨more,hT',_⟩:=un.jD T #[] hT;have oT:s'.heap.get? T=some (tabObj (#[]++more)):=Kv T _ hT';have ht₀:s₁.heap.TableAt c T #[]:=(codeHd_of_K KX a3).tab a6;have kept:∀b o,b≠T->s₁.heap.get? b=some o->s'.heap.get? b=some o:=λb o nb e=>by
     cases qq:H b with
     |none=>exact un.keep b o e qq (by intro z;exact absurd (show b∈([]:List Addr) from z) (by simp)) (by simp)
     |some u=>
      rcases hA b (by rw[qq];simp) with z|⟨_,ob,xs,z⟩
      ·exact absurd z nb
      ·have z2:=un.jd b ob _ z;obtain⟨e1,_⟩:=hok b _ z;obtain⟨e2,_⟩:=Kv b _ z2;rw[e] at e1;cases e1;exact e2
    refine⟨rfl,⟨λb o e=>?_,λb o e=>?_⟩,os,bare⟩
    ·by_cases z:b=T
     ·subst z;rw[a6] at e;cases e;exact .inr (.inl ⟨ht₀.isCodeTable,rfl,#[],more,rfl,oT⟩)
     ·exact .inl (kept b o z e)
    ·by_cases z:b=T
     ·exact⟨_,by rw[z];exact oT⟩
     ·exact⟨o,kept b o z e⟩
 have Ai:∀H,bI P w H s₁.heap T (.lV #[]):=λH=>a6;cases hk:K.lookup a with
 |some o=>
  have e:=KX a o hk;rw[ha] at e;cases e;refine core (λb=>if b=T then some (.lV #[]) else none) (if_pos rfl) (.inr ⟨_,vs.toArray,_,hk,rfl,rfl,rfl,by rw[fj,lenV];exact hl,by simpa using rv⟩) (λb u z=>?_) (λb z=>?_) λz=>absurd (if_neg (Ne.symm nTa)) z
  ·by_cases hb:b=T
   ·subst hb;have z':=(if_pos rfl).symm.trans z;cases z';exact Ai _
   ·have z':=(if_neg hb).symm.trans z;cases z'
  ·by_cases hb:b=T
   ·exact .inl hb
   ·exact absurd (if_neg hb) z
 |none=>
  refine core (λb=>if b=T then some (.lV #[]) else if b=a then some (.n8 {cls:=.type "list",data:=.seq vs.toArray} (.lst (ns.map V.int))) else none) (if_pos rfl) (.inl (.inr ⟨{cls:=.type "list",data:=.seq vs.toArray},by show (if a=T then _ else _)=_;rw[if_neg (Ne.symm nTa),if_pos rfl]⟩)) (λb u z=>?_) (λb z=>?_) λ_=>hk
  ·by_cases hb:b=T
   ·subst hb;have z':=(if_pos rfl).symm.trans z;cases z';exact Ai _
   ·have z':=(if_neg hb).symm.trans z;by_cases DP:b=a
    ·have z'':=(if_pos DP).symm.trans z';cases z'';subst DP;exact⟨ha,by rw[eY];exact hl,vs,_,rv,ha⟩
    ·have z'':=(if_neg DP).symm.trans z';cases z''
  ·by_cases hb:b=T
   ·exact .inl hb
   ·by_cases DP:b=a
    ·exact .inr ⟨DP,_,_,(if_neg hb).trans (if_pos DP)⟩
    ·exact absurd ((if_neg hb).trans (if_neg DP)) z
end Mi
namespace Mi
open PySem PySem.Spec PyProof.Rows L2
section
variable {K:W.Frag}{cA:Cl}{U:Ph}{H:Hp}{s:S}
theorem zeN{β:Type}{c:Nat}{x:Xv}{v:V}{k:List D->M β}{P:β->S->Ph->Hp->Prop}{Ee:Nat->List D->S->Ph->Hp->Prop}(r:aU K cA U H x v)(h:Run K cA (M.bd (sO c x) k) U H s P Ee) :
  ∃fs ad dx vs,v=.ref ad/\H ad=some (.ins (cA.b c) dx ((cA.g c).zip vs))/\aC K cA U H fs vs/\Run K cA (k fs) U H s P Ee:=by
 cases r with
 |l _=>exact h.elim
 |d r=>cases r with
  |@ob ad e fs vs q r=>
   have h2:Run K cA (M.bd (if e=c then M.ret fs else M.no) k) U H s P Ee:=h;clear h;by_cases z:e=c
   ·rw[if_pos z] at h2;subst z;obtain⟨_,dx,q1,_⟩:=q;exact⟨fs,ad,dx,vs,rfl,q1,r,h2⟩
   ·rw[if_neg z] at h2;exact h2.elim
  |_=>exact h.elim
theorem Run.qt'{α:Type}{m:M α}{P:α->S->Ph->Hp->Prop}{Ee Ee':Nat->List D->S->Ph->Hp->Prop}(h:Run K cA (M.qt m) U H s P Ee):Run K cA m U H s P Ee':=by
 unfold Run M.qt at *;cases e:m s with
 |none=>rw[e] at h;exact h
 |some r=>
  obtain⟨r,s1⟩:=r;rw[e] at h;cases r with
  |ok a=>exact h
  |er c f=>exact h.elim
theorem zcp:∀{ns:List Str} {vs:List V} {m:Str},m∉ns->(ns.zip vs).lookup m=none
 |[],vs,m,_=>by simp
 |n::ns,[],m,_=>by simp
 |n::ns,v::vs,m,h=>by
  rw[GD,pK,show (m==n)=false from D_.mpr λe=>h (by simp[e])];exact zcp λz=>h (iG _ z)
end
structure Ow(K:W.Frag)(cA:Cl)(c:Nat):Prop where
 cl:Cls K (cA.b c)
 nf:∀f∈cA.g c,iw K (cA.b c) f
 nd:(cA.g c).Nodup
section
variable {X:Cx}{cA:Cl}{aq:Nat->Nat->Bool}{aj:Bool}{F:Fn}{EX:XS}{a e:Expr}{es:List Expr}{A:E}{Xs:Es}{pos apos p:Pos}{x:Str}
theorem Gk{c i:Nat}(o:Ow X.K cA c)(ha:JE X cA aq aj F EX a A)(hi:((cA.g c)[i]?==some x)=true:=by kernel_rfl)(hb:attributeBase a x X.env (eval a X.env)=eval a X.env:=by rfl):JE X cA aq aj F EX (.Attribute a x pos) (.of A c i):=⟨PE.weak (zlF ha.o hb) λZ H Q hh=>un hh λU J s hL hS h=>by
 refine bw hL hS h λy H1 U1 d1 s1 x1 hL1 aJ r1 h1=>?_;obtain⟨fs,ad,dx,vs,rfl,q1,q2,h2⟩:=zeN r1 h1;have hi:(cA.g c)[i]?=some x:=nW.mp hi;cases ef:fs[i]? with
 |none=>rw[ef] at h2;exact h2.elim
 |some d=>
  rw[ef] at h2;obtain⟨v,e1,rv⟩:=q2.get ef;exact⟨ad,_,dx,_,v,rfl,q1,o.cl,o.nf x (gU hi),ze8 o.nd hi e1,h2.bK aJ v (.d rv)⟩⟩
theorem zf1:Passes (fL X.prog X.w) X λ_ _ _=>False:=λao Z H s e s' I h=>by
 obtain⟨_,_,_,_,_,_,_,_,_,_,z⟩:=h;exact z.elim
structure Mt(K:W.Frag)(C:Addr)(m q:Str)(st:Stmt)(ps:List Str)(f:Addr)(fd:FuncData):Prop where
 fn:oY K m q st f fd
 mt:Meth K C m f
 bd:Binds K fd ps []
theorem yH{c f k:Nat}{cm:Bool}{m q:Str}{st:Stmt}{ps:List Str}{fa:Addr}{fd:FuncData}{pl:Sem Bool}(o:Ow X.K cA c)(D:Mt X.K (cA.b c) m q st ps fa fd)(Fo:cJ X.prog X.w X.K X.mg X.base (fL X.prog X.w) cm k fa fd ps (lM X.K cA (F f)))(hr:bC k X.A)(ha:JE X cA aq aj F EX a A)(hb:JA X cA aq aj F EX (e::es) Xs)
  (hm:decide (m∉cA.g c)=true:=by kernel_rfl) (jg:cm=true->X.aj=true:=by first|exact λ_=>rfl|exact λz=>nomatch z) (he:aF e=true:=by rfl) (cO:es.all aF=true:=by rfl)
  (ht:eval (.Call (.Attribute a m apos) (e::es) [] pos) X.env=(do
   let ov <-eval a X.env
   standAt apos.atName
   let (f,first) <-holding [ov] (getMethod ov m pl)
   callWith pos f first (backTo pos (starEach (e::es) X.env)) (backToKw pos (keywordEach [] X.env))):=by rfl):JE X cA aq aj F EX (.Call (.Attribute a m apos) (e::es) [] pos) (.cm c f A Xs):=⟨PE.weak (zi8 (pl:=pl) (oA:=[]) ha.o o.cl D.mt Fo jg hr D.bd .nil zf1 hb.o (bA he) (bD cO) ht) λZ H Q hh=>un hh λU J s hL hS h=>by
 refine bw hL hS h λy H1 U1 d1 s1 x1 hL1 aJ r1 h1=>?_;obtain⟨fs,ad,dx,vs,rfl,q1,q2,h2⟩:=zeN r1 h1;refine⟨ad,dx,_,rfl,q1,zcp (jU hm),oV hL1 aJ h2 λus H2 U2 ds s2 x2 hL2 aR r2 h3=>?_⟩;rw[wM];obtain⟨U0,s0,a1,a2,a3⟩:=ZJ (EE:=λ_ _ _ _=>False) aR (.cons (r1.mono x2 aJ.lz) r2) (λ_ _ _ _ _ _ z=>z) (h3.qt');refine⟨U0,_,s0,a1,a2,?_⟩;unfold Run at a3 ⊢;split at a3
 ·exact a3
 ·exact λU' H' x r=>(a3 U' H' x r).elim
 ·exact a3⟩
end
noncomputable def N7(K:W.Frag)(cA:Cl)(c:Nat)(m:List Xv->M Xv):Sp:=λvs H Q _=>∃x dx us U H0 xs s,vs=.ref x::us/\H0 x=none/\H0 dx=none/\dx≠x/\H=upd (upd H0 dx (.own x)) x (.ins (cA.b c) dx [])/\aQ K cA U H0 xs us/\aD K cA U H0 s /\
 Run K cA (m (.d .any::xs)) U H0 s (λr _ U' H'=>∀ds ws,r=.d (.tup ds)->aC K cA U' H' ds ws->fQ U' H' x (.ins (cA.b c) dx ((cA.g c).zip ws))->(cA.g c).length=ws.length->Q .non H') (λ_ _ _ _ _=>False)
section
variable {K:W.Frag}{cA:Cl}{U:Ph}{H:Hp}{s:S}
theorem zhv{xs:List Xv}{vs:List V}(h:locs xs=[])(r:aQ K cA U H xs vs)(l:List Addr):aQ K cA ⟨U.z,l⟩ H xs vs:=by
 induction r with
 |nil=>exact .nil
 |cons a r ih=>cases a with
  |d a=>exact .cons (.d (Rep.zl a l)) (ih h)
  |l a=>cases h
theorem Ext.made{x dx:Addr}{C:Addr}(hx:H x=none)(hd:H dx=none)(hn:dx≠x):Ext U H (U.mark x) (upd (upd H dx (.own x)) x (.ins C dx [])):=by
 have g:bG H (upd (upd H dx (.own x)) x (.ins C dx [])):=(bG.new hd).trans (bG.new (by rw[bZ hn.symm];exact hx));exact⟨⟨[],by simp[Ph.mark],by simp⟩,λa z=>.inl z,λa z=>z.imp id λe=>by rw[e];exact hx,λa o h _ _=>g a o h,λa o h=>⟨o,g a o h⟩⟩
theorem aD.made{x dx:Addr}{C:Addr}(hS:aD K cA U H s)(hx:H x=none)(hd:H dx=none)(hn:dx≠x):aD K cA (U.mark x) (upd (upd H dx (.own x)) x (.ins C dx [])) s:=by
 have xt:=Ext.made (U:=U) (C:=C) hx hd hn;refine⟨hS.len,λn o a e1 e2=>(hS.obj n o a e1 e2).map (λu _ q=>?_) λ_ _ r=>r.mono xt hS.lz,hS.uniq,λa ha=>.inl (hS.lz a ha),λa z=>?_⟩
 ·have n1:a≠x:=λy=>by rw[y,hx] at q;cases q
  have n2:a≠dx:=λy=>by rw[y,hd] at q;cases q
  rw[bZ n1,bZ n2];exact q
 ·rcases z with z|z
  ·obtain⟨o,e⟩:=hS.zt a z;exact xt.stay a o e
  ·subst z;exact⟨_,iH⟩
end
section
variable {X:Cx}{cA:Cl}{aq:Nat->Nat->Bool}{aj:Bool}{F:Fn}{EX:XS}{e:Expr}{es:List Expr}{Xs:Es}{pos p:Pos}{x:Str}
theorem zoM{c f k:Nat}{cm:Bool}{ps:List Str}{fa:Addr}{fd:FuncData}(M:Mk X.K (cA.b c) fa)(Fo:cJ X.prog X.w X.K X.mg X.base (fL X.prog X.w) cm k fa fd ps (N7 X.K cA c (F f)))(hr:∀us,bC k (X.A.under (.builtin "type.__call__" ⟨.ref (cA.b c)::us,[]⟩)))(hb:Binds X.K fd ps [])(hm:X.mg x=some (.ref (cA.b c)))(hg:JK X x .globalImplicit)
  (ha:JA X cA aq aj F EX (e::es) Xs) (h:okN x=true:=by kernel_rfl) (jg:cm=true->X.aj=true:=by first|exact λ_=>rfl|exact λz=>nomatch z) (he:aF e=true:=by rfl) (cO:es.all aF=true:=by rfl):JE X cA aq aj F EX (.Call (.Name x p) (e::es) [] pos) (.mk c f Xs):=⟨PE.weak (zjW (oA:=[]) M Fo jg hr hg.o hm hb .nil zf1 ha.o (vd h).1 (bA he) (bD cO)) λZ H Q hh=>un hh λU J s hL hS h=>
 oV hL hS h λus H1 U1 ds s1 x1 hL1 aJ r1 h1 x dx hx hd hn=>by
  rw[wM];unfold Run zQ at h1;by_cases hl:locs ds=[]
  ·simp only[if_pos hl] at h1;refine⟨x,dx,us,⟨U1.z,[]⟩,H1,ds,[],rfl,hx,hd,hn,rfl,zhv hl r1 [],⟨rfl,(λn o a e=>by simp at e),Az,(λa ha=>by cases ha),aJ.zt⟩,?_⟩;unfold Run;cases e:F f (.d .any::ds) [] with
   |none=>simp only[e] at h1
   |some r=>
    obtain⟨r,s2⟩:=r;simp only[e] at h1;cases r with
    |er c f=>exact h1.elim
    |ok r=>
     intro U' H' xt aR ts ws er rs kp hlen;subst er;have nx:¬U1.z x:=aJ.nz hx;have ne:∀a o,H1 a=some o->a≠x:=λa o q y=>by rw[y,hx] at q;cases q
     have xt2:Ext U1 H1 ⟨λa=>U'.z a/\a≠x,U1.l⟩ H':=by
      refine⟨⟨[],by simp,by simp⟩,λa z=>⟨xt.qu a z,λy=>nx (y▸z)⟩,λa z=>xt.kh a z.1,λa o q t _=>xt.frame a o q t (by simp),xt.stay⟩
     refine⟨rfl,h1 _ H' xt2 ⟨aJ.len,λn o a e1 e2=>(aJ.obj n o a e1 e2).map (λu t q=>xt.frame a u q t (by simp)) λ_ _ r=>r.mono xt2 aJ.lz,aJ.uniq,λa ha=>⟨xt.qu a (aJ.lz a ha),λy=>nx (y▸aJ.lz a ha)⟩,λa z=>aR.zt a z.1⟩ _ (.d (.ob ⟨λz=>z.2 rfl,dx,kp.at_,hlen⟩ (rs.kI (U':=⟨λa=>U'.z a/\a≠x,U1.l⟩) λ_ z=>z.1)))⟩
  ·simp only[if_neg hl] at h1⟩
end
structure yI(X:Cx)(cA:Cl)(aq:Nat->Nat->Bool)(aj:Bool)(F:Fn)(EX:XS)(c:Nat)(body:List Stmt)(is:Es)(ns:List Str):Prop where
 o:pQ X body λD Z H=>∃U0 H0 U J s x dx done vs ys,Ext U0 H0 U H/\aY X.K cA U H Z J/\aD X.K cA U H s/\H0 x=none/\Z[0]?=some (some (.ref x))/\fQ U H x (.ins (cA.b c) dx (done.zip vs))/\aQ X.K cA U H ys vs/\done.length=vs.length/\done++ns=cA.g c/\done.length+ns.length<=900 /\
  Run X.K cA (M.bd (evs aq aj F is J) λzs=>cP (ys++zs)) U0 H0 s (λes _ U' H'=>∀ws,aC X.K cA U' H' es ws->fQ U' H' x (.ins (cA.b c) dx ((cA.g c).zip ws))->(cA.g c).length=ws.length->D.nx Z H') (eX X.K cA EX Z)
theorem zez{f:Str}{v:V}:∀{fs:List (Str×V)},f∉fs.map (·.1)->fW f v fs=fs++[(f,v)]
 |[],_=>rfl
 |(g,x)::r,h=>by
  unfold fW;rw[if_neg λe=>h (by simp[e]),zez λz=>h (iG _ z)];rfl
theorem aQ.out{K:W.Frag}{cA:Cl}{U:Ph}{H H':Hp}(x:cR U H H'):∀{ds:List Xv} {vs:List V},aQ K cA U H ds vs->aQ K cA U H' ds vs
 |_,_,.nil=>.nil
 |_,_,.cons h r=>.cons (h.out x) (aQ.out x r)
theorem aQ.app{K:W.Frag}{cA:Cl}{U:Ph}{H:Hp}:∀{ds es:List Xv} {vs us:List V},aQ K cA U H ds vs->aQ K cA U H es us->aQ K cA U H (ds++es) (vs++us)
 |_,_,_,_,.nil,s=>s
 |_,_,_,_,.cons h r,s=>.cons h (aQ.app r s)
theorem Run.er{K:W.Frag}{cA:Cl}{U:Ph}{H:Hp}{s:S}{α:Type}{m:M α}{P:α->S->Ph->Hp->Prop}{Ee:Nat->List D->S->Ph->Hp->Prop}(h:Run K cA m U H s P λ_ _ _ _ _=>False):Run K cA m U H s P Ee:=by
 unfold Run at *;split at h
 ·exact h
 ·exact λU' H' x r=>(h U' H' x r).elim
 ·exact h
section
variable {X:Cx}{cA:Cl}{aq:Nat->Nat->Bool}{aj:Bool}{F:Fn}{EX:XS}{c:Nat}{a:Expr}{A:E}{is:Es}{ns:List Str}{body:List Stmt}{f:Str}{pos p p2:Pos}
theorem zkG:yI X cA aq aj F EX c [] .nil []:=⟨λao s Z H D I hh=>XH ao s Z H D I (by
 obtain⟨U0,H0,U,J,st,x,dx,done,vs,ys,xt,hL,hS,hx,h0,kp,rs,hl,hg,hz,h⟩:=hh;rw[wM] at hg;subst hg;have h2:Run X.K cA (M.bd (cP ys) M.ret) U H st (λes _ U' H'=>∀ws,aC X.K cA U' H' es ws->fQ U' H' x (.ins (cA.b c) dx ((cA.g c).zip ws))->(cA.g c).length=ws.length->D.nx Z H') (eX X.K cA EX Z):=by
  have h3:=h.ext xt;unfold Run at h3 ⊢;have e0:M.bd (evs aq aj F .nil J) (λzs=>cP (ys++zs)) st=cP ys st:=by show cP (ys++[]) st=_;rw[wM]
  rw[e0] at h3;unfold M.bd;cases e1:cP ys st with
  |none=>rw[e1] at h3;exact h3
  |some r=>
   obtain⟨r,s2⟩:=r;rw[e1] at h3;cases r with
   |er c f=>exact h3
   |ok ds=>exact h3
 obtain⟨ds,_,rs2,h4⟩:=R7 rs h2;exact h4.bK hS vs rs2 kp hl)⟩
theorem N8{j:Nat}(ow:Ow X.K cA c)(ha:JE X cA aq aj F EX a A)(hr:yI X cA aq aj F EX c body is ns)(h0:(decide (X.N[0]?=some ("self" : Str))&&vH X.env.scope "self"&&okN "self")=true:=by kernel_rfl)
  (hs:swapsWith a (some (.Attribute (.Name "self" p) f p2)) pos.line X.env=pure false:=by rfl):yI X cA aq aj F EX c (.Assign [.Attribute (.Name "self" p) f p2] a pos::body) (.cons A is) (f::ns):=by
 rw[fu,fu] at h0;obtain⟨k,e,hv⟩:=Ut h0.1.2;refine⟨λao s Z H D I hh=>XJ (zkZ (Xw (i:=0) (jU h0.1.1) (by cases k<;>first|exact .inl e|exact .inr (.inl e)|exact .inr (.inr e)|cases hv) (vd h0.2).1 (vd h0.2).2.1) ha.o hs) hr.o ao s Z H D I ?_⟩;obtain⟨U0,H0,U,J,st,x,dx,done,vs,ys,xt,hL,hS,hx,hx0,kp,rs,hl,hg,hz,h⟩:=hh;have h:Run X.K cA (M.bd (M.bd (ev aq aj F A J) λy=>M.bd (evs aq aj F is J) λzs=>M.ret (y::zs)) λzs=>cP (ys++zs)) U0 H0 st _ _:=h;simp only[gP] at h;refine⟨U,J,st,hL,hS,(h.bd0 xt).imp λy s1 U1 H1 ⟨x1,aJ,h1⟩ v rv=>?_⟩;have N_:=kp.mono x1;have nf:f∈cA.g c:=by rw[<-hg];simp
 have nd:f∉done:=λz=>by
  have:=ow.nd;rw[<-hg,Ls] at this;exact this.2.2 f z f (by simp) rfl
 have hk:(done.zip vs).map (·.1)=done:=by rw[List.map_fst_zip];lia
 refine⟨.ref x,hx0,x,_,dx,_,rfl,N_.at_,ow.cl,ow.nf f nf,?_,?_⟩
 ·have:(done.zip vs).length<=done.length:=by rw[List.length_zip];lia
  simp at hz
  lia
 rw[zez (by rw[hk];exact nd)];have ez:done.zip vs++[(f,v)]=(done++[f]).zip (vs++[v]):=by rw[List.zip_append hl];rfl
 rw[ez];have ox:cR U1 H1 (upd H1 x (.ins (cA.b c) dx ((done++[f]).zip (vs++[v])))):=N_.ext.1;refine⟨U0,H0,U1,J,s1,x,dx,done++[f],vs++[v],ys++[y],Ext.keep (vs:=[]) (xt.trans x1) hx,(hL.mono x1 hS.lz).out ox,aJ.keep N_,hx,hx0,N_.ext.2,((rs.mono x1 hS.lz).app (.cons rv .nil)).out ox,by simp[hl],by rw[<-hg,Lq];rfl,by simp at hz ⊢;lia,?_⟩;have h1:Run X.K cA (M.bd (evs aq aj F is J) λzs=>M.bd (M.ret (y::zs)) λzs=>cP (ys++zs)) U0 H0 s1 _ _:=h1;have e2:(λzs=>cP (ys++[y]++zs))=λzs=>M.bd (M.ret (y::zs)) λzs=>cP (ys++zs):=by
  funext zs
  rw[Lq];rfl
 rw[e2];exact h1
end
theorem zgY{K:W.Frag}{cA:Cl}{U:Ph}{H:Hp}{s:S}{α:Type}{m m':M α}{P:α->S->Ph->Hp->Prop}{Ee:Nat->List D->S->Ph->Hp->Prop}(e:m s=m' s)(h:Run K cA m U H s P Ee):Run K cA m' U H s P Ee:=by
 unfold Run at *;rw[<-e];exact h
theorem zfU{aq:Nat->Nat->Bool}{T:Nat->Option Df}{k n m p:Nat}{cm:Bool}{is:Es}{xs:List Xv}{s:S}(hT:T n=some ⟨m,p,.cons (.ret (.tup is)) .nil⟩)(hl:xs.length=p) :
  call aq T (k+1) cm n xs s=M.bd (M.bd (evs aq cm (call aq T k cm) is (xs.map some++List.replicate (m-p) none)) cP) (λds=>M.ret (.d (.tup ds))) s:=by
 unfold call;simp only[hT,if_pos hl];show (match bV (ofM (M.bd (evs aq cm (call aq T k cm) is _) λvs=>M.bd (cP vs) λds=>M.ret (.d (.tup ds))) _ λx s=>some (.rt x,s)) _ s with|some (.nx _,s')=>_|some (.rt v,s')=>_|some (.er c fs _,s')=>_|_=>none)=_;rw[gP];unfold bV ofM;cases e:M.bd (evs aq cm (call aq T k cm) is (xs.map some++List.replicate (m-p) none)) (λvs=>M.bd (cP vs) λds=>M.ret (Xv.d (.tup ds))) s with
 |none=>rfl
 |some r=>
  obtain⟨r,s1⟩:=r;cases r<;>rfl
theorem zjO{P:Program}{w:World}{K:W.Frag}{mg:Str->Option Value}{base:Heap}{cA:Cl}{aq:Nat->Nat->Bool}{T:Nat->Option Df}{x qual:Str}{st:Stmt}{f:Addr}{fd:FuncData}{N ps:List Str}{k n c m p:Nat}{cm:Bool}{is:Es}(F:oY K x qual st f fd)(hT:T n=some ⟨m,p,.cons (.ret (.tup is)) .nil⟩)
  (hb:∀(cdv:Value) (A:Around) (outer:List Env) (s:Shared) (H:Hp) (E:XK),bC k (A.deeper (envOfC qual (au st) s.heap.objs.size f cdv))->
   yI (dN (fL P w) P w K mg base N qual (au st) f cdv A outer s H E cm) cA aq cm (call aq T k cm) (λ_ C dx H'=>E C dx H') c (aL st) is (cA.g c)) (hg:(cA.g c).length<=900) (S:cj N ps (au st):=by exact⟨rfl,rfl,rfl,dk,rfl,dk,dk⟩) (hp:p=ps.length:=by rfl) (hm:m=N.length:=by rfl) (h0:0<p:=by decide) :
  cJ P w K mg base (fL P w) cm (k+1) f fd ps (N7 K cA c (call aq T (k+1) cm n)):=by
 obtain⟨oc,od,kV,doc,pm,an,cdv,ct,osl,rfl,lk,iI⟩:=F.ex;have hlen:∀{U:Ph} {H:Hp} {s:Mi.S} {xs:List Xv} {P:Xv->Mi.S->Ph->Hp->Prop},Run K cA (call aq T (k+1) cm n (.d .any::xs)) U H s P (λ_ _ _ _ _=>False)->xs.length+1=p:=λ{U H s xs P} h=>by
  unfold call at h;simp only[hT] at h;by_cases hl:(Xv.d D.any::xs).length=p
  ·simpa using hl
  ·rw[if_neg hl] at h;exact h.elim
 refine QS lk iI S (λvs H Q E ⟨x,dx,us,U,H0,xs,s,e,_,_,_,_,r,_,h⟩=>?_) λA outer s H vs Q E hr ⟨x,dx,us,U,H0,xs,st',e,hx,hd,hn,eH,r,hS,h⟩=>⟨_,(hb cdv A outer s H E (hr.deeper _)).o,?_⟩
 ·have:=hlen h;rw[e,h_,<-r.len,<-hp]
  lia
 ·subst e eH;have hl:=hlen h;have xt:=Ext.made (U:=U) (C:=cA.b c) hx hd hn;refine⟨U,H0,U.mark x,(Xv.d .any::xs).map some++List.replicate (m-p) none,st',x,dx,[],[],[],xt,S8 (.cons (.d (.any x)) (r.mono xt hS.lz)) (by simp;lia) hm,hS.made hx hd hn,hx,rfl,⟨iH,λz=>hS.nz hx (hS.lz x z),.inr rfl,trivial⟩,.nil,rfl,rfl,by simpa using hg,?_⟩;have h2:=(zgY (zfU hT (by simpa using hl)) h).bd0 Ext.refl;exact Run.er (Run.imp h2 λds s1 U1 H1 ⟨x1,aJ,h4⟩ ws rs kp hl=>h4 U1 H1 x1 aJ ds ws rfl rs kp hl)
section
variable {prog:Program}{w:World}{A:Around}{E:Value->Shared->Prop}{s:Shared}
theorem zd1{r:Addr}{n:Nat}{lo hi:Int}{t u v:Tok}{Q:List Value->Shared->Prop}(hh:A.handled=none)(hr:IsRange s.heap r lo hi 1 t u v)(hs:Builtin.Range.small lo hi 1=true)(hn:Builtin.Range.rangeSize lo hi 1=n)(hl:n<=65536)
  (q:∀(h':Heap) (tk:Nat) (acc:Array Value),(∀b o,s.heap.get? b=some o->h'.get? b=some o)->ItemsOf (λi v=>∃t,v=.int (lo+i*1) t) acc n->Q acc.toList {s with heap:=h',toks:=tk}):wpAny (model prog w) A (collect (.ref r)) Q E s:=by
 unfold collect;refine aB (wpAny_runValue (GP F.entry_proto_collect ?_));rw[Gx F.plain_proto_collect _];refine aB (m:=newList []) (GR (aM ⟨GX F.plain_list_iadd _,GP F.entry_list_iadd ?_⟩));rw[Gx F.plain_list_iadd _];have fin:∀{r':Result} {s':Shared},(∃h' tk acc c,r'=.ok (.ret (.ref s.heap.objs.size))/\s'={s with heap:=h',toks:=tk}/\h'.get? s.heap.objs.size=some (seqObj "list" acc c)/\(∀b o,s.heap.get? b=some o->h'.get? b=some o)/\ItemsOf (λi v=>∃t,v=.int (lo+i*1) t) acc n)->(match r' with
   |.ok (.ret v)=>wpAny (model prog w) A (match v with
    |.ref a=>do
     match (<-load a).data with
      |.seq xs _=>pure xs.toList
      |_=>unsupported "internal:collect"
    |_=>unsupported "internal:collect") Q E s'
   |.ok _=>False
   |.error e=>E e s'):=λ{r' s'} z=>by
  obtain⟨h',tk,acc,c,rfl,rfl,hS,kp,tK⟩:=z;exact aB (wpAny_load hS (aM (q h' tk acc kp tK)))
 refine gj (wpAny_extend_range (A:=A) (s:={s with heap:=s.heap.push (seqObj "list" #[] 0)}) (R:=λr' s'=>∃h' tk acc c,r'=.ok (.ret (.ref s.heap.objs.size))/\s'={s with heap:=h',toks:=tk}/\h'.get? s.heap.objs.size=some (seqObj "list" acc c)/\(∀b o,s.heap.get? b=some o->h'.get? b=some o)/\ItemsOf (λi v=>∃t,v=.int (lo+i*1) t) acc n)
  hh (cG _ hr) hs hn (by lia) s.heap.objs.size (.ref s.heap.objs.size) 0 (eE _ rfl) λh' tk acc c kp hS tK=>⟨h',tk,acc,c,rfl,rfl,hS,λb o e=>kp b o (c7 (bQ e)) (cG _ e),tK⟩) (λf s' z=>?_) λe s' z=>?_
 ·cases f with
  |done f=>exact fin z
  |again c'=>exact⟨z.1,zc z.2 λr s'' hr=>fin hr⟩
 ·obtain⟨_,_,_,_,e,_⟩:=z;cases e
end
theorem ze9(r:Addr)(lo hi:Int)(t u v:Tok)(n:Nat)(hs:Builtin.Range.small lo hi 1=true)(hn:Builtin.Range.rangeSize lo hi 1=n)(hl:n<=65536):Meets (Builtin.«tuple.__new__» ⟨[.type "tuple",.ref r],[]⟩)
   (λA R s=>A.handled=none/\IsRange s.heap r lo hi 1 t u v/\∀(h':Heap) (tk:Nat) (acc:Array Value),(∀b o,s.heap.get? b=some o->h'.get? b=some o)->ItemsOf (λi v=>∃t,v=.int (lo+i*1) t) acc n->R (.ok (.ret (.ref h'.objs.size))) {s with heap:=h'.push {cls:=.type "tuple",data:=.seq acc},toks:=tk}):=
 .of_wp λprog w A R s h=>by
  obtain⟨hh,hr,h⟩:=h;have hsub:=sub_tuple_self;have hinit:=init_tuple_lookup;have hmh:=madeHere_tuple;have hT:s.TypeIs (.ref r) "range":=⟨_,hr,rfl⟩;have hh1:A.in1.handled=none:=hh
  wp_walk using GZ hT,Ld hr,zd1 hh1 hr hs hn hl
  intro h' tk acc hk tK;show wpAny _ _ (Builtin.Tuple.tupleExact acc.toList.toArray >>= λv=>ret v) _ _ _;unfold Builtin.Tuple.tupleExact;have e:acc.toList.toArray=acc:=by simp
  rw[e];exact aB (pD (aM ⟨_,rfl,h h' tk acc hk tK⟩) (show acc.size<=sizeLine by rw[tK.1];exact jO hl (by decide)))
section
variable {X:Cx}
theorem zcg{ao:List (Addr×Obj)}{Z:L2.St}{H:Hp}{s:Shared}{Q:VK}{hi:Int}{t u v:Tok}{tk:Nat}(hc:X.aj=true)(I:Inv X ao Z H s)(hk:okR 0 hi=true)
  (q:∀l,H l=none->Q (.ref l) (upd H l (.tup (tX 0 (hi-0).toNat)))) :
  wpAny (model X.prog X.w) X.A (PySem.call (.type "tuple") [.ref s.heap.objs.size]) (EP X ao Z Q) X.xe {s with heap:=s.heap.push {cls:=.type "range",data:=.fields #[.int 0 t,.int hi u,.int 1 v]},toks:=tk}:=by
 obtain⟨h1,h2,h3,h4,h5⟩:=jU hk;have en:Builtin.Range.rangeSize 0 hi 1=((hi-0).toNat:Nat):=by rw[rangeSize_one];split<;>lia
 refine callType_new F.called_tuple (by decide) (F.typeCall_tuple_1 _) (F.newCall_tuple_1 _) (λobj=>F.args_object_init_2 obj _) F.entry_tuple_new (ze9 _ 0 hi t u v _ (small_one h1 h2 h3 h4) en h5) ⟨I.ok.hd hc,IsRange.new ..,λh' tk' acc kp ⟨z1,z2⟩=>?_⟩;have hv:Vals (tX 0 (hi-0).toNat) acc.toList:=by
  have:=zfI (i:=0) (acc:=acc) (n:=(hi-0).toNat) (m:=0) (λk v e=>by
   obtain⟨t,e⟩:=z2 k v (by simpa using e);exact⟨t,by rw[e,Int.mul_one,G3]⟩) (by rw[nU];exact z1)
  simpa [tX] using this
 have hz:s.heap.objs.size<=h'.objs.size:=rO (bQ (kp _ _ (eE s.heap rfl)));have I':=I.laid (a:=h'.objs.size) (o:=.tup (tX 0 (hi-0).toNat)) (h':=h'.push {cls:=.type "tuple",data:=.seq acc}) (t':=tk') (λb u q=>cG _ (kp b u (cG _ q))) hz (show bI X.prog X.w _ _ _ (.tup (tX 0 (hi-0).toNat)) from ⟨by
  rw[hv.length,nU,z1];exact jO h5 (by decide),acc.toList,hv,⟨_,eE _ rfl,rfl,0,by simp⟩⟩)
 exact⟨⟨_,eE _ rfl,rfl⟩,.ref h'.objs.size,_,I',rfl,q _ (I.hok.fresh hz)⟩
def Kw(vs:List V)(H:Hp)(Q:VK):Prop:=∃j:Int,vs=[.int j]/\okR 0 j=true/\∀l,H l=none->Q (.ref l) (upd H l (.tup (tX 0 (j-0).toNat)))
theorem zlW{e:Expr}{t:TA}{p p' pos pos':Pos}(hc:X.aj=true)(hg:Gl X "tuple")(hm:X.mg "tuple"=none)(yC:Gl X "range")(yD:X.mg "range"=none)(ha:PA X [e] t)(he:starEach [e] X.env=(false,eval e X.env)::starEach [] X.env:=by rfl) :
  PE X (.Call (.Name "tuple" p) [.Call (.Name "range" p') [e] [] pos'] [] pos) (MF Kw t):=by
 intro ao s Z H Q I h;refine wJ (tO I hg hm Nq ?_);refine wH ?_ rfl rfl;show wpAny _ _ (spliced ((false,eval (.Call (.Name "range" p') [e] [] pos') X.env)::backTo pos (starEach [] X.env))) _ _ s;refine Calls.spliced_cons ?_;refine wJ (tO I yC yD boot_range ?_);refine wH (aV (ha pos' ao s Z H _ I h) λus s1 ⟨vs,H1,I1,r1,q1⟩=>?_) he rfl;obtain⟨j,rfl,hk,q⟩:=q1;cases r1 with
 |cons r rr=>
  cases rr;obtain⟨t,rfl⟩:=r;exact call_range_1 (Lp (zcg hc I1 hk q))
theorem zk4{e:Expr}{te:TE}(h:PE X e te)(he:∀whole,isTrue e X.env whole=(do let v <-whole;standAt e.pos;holding [v] (truthy v))):PT X e (λZ H Q=>te Z H λx H1=>∃k,Bv X.K x H1 k/\Q k H1):=by
 intro ao s Z H Q I hw;exact isTrue_plain (aV (h ao s Z H _ I hw) λv s1 hx=>fH hx λx H1 I1 r1 q1=>zlT ao s1 Z H1 x v Q I1 r1 q1) (he _)
end
section
variable {K:W.Frag}{cA:Cl}{U:Ph}{H:Hp}
theorem zml:bH K cA .Cj Kw:=by
 intro U H ds vs Q zt rs o;have o:bN K cA U H (CJ ds) Q:=o;unfold CJ at o;split at o
 ·rename_i j _;obtain⟨v,rfl,r1⟩:=rs.one;cases (show Rep K cA U H (.int j) v from r1);by_cases hk:okR 0 j=true
  ·rw[if_pos hk] at o;exact⟨j,rfl,hk,λl hl=>o.tup zt (NQ _) hl⟩
  ·rw[if_neg hk] at o;exact o.elim
 ·exact o.elim
end
section
variable {X:Cx}{cA:Cl}{aq:Nat->Nat->Bool}{aj:Bool}{F:Fn}{EX:XS}{a e:Expr}{A:E}{pos pos' p p':Pos}{Xs:Es}{fz:Bool}
theorem zlk(hc:X.aj=true)(hm:X.mg "tuple"=none)(hg:JK X "tuple" .globalImplicit)(yD:X.mg "range"=none)(yC:JK X "range" .globalImplicit)(ha:JA X cA aq aj F EX [e] Xs)(he:aF e=true:=by rfl):JE X cA aq aj F EX (.Call (.Name "tuple" p) [.Call (.Name "range" p') [e] [] pos'] [] pos) (.pr fz .Cj Xs):=⟨PE.weak (zlW hc hg.o hm yC.o yD ha.o (bA he)) λZ H Q hh=>un hh λU J s hL hS h=>
 oV hL hS h λvs H1 U1 ds s1 x1 hL1 aJ r1 h1=>by
  obtain⟨ds,rs,h3⟩:=tW aJ r1 h1;exact zml U1 H1 ds _ _ aJ.zs rs (sV aJ h3)⟩
theorem zm6(ha:JE X cA aq aj F EX a A)(he:zY a=true:=by rfl):JT X cA aq aj F EX a (.Cq A):=⟨PT.weak (zk4 ha.o (by cases a<;>first|(intro _;rfl)|cases he)) λZ H Q hh=>un (zf5 hh) λU J s hL hS h=>by
 refine bw hL hS h λx H1 U1 d1 s1 x1 hL1 aJ r1 h1=>?_;obtain⟨dd,rv,h2⟩:=Nf aJ r1 h1;obtain⟨bb,e,h3⟩:=Run.nu h2;obtain⟨c,ec,q⟩:=h3.bK aJ _ (.d (.bl bb));cases ec;exact⟨bb,zlI rv e,q⟩⟩
end
def iz(h:Heap)(items:Array Value)(rows:List (List Int))(no:List Addr):Prop:=∀i v,items[i]?=some v->∃a xs,v=.ref a/\IsTup h a xs/\IntsAre xs.toList (rows.getD i [])/\a∉no
theorem iz.keep{h h':Heap}{items:Array Value}{rows:List (List Int)}{no:List Addr}(g:iz h items rows no)(k:∀b o,b∉no->h.get? b=some o->h'.get? b=some o):iz h' items rows no:=λi v e=>by
 obtain⟨a,xs,e1,⟨o,e2,r⟩,e3,e4⟩:=g i v e;exact⟨a,xs,e1,⟨o,k a o e4 e2,r⟩,e3,e4⟩
noncomputable abbrev wD(rows:List (List Int))(i j:Nat):Bool:=HT.lexLt (rows.getD i []) (rows.getD j [])
section
variable {prog:Program}{w:World}{A:Around}{R:Result->Shared->Prop}{I S l:Addr}{items:Array Value}{rows:List (List Int)}
theorem zj1{s:Shared}{i j:Nat}{u v:Value}{Q:Value->Shared->Prop}{E:Value->Shared->Prop}(hu:A.units<cLine)(g:iz s.heap items rows [I,S])(h1:items[i]?=some u)(h2:items[j]?=some v)(q:Q (.bool (wD rows i j)) s):wpAny (model prog w) A (richCompare .Lt u v) Q E s:=by
 obtain⟨a,xs,rfl,p1,i1,_⟩:=g i u h1;obtain⟨b,ys,rfl,p2,i2,_⟩:=g j v h2;exact HT.jZ p1 p2 i1 i2 hu q
theorem ze3(hh:A.handled=none)(hu:A.units+1<cLine)(hlI:l≠I)(hS:S∉[I,l]):∀(k j:Nat) (s:Shared) (vb:Value) (c:Nat),items.size-(j+1)=k->j+1<=items.size->(s.heap.IsListIter I l (j+1)/\s.heap.IsList l items)->items[argBest (wD rows) j]?=some vb->iz s.heap items rows [I,S]->
  s.heap.get? S=some (seqObj "list" #[vb,vb] c)->(∀v h' tk,items[argBest (wD rows) (items.size-1)]?=some v->(∀b o,b∉[I,S]->s.heap.get? b=some o->h'.get? b=some o)->R (.ok (.ret v)) {s with heap:=h',toks:=tk})->
  codeAny (model prog w) A (.builtin "min.loop" ⟨[.ref I,.none,.ref S],[]⟩) R s:=by
 have W:=Walks.list (prog:=prog) (w:=w) (A:=A.in1) hh I l hlI items;have nm:(toString "min"++toString ".loop" : String)="min.loop":=by decide
 have SI:S∉[I]:=λz=>hS (by simp at z;simp[z]);intro k
 induction k with
 |zero=>
  intro j s vb c e1 e2 st hb g oS q;refine GP F.entry_min_loop ?_;rw[Gx Av _];refine aB (m:=seqItems? (.ref S)) (rN oS rfl ?_);refine aB (m:=tryCatch (pyNext (.ref I)) _) (wpAny_tryCatch (W.done s _ _ ((show j+1=items.size by lia)▸st) λh' tk kp=>?_));refine aB (m:=updateSeq S λ_=>#[]) (wpAny_updateSeq (kp S _ SI oS) rfl (aB (zj (aM (q vb _ tk ?_ λb o hb e=>?_)))))
  ·rw[show items.size-1=j by lia];exact hb
  ·exact(wI _ _ (λz=>hb (by simp[z]))).trans (kp b o (λz=>hb (by simp at z;simp[z])) e)
 |succ k ih=>
  intro j s vb c e1 e2 st hb g oS q;refine GP F.entry_min_loop ?_;rw[Gx Av _];refine aB (m:=seqItems? (.ref S)) (rN oS rfl ?_);refine aB (m:=tryCatch (pyNext (.ref I)) _) (wpAny_tryCatch (W.item (j+1) s _ _ (by lia) st λv h' tk hP st' kp=>?_));have UJ:=kp S _ SI oS;have g':iz h' items rows [I,S]:=g.keep λb o hb e=>kp b o (λz=>hb (by simp at z;simp[z])) e;refine aB (m:=tryCatch (holding [v,v] (richCompare .Lt v vb >>= _)) _) (wpAny_tryCatch (pF (aB (zj1 (A:=A.in1) (s:={s with heap:=h',toks:=tk}) hu g' hP hb ?_))));refine aB (pF (vN (aB (zj (aM ?_)))));cases e3:wD rows (j+1) (argBest (wD rows) j) with
  |true=>
   simp only[if_true];refine aB (wpAny_updateSeq UJ rfl (aB (zj ?_)));rw[nm];have Gm:∀b o,b≠S->h'.get? b=some o->(h'.update S (Obj.mapSeq λ_=>#[v,v])).get? b=some o:=λb o hb e=>(wI _ _ (Ne.symm hb)).trans e;refine aM ⟨GX Av _,ih (j+1) _ v _ (by lia) (by lia) (W.frame _ _ _ st' λb hb o e=>Gm b o (λz=>hS (by rw[<-z];exact hb)) e) (by simp only[argBest,e3,if_true];exact hP) (g'.keep λb o hb e=>Gm b o (λz=>hb (by simp[z])) e) (Ao _ UJ rfl) λv' h2 tk2 Ky Kz=>q v' h2 tk2 Ky λb o hb e=>Kz b o hb (Gm b o (λz=>hb (by simp[z])) (kp b o (λz=>hb (by simp at z;simp[z])) e))⟩
  |false=>
   simp only[rH,nY];refine aB (zj ?_);rw[nm];exact aM ⟨GX Av _,ih (j+1) _ vb c (by lia) (by lia) st' (by simp only[argBest,e3,rH,nY];exact hb) g' UJ λv' h2 tk2 Ky Kz=>q v' h2 tk2 Ky λb o hb e=>Kz b o hb (kp b o (λz=>hb (by simp at z;simp[z])) e)⟩
theorem zff{s:Shared}{E:Value->Shared->Prop}{Q:Value->Shared->Prop}(hh:A.handled=none)(hu:A.units+2<cLine)(hl:s.heap.IsList l items)(h0:0<items.size)(g:iz s.heap items rows [])
  (q:∀v h' tk,items[argBest (wD rows) (items.size-1)]?=some v->(∀b o,s.heap.get? b=some o->h'.get? b=some o)->Q v {s with heap:=h',toks:=tk}):wpAny (model prog w) A (PySem.call (.builtin "min") [.ref l]) Q E s:=by
 have nm:(toString "min"++toString ".loop" : String)="min.loop":=by decide
 have cF:l<s.heap.objs.size:=by obtain⟨o,e,_⟩:=hl;exact bQ e
 refine call_function_tree F.kind_min F.plain_min F.entry_min (F.args_min1 _) ?_;refine aB (m:=Builtin.Builtins.bindParams "min" ["key","default"] 0 ⟨[],[]⟩) (Ey (show Builtin.Builtins.bindParams "min" ["key","default"] 0 ⟨[],[]⟩=pure [none,none] from rfl) (aB (aM ?_)));refine aB (GJ hl (aB (pD ?_)));rw[nm];have n1:(s.heap.push {cls:=.type "list_iterator",data:=.fields #[.ref l,.int 0 0]}).objs.size=s.heap.objs.size+1:=rM ..;refine aM ⟨GX Av _,?_⟩;refine GP F.entry_min_loop ?_;rw[Gx Av _];have W:=Walks.list (prog:=prog) (w:=w) (A:=A.in1) hh s.heap.objs.size l (c7 cF) items;have oS:((s.heap.push {cls:=.type "list_iterator",data:=.fields #[.ref l,.int 0 0]}).push (seqObj "list" #[] 0)).get? (s.heap.objs.size+1)=some (seqObj "list" #[] 0):=by rw[<-n1];exact eE _ rfl
 have k0:∀b o,s.heap.get? b=some o->((s.heap.push {cls:=.type "list_iterator",data:=.fields #[.ref l,.int 0 0]}).push (seqObj "list" #[] 0)).get? b=some o:=λb o e=>cG _ (cG _ e);rw[n1];refine aB (m:=seqItems? (.ref (s.heap.objs.size+1))) (rN oS rfl ?_);refine aB (m:=tryCatch (pyNext (.ref s.heap.objs.size)) _) (wpAny_tryCatch (W.item 0 _ _ _ h0 ⟨⟨_,cG _ (eE _ rfl),rfl,rfl⟩,hl.at λo e=>k0 l o e⟩ λv h' tk hP st' kp=>?_));have ne1:s.heap.objs.size+1∉[s.heap.objs.size]:=by simp
 refine aB (m:=updateSeq (s.heap.objs.size+1) λ_=>#[v,v]) (wpAny_updateSeq (kp _ _ ne1 oS) rfl ?_);rw[nm];have Gm:∀b o,b≠s.heap.objs.size+1->h'.get? b=some o->(h'.update (s.heap.objs.size+1) (Obj.mapSeq λ_=>#[v,v])).get? b=some o:=λb o hb e=>(wI _ _ (Ne.symm hb)).trans e;have KC:∀b o,s.heap.get? b=some o->(h'.update (s.heap.objs.size+1) (Obj.mapSeq λ_=>#[v,v])).get? b=some o:=λb o e=>Gm b o (c7 (qG (bQ e))) (kp b o (by simpa using c7 (bQ e)) (k0 b o e));have out:∀b o,s.heap.get? b=some o->b∉[s.heap.objs.size,s.heap.objs.size+1]:=λb o e z=>by
  rcases iY.mp z with z|z
  ·exact absurd z (c7 (bQ e))
  ·exact absurd (rJ.mp z) (c7 (qG (bQ e)))
 refine aM ⟨GX Av _,ze3 (A:=A) (rows:=rows) hh (by lia) (c7 cF) (λz=>by
  rcases iY.mp z with z|z
  ·exact absurd z (Nat.succ_ne_self _)
  ·exact absurd (rJ.mp z) (pO (qG cF))) _ 0 _ v _ rfl h0 (W.frame _ _ _ st' λb hb o e=>Gm b o (λz=>by
  rcases iY.mp hb with y|y
  ·exact absurd (z.symm.trans y) (Nat.succ_ne_self _)
  ·exact absurd (z.symm.trans (rJ.mp y)) (pO (qG cF))) e) hP ?_ (Ao _ (kp _ _ ne1 oS) rfl) λv' h2 tk2 Ky Kz=>q v' h2 tk2 Ky λb o e=>Kz b o (out b o e) (KC b o e)⟩
 intro i u e;obtain⟨a,xs,e1,⟨o,e2,r⟩,e3,_⟩:=g i u e;exact⟨a,xs,e1,⟨o,KC a o e2,r⟩,e3,out a o e2⟩
end
theorem zeR{x:List Int}{rs:List (List Int)}:∀k,k<=rs.length->(x::rs).getD (argBest (wD (x::rs)) k) []=gC x (rs.take k)
 |0,_=>rfl
 |k+1,hk=>by
  have ih:=zeR (x:=x) (rs:=rs) k (by lia);have app:∀(a b:List (List Int)) (y:List Int),gC y (a++b)=gC (gC y a) b:=λa=>by
   induction a with
   |nil=>intro b y;rfl
   |cons z a ih=>intro b y;exact ih b _
  have ht:rs.take (k+1)=rs.take k++[rs[k]'(by lia)]:=O9 (by lia);have hv:(x::rs).getD (k+1) []=rs[k]'(by lia):=by
   rw[lE,Am,eU (by lia)];rfl
  rw[ht,app,<-ih];show _=(if ltI (rs[k]'(by lia)) _=true then _ else _);rw[argBest.eq_2,Sh];unfold wD;rw[hv]
  split
  ·exact hv
  ·rfl
theorem zcv{K:W.Frag}{cA:Cl}{U:Ph}{H:Hp}:∀{xs:List D} {rs:List (List Int)} {vs:List V},j8 xs=some rs->aC K cA U H xs vs->rs.length=vs.length/\∀(i:Nat) v,vs[i]?=some v->∃a,v=.ref a/\TupAt K U H a ((rs.getD i []).map .int)
 |[],rs,vs,h,r=>by cases h;cases r;exact⟨rfl,λi v e=>by simp at e⟩
 |d::xs,rs,vs,h,r=>by
  cases r with
  |cons q r=>cases q with
   |@tup a ys us t ts=>
    unfold j8 at h;cases e1:cN ys with
    |none=>simp only[e1] at h;cases h
    |some is=>cases e2:j8 xs with
     |none=>simp only[e1,e2] at h;cases h
     |some rr=>
      simp only[e1,e2] at h;cases h;obtain⟨l,k⟩:=zcv e2 r;refine⟨by simp[l],λi v e=>?_⟩;cases i with
      |zero=>
       simp at e;subst e;refine⟨a,rfl,?_⟩;show TupAt K U H a (is.map V.int);rw[<-show _=is.map V.int from Nj e1 ts];exact t
      |succ i=>exact k i v (by simpa using e)
   |_=>cases h
section
variable {X:Cx}{cA:Cl}{aq:Nat->Nat->Bool}{aj:Bool}{F:Fn}{EX:XS}{e:Expr}{pos p:Pos}{es:List Expr}{Xs:Es}{fz:Bool}
def vK(K:W.Frag)(vs:List V)(H:Hp)(Q:VK):Prop:=∃(l:Addr) (x:List Int) (rs:List (List Int)) (us:List V),vs=[.ref l]/\dj K H l us/\(x::rs).length=us.length/\(∀(i:Nat) v,us[i]?=some v->∃a,v=.ref a/\gw K H a (((x::rs).getD i []).map V.int))/\∀(i:Nat) a,us[i]?=some (.ref a)->(x::rs).getD i []=gC x rs->Q (.ref a) H
theorem zf0:∀{is:List Int} {us:List Value},Vals (is.map V.int) us->IntsAre us is
 |[],_,.nil=>.nil
 |_::is,_,.cons ⟨t,e⟩ r=>by subst e;exact .cons _ t (zf0 r)
theorem zfx(hc:X.aj=true)(hu:X.A.units+2<cLine):dB X (.builtin "min") (vK X.K):=by
 intro ao s Z H xs us Q I r ⟨l,x,rs,ws,e,hl,hlen,KD,q⟩;subst e;obtain⟨u,rfl,ru⟩:=Vals.one r;cases (show u=Value.ref l from ru);obtain⟨its,rv,pl,hz⟩:=I.list hl;have hL:=rv.length;have hsz:its.toArray.size=rs.length+1:=by rw[fj,<-hL,<-hlen];rfl
 refine zff (rows:=x::rs) (I.ok.hd hc) hu pl.isList (by lia) (λi v e=>?_) λv h' tk hP hk=>?_
 ·have hi:its[i]?=some v:=by simpa using e
  have cF:i<ws.length:=by rw[hL];exact(f9.mp hi).1
  obtain⟨a,ea,ht⟩:=KD i _ (eU cF);obtain⟨v',e1,e2⟩:=rv.get (eU cF);rw[hi] at e1;cases e1;rw[ea] at e2;cases (show v=Value.ref a from e2);obtain⟨xs,rx,p,_⟩:=I.tuple ht;exact⟨a,_,rfl,p,by simpa using zf0 rx,by simp⟩
 ·rw[hsz,Nat.add_sub_cancel] at hP;have hi:its[argBest (wD (x::rs)) rs.length]?=some v:=by simpa using hP
  have cF:argBest (wD (x::rs)) rs.length<ws.length:=by rw[hL];exact(f9.mp hi).1
  obtain⟨a,ea,ht⟩:=KD _ _ (eU cF);obtain⟨v',e1,e2⟩:=rv.get (eU cF);rw[hi] at e1;cases e1;rw[ea] at e2;cases (show v=Value.ref a from e2);exact⟨.ref a,H,I.kept (h':=h') (t':=tk) hk,rfl,q _ a ((eU cF).trans (by rw[ea])) (by rw[zeR rs.length (cD _),En])⟩
theorem zi2{K:W.Frag}:bH K cA .sG (vK K):=by
 intro U H ds vs Q zt rs o;have o:bN K cA U H (oR ds) Q:=o;unfold oR at o;split at o
 ·rename_i xs _;obtain⟨v,rfl,rv⟩:=rs.one;obtain⟨a,us,rfl,sq,q⟩ : ∃a us,v=.ref a/\dj K H a us/\aC K cA U H xs us:=rv;split at o
  ·rename_i x r e;obtain⟨l,k⟩:=zcv e q;refine⟨a,x,r,us,rfl,sq,l,λi v ei=>?_,λi b ei hb=>?_⟩
   ·obtain⟨c,e1,e2⟩:=k i v ei;exact⟨c,e1,e2.ju⟩
   ·obtain⟨c,e1,e2⟩:=k i _ ei;cases e1;rw[hb] at e2;have rr:∀is:List Int,aC K cA U H (is.map D.int) (is.map V.int):=λis=>by
     induction is with
     |nil=>exact .nil
     |cons j is ih=>exact .cons (.int j) ih
    exact o.here (.tup e2 (rr _))
  ·exact o.elim
 ·exact o.elim
theorem zk0{k:Nat}(hr:bC k X.A)(hc:X.aj=true)(hm:X.mg "min"=none)(hg:JK X "min" .globalImplicit)(ha:JA X cA aq aj F EX (e::es) Xs)(he:aF e=true:=by rfl)(cO:es.all aF=true:=by rfl):JE X cA aq aj F EX (.Call (.Name "min" p) (e::es) [] pos) (.pr fz .sG Xs):=⟨zT (zfx hc (by have:=hr.un;lia)) zi2 hg.o hm PyProof.Rows.boot_min ha.o (by decide) (by decide) (bA he) (bD cO)⟩
end
end Mi
namespace Mi
open PySem PySem.Spec PyProof.Rows L2 PySem.W
section
variable {X:Cx}
end
section
variable {K:W.Frag}{cA:Cl}{U:Ph}{H:Hp}
end
end Mi
namespace PySem
open Builtin
end PySem
namespace Mi
open PySem PySem.Spec PyProof.Rows L2 PySem.W
section
variable {K:W.Frag}{cA:Cl}{U:Ph}{H:Hp}
end
section
variable {X:Cx}
end
section
variable {K:W.Frag}{cA:Cl}{U:Ph}{H:Hp}{Q:VK}
end
section
variable {X:Cx}{cA:Cl}{aq:Nat->Nat->Bool}{aj:Bool}{F:Fn}{EX:XS}{e:Expr}{pos p:Pos}{es:List Expr}{Xs:Es}{fz:Bool}
end
section
variable {X:Cx}
end
section
variable {X:Cx}{cA:Cl}{aq:Nat->Nat->Bool}{aj:Bool}{F:Fn}{EX:XS}{o i a:Expr}{O bf A:E}{apos cpos:Pos}
end
noncomputable def iB(K:Frag)(C:Addr)(m:Str):Addr:=match lR K C m with
 |some p=>p.1
 |none=>0
noncomputable def jM(K:Frag)(C:Addr)(m:Str)(st:Stmt):FuncData:=match lR K C m with
 |some p=>p.2
 |none=>E_ m m st
theorem ziD{fd:FuncData}{m q:Str}{st:Stmt}(h:nZ fd=E_ m q st):fd=fnOf m q (aZ st) (aL st) (au st) .none fd.kwdefaults fd.doc fd.pyModule fd.annotations fd.code fd.closureTuple:=by
 cases fd;unfold nZ E_ at h;cases h;rfl
theorem zmK{K:Frag}{C:Addr}{m q:Str}{st:Stmt}(h:(lR K C m).map (λp=>nZ p.2)=some (E_ m q st)):oY K m q st (iB K C m) (jM K C m st)/\Meth K C m (iB K C m):=by
 cases e:lR K C m with
 |none=>rw[e] at h;cases h
 |some p=>
  rw[e] at h;have hp:nZ p.2=E_ m q st:=cW h;have h1:iB K C m=p.1:=by unfold iB;rw[e]
  have h2:jM K C m st=p.2:=by unfold jM;rw[e]
  rw[h1,h2];unfold lR at e;split at e
  ·rename_i f hf;split at e
   ·rename_i oc od fd sl hl;split at e
    ·rename_i hc;cases e;simp only[fu] at hc;have eq:fd=_:=ziD hp;have qn:fd.qualname=q:=by rw[eq]
     exact⟨⟨⟨oc,od,_,_,_,_,_,_,sl,eq,hl,by rw[<-qn];exact hc.1.1⟩,hc.1.2⟩,hf,hc.2,hc.1.2⟩
    ·cases e
   ·cases e
  ·cases e
structure rE(fs:List (Str×Stmt))(ms:List uh)(xs:List (Nat×Str))(l:Lk)(b:Bd)(K:Frag):Prop where
 i:o7 fs ms xs l K
 m:∀p∈b.ms,oY K p.1 p.2.1 p.2.2 (iB K (eF K b.n) p.1) (jM K (eF K b.n) p.1 p.2.2)/\Meth K (eF K b.n) p.1 (iB K (eF K b.n) p.1)
 b:zu K b=true
section
variable {K:Frag}{b:Bd}
theorem zmP{cA:Cl}(h:zu K b=true)(hb:cA.b 0=eF K b.n)(hg:cA.g 0=b.fs)(nd:b.fs.Nodup):Ow K cA 0:=by
 unfold zu at h;simp only[fu,nW,iu] at h;obtain⟨⟨⟨⟨⟨⟨⟨h1,h2⟩,h3⟩,h4⟩,h5⟩,h6⟩,h7⟩,h8⟩:=h;exact⟨by rw[hb];exact⟨h2,h3,h4,h5⟩,λf hf=>by rw[hb];rw[hg] at hf;exact h8 f hf,by rw[hg];exact nd⟩
theorem zny{f:Addr}(h:zu K b=true)(m:Meth K (eF K b.n) "__init__" f):Mk K (eF K b.n) f:=by
 unfold zu at h;simp only[fu,nW,iu] at h;exact⟨h.1.1.2,m.at_,m.fn,h.1.2⟩
theorem zmS{h:Heap}{mg:Str->Option Value}(z:zu K b=true)(X:K.In h)(G:h.Ns mainGlobals mg):mg b.n=some (.ref (eF K b.n)):=by
 unfold zu at z;simp only[fu] at z;exact zm0 z.1.1.1.1.1.1.1 X G
end
theorem bC.made{k:Nat}{A:Around}(r:bC (k+1) A)(env:Env)(C:Addr)(us:List Value):bC k ((A.deeper env).under (.builtin "type.__call__" ⟨.ref C::us,[]⟩)):=
 ⟨by have:=r.dp;rw[zeZ];show A.depth+1+1+3*k+5<_;lia,by have:=r.un;rw[zfk];show A.units+3+1+16*k+200<_;lia,by
  have e:(A.deeper env).guards=some []:=r.gd;rw[<-e];cases h:(A.deeper env).guards<;>simp[Around.under,pushGuards,Code.guards,Code.isGuard,guardIds,h]⟩
section
variable {P:Program}{w:World}{K:Frag}{mg:Str->Option Value}{base:Heap}{cA:Cl}{aq:Nat->Nat->Bool}{T:Nat->Option Df}{x m q:Str}{st:Stmt}{ps:List Str}{k n:Nat}{cm:Bool}{df:Df}{C fa:Addr}{fd:FuncData}
theorem fM(D:Mt K C m q st ps fa fd)(N:List Str)(hT:T n=some df)
  (hb:∀(cdv:Value) (A:Around) (outer:List Env) (s:Shared) (H:Hp) (E:XK),bC k (A.deeper (envOfC q (au st) s.heap.objs.size fa cdv))->
   JB (dN (fL P w) P w K mg base N q (au st) fa cdv A outer s H E cm) cA aq cm (λc=>call aq T k c) (λ_ C dx H'=>E C dx H') (aL st) df.body) (S:cj N ps (au st):=by exact⟨rfl,rfl,rfl,dk,rfl,dk,dk⟩) (hp:df.fC=ps.length:=by rfl) (hm:df.many=N.length:=by rfl) :
  cJ P w K mg base (fL P w) cm (k+1) fa fd ps (lM K cA (call aq T (k+1) cm n)):=zim D.fn S hT hp hm hb
theorem zhS{c:Nat}:cJ P w K mg base (fL P w) cm 0 fa fd ps (N7 K cA c (call aq T 0 cm n)):=
 ⟨λvs H Q E ⟨_,_,_,_,_,_,_,_,_,_,_,_,_,_,h⟩=>h.elim,λA outer s H args us vs Q E _ _ _ _ _ ⟨_,_,_,_,_,_,_,_,_,_,_,_,_,_,h⟩=>h.elim⟩
theorem fR(D:D3 K mg x st ps)(N:List Str)(hT:T n=some df)
  (hb:∀(cdv:Value) (A:Around) (outer:List Env) (s:Shared) (H:Hp) (E:XK),bC (k+1) A->
   JB (dN (fL P w) P w K mg base N x (au st) (fZ K x) cdv A outer s H E cm) cA aq cm (λc=>call aq T k c) (λ_ C dx H'=>E C dx H') (aL st) df.body) (S:cj N ps (au st):=by exact⟨rfl,rfl,rfl,dk,rfl,dk,dk⟩) (hp:df.fC=ps.length:=by rfl) (hm:df.many=N.length:=by rfl) :
  cJ P w K mg base (fL P w) cm (k+1) (fZ K x) (fdOf K x st) ps (lM K cA (call aq T (k+1) cm n)):=ZX D.f S hT hp hm λcdv A outer s H E hr=>(hb cdv A outer s H E hr).o
theorem UL{p p2:Str}(h:oY K m q st fa fd/\Meth K C m fa)(hb:∀(kV doc pm:Value) (an:Option Addr) (cdv ct a b:Value),bindArgs (fnOf m q (aZ st) (aL st) (au st) .none kV doc pm an cdv ct) ⟨[a,b],[]⟩=pure [(p,a),(p2,b)]:=by intros;rfl):Mt K C m q st [p,p2] fa fd:=⟨h.1,h.2,by
 obtain⟨oc,od,kV,doc,pm,an,cdv,ct,osl,rfl,lk,iI⟩:=h.1.ex;exact vg (hb kV doc pm an cdv ct)⟩
theorem zn6{p p2 p3:Str}(h:oY K m q st fa fd/\Meth K C m fa)(hb:∀(kV doc pm:Value) (an:Option Addr) (cdv ct a b c:Value),bindArgs (fnOf m q (aZ st) (aL st) (au st) .none kV doc pm an cdv ct) ⟨[a,b,c],[]⟩=pure [(p,a),(p2,b),(p3,c)]:=by intros;rfl):Mt K C m q st [p,p2,p3] fa fd:=⟨h.1,h.2,by
 obtain⟨oc,od,kV,doc,pm,an,cdv,ct,osl,rfl,lk,iI⟩:=h.1.ex;exact vh (hb kV doc pm an cdv ct)⟩
theorem zol{p p2 p3 p4:Str}(h:oY K m q st fa fd/\Meth K C m fa)(hb:∀(kV doc pm:Value) (an:Option Addr) (cdv ct a b c d:Value),bindArgs (fnOf m q (aZ st) (aL st) (au st) .none kV doc pm an cdv ct) ⟨[a,b,c,d],[]⟩=pure [(p,a),(p2,b),(p3,c),(p4,d)]:=by intros;rfl):Mt K C m q st [p,p2,p3,p4] fa fd:=⟨h.1,h.2,by
 obtain⟨oc,od,kV,doc,pm,an,cdv,ct,osl,rfl,lk,iI⟩:=h.1.ex;exact vm (hb kV doc pm an cdv ct)⟩
end
noncomputable def jk(fs:List (Str×Stmt))(ms:List uh)(xs:List (Nat×Str))(l:Lk)(b:Bd):Hook where
 α:=((List (Option FuncData)×List (Option FuncData)×Bool)×(List (Option FuncData)×Bool))×Bool
 obs:=λs=>((jV fs ms xs l s,wR b s),n6 s)
 val:=λw=>((lF fs ms w,wU b),true)
 says:=λ_ h=>∃K:Frag,K.In h/\rE fs ms xs l b K/\kW K h
 of:=λw s e=>by
  have e9:(jV fs ms xs l s,wR b s)=(lF fs ms w,wU b):=lq Prod.fst e;have el:n6 s=true:=lq Prod.snd e;have e0:jV fs ms xs l s=lF fs ms w:=lq Prod.fst e9;have e4:wR b s=wU b:=lq Prod.snd e9;have e3:(_&&_&&_)=true:=lq (λx=>x.2.2) e0;rw[fu,fu,iu,iu] at e3;refine⟨bY s.heap,zho,⟨⟨λp hp=>?_,Kac e3.1.1,λm hm=>?_,e3.1.2,λx hx=>zno (e3.2 x hx)⟩,λp hp=>?_,lq Prod.snd e4⟩,ziZ el⟩
  ·exact znh (PX.mp (lq Prod.fst e0) p hp)
  ·exact zmN (PX.mp (lq (λx=>x.2.1) e0) m hm)
  ·exact zmK (PX.mp (lq Prod.fst e4) p hp)
 keeps:=λw h h' ⟨K,X,Y,Ss⟩ k=>⟨K,X.keeps k,Y,Ss.keeps k⟩
theorem DQ{l:OpenLaw}{k:Nat}{q:Program}{loose:List Str}{XP:(Str->Option Value)->Heap->Prop}{fs:List (Str×Stmt)}{ms:List uh}{xs:List (Nat×Str)}{lk:Lk}{b:Bd}{d:DefRec}{x:Str}(hn:l.most=some 63)(Ra:d.params.defaults=[])(hr:bC k callerA)
  (F:∀(w:World) (K:Frag) (mg:Str->Option Value) (fa:Addr) (h:Heap),rE fs ms xs lk b K->kW K h->K.In h->h.Ns mainGlobals mg->mg d.name=some (.ref fa)->
   ∃fd:FuncData,(∀(s:Shared) (u:Value),BindsTo s fd ⟨[u],[]⟩ [(x,u)])/\∀base:Heap,K.In base->base.Ns mainGlobals mg->cJ l.prog w K mg base (fL l.prog w) true k fa fd [x] (vf K)) :
  WalkO q loose XP (jk fs ms xs lk b).says l.row.toRowW d [] (λf vs=>PySem.call f vs):=by
 refine Ys.oG hn Ra λw s₀ s₁ mg mb fa o pm cd doc a vs ns G Y ho hd iI hmg BR hints hlen hg=>?_;obtain⟨K,KX,SY,LH⟩:=Y;obtain⟨fd,hb,hF⟩:=F w K mg fa _ SY LH KX G.T.g hmg;exact zgq KX G.T.g G.T.b G.T.builtins G.T.nolimit hg BR hints (jO hlen (by decide)) hr hF hb (λH hS=>⟨a,ns,rfl,hS,hlen,trivial,λ_=>rfl⟩) (λH e s' h=>by
  obtain⟨_,_,_,_,_,_,_,_,_,_,z⟩:=h;exact z) LH
end Mi
namespace Mi
open PySem
end Mi
namespace Mi
open PySem Ts
theorem zcT{α:Type}{q:α->Bool}:∀l:List α,l.length=(l.filter q).length+(l.filter λx=>!q x).length
 |[]=>rfl
 |x::l=>by
  have:=zcT (q:=q) l;simp only[List.filter_cons];cases q x<;>simp<;>lia
theorem zmq{ps:List (Int×Int)}{n:Int}(h1:1<=n)(h8:n<=8)(ht:∀p∈ps,0<=p.1/\p.1<p.2/\p.2<n)(hi:ps.Pairwise lx):(ps.length:Int)<=7*n:=by
 have key:∀m:Nat,∀qs:List (Int×Int),(∀p∈qs,0<=p.1/\p.1<(m:Int)/\p.1<p.2/\p.2<n)->qs.Nodup->(qs.length:Int)<=7*m:=by
  intro m
  induction m with
  |zero=>
   intro qs hq _;cases qs with
   |nil=>simp
   |cons p r=>have:=hq p (by simp);lia
  |succ m ih=>
   intro qs hq nd;have h1:=ih (qs.filter λp=>decide (p.1<(m:Int))) (λp hp=>by
    obtain⟨a,b⟩:=mQ.mp hp;have:=hq p a;have:=jU b
    lia) (nd.filter _)
   have h2:(qs.filter λp=>!decide (p.1<(m:Int))).length<=(([1,2,3,4,5,6,7]:List Int).map λx=>((m:Int),x)).length:=zdg (nd.filter _) (λp hp=>by
    obtain⟨a,b⟩:=mQ.mp hp;have:=hq p a;have b:¬p.1<(m:Int):=by simpa using b
    obtain⟨p1,p2⟩:=p;dsimp only at *;have e:p1=(m:Int):=by lia
    subst e;refine qH.mpr ⟨p2,?_,rfl⟩;have:p2=1\/p2=2\/p2=3\/p2=4\/p2=5\/p2=6\/p2=7:=by lia
    simpa using this)
   have h3:=zcT (q:=λp=>decide (p.1<(m:Int))) qs;simp only[eY,h_,Et] at h2
   lia
 have:=key n.toNat ps (λp hp=>by have:=ht p hp;lia) (zgX hi)
 lia
end Mi
namespace Mi
open PySem
end Mi
namespace Mi
open PySem PySem.W L2
end Mi
namespace Mi
open PySem
theorem W.c0{F:List Xv->M Xv}{xs:List Xv}{s:S}{e:D}{P:Xv->S->Prop}(h:W (F (dG 0 xs)) [] λv _=>v=.d e)(k:P (.d e) s)(hl:locs xs=[]:=by rfl):W (b_ F xs) s P:=vC hl (h.imp λ_ _ q=>⟨_,q,k⟩)
theorem W.c1{F:List Xv->M Xv}{xs:List Xv}{s:S}{P:Xv->S->Prop}(h:W (F (dG 0 xs)) [] λv _=>∃d,v=.d d)(k:∀d,P (.d d) s)(hl:locs xs=[]:=by rfl):W (b_ F xs) s P:=vC hl (h.imp λ_ _ ⟨d,q⟩=>⟨d,q,k d⟩)
section
variable {s:S}{o o' L L':SO}
theorem g1_:(s++[o]++[L])[s.length]?=some o:=by simp
theorem znM:(s++[o]++[L]).set s.length o'=s++[o']++[L]:=by simp
theorem Kaq{F:List Xv->M Xv}{xs:List Xv}{P:Xv->S->Prop}(hl:locs xs=[s.length])(h:W (F (dG 0 xs)) [o] λv s1=>∃d o',v=.d d/\s1=[o']/\P (.d d) (s++[o']++[L])):W (b_ F xs) (s++[o]++[L]) P:=by
 refine Kao (n:=s.length) (o:=o) hl g1_ (h.imp λv s1=>?_);rintro⟨d,o',rfl,rfl,hp⟩;exact⟨d,o',rfl,rfl,by rw[znM];exact hp⟩
end
section
variable {n k x y:Int}{r:List Int}
end
section
variable {n m:Int}{ps qs:List (Int×Int)}{x:D}{hs:List Int}
theorem zhZ{k a b:Int}:kJ k a b=kJ k b a:=by
 unfold kJ
 split<;>split<;>split<;>split<;>lia
end
section
variable {aq:Nat->Nat->Bool}{F:Fn}{J:Vs}{s:S}{P:Xv->S->Prop}
end
noncomputable abbrev Fr:=List (Option (List Int))
noncomputable def bM:Option (List Int)->D
 |none=>.non
 |some l=>.tup (l.map .int)
noncomputable def cellK:Option (List Int)->Kx
 |none=>.non
 |some l=>.row l
noncomputable def jA(F:Fr):D:=.tup (F.map bM)
theorem UW:∀l:List Int,cN (l.map .int)=some l
 |[]=>rfl
 |i::l=>by show Option.map _ (cN (l.map .int))=_;rw[UW l];rfl
theorem Oa(F:Fr):kOf (jA F)=some (F.map cellK):=by
 show CV (F.map bM)=_
 induction F with
 |nil=>rfl
 |cons c F ih=>
  have e:uR (bM c)=some (cellK c):=by
   cases c with
   |none=>rfl
   |some l=>show Option.map _ (cN (l.map .int))=_;rw[UW];rfl
  simp only[jo,CV,e,ih]
theorem zf6:∀{F G:Fr},F.map cellK=G.map cellK->F=G
 |[],[],_=>rfl
 |[],_::_,h=>by cases h
 |_::_,[],h=>by cases h
 |c::F,e::G,h=>by
  simp only[jo,List.cons.injEq] at h;rw[zf6 h.2]
  congr 1
  have h1:=h.1;cases c with
  |none=>cases e with
   |none=>rfl
   |some _=>cases h1
  |some l=>cases e with
   |none=>cases h1
   |some m=>cases h1;rfl
structure Bo(n k:Nat)(es:Nat->List Int)(A:Int->Int->Bool):Prop where
 hn:n<=8
 hk:k<=24
 mem:∀i,i<n->∀e∈es i,0<=e/\e<n/\e≠i
 sym:∀i e:Nat,i<n->e<n->(e:Int)∈es i->(i:Int)∈es e
 len:∀i,i<n->(es i).length<=8
 asy:∀a b:Int,0<=a->a<k->0<=b->b<k->A a b=A b a
structure Fv(n k:Nat)(F:Fr):Prop where
 len:F.length=n
 lo:∀(i:Nat) L,F[i]?=some (some L)->∀x∈L,0<=x/\x<k
 ll:∀(i:Nat) L,F[i]?=some (some L)->L.length<=24
 so:∀(i:Nat) L,F[i]?=some (some L)->L.Pairwise (·<·)
structure qC(es:Nat->List Int)(A:Int->Int->Bool)(F:Fr)(g:Nat->Int):Prop where
 mem:∀(i:Nat) L,F[i]?=some (some L)->g i∈L
 fit:∀(i e:Nat) L M,F[i]?=some (some L)->F[e]?=some (some M)->(e:Int)∈es i->A (g i) (g e)=true
def Sat(es:Nat->List Int)(A:Int->Int->Bool)(F:Fr):Prop:=∃g,qC es A F g
noncomputable def gK(f:Int->Bool)(F:Fr)(e:Int):Fr:=F.set e.toNat ((F[e.toNat]?.join).map (·.filter f))
noncomputable def settle(es:Nat->List Int)(A:Int->Int->Bool)(F:Fr)(p:Nat)(x:Int):Fr:=(es p).foldl (gK (A x)) (F.set p none)
theorem zec{f:Int->Bool}{F:Fr}{e:Int}:(gK f F e).length=F.length:=pL ..
theorem U6{f:Int->Bool}:∀{l:List Int} {F:Fr},(l.foldl (gK f) F).length=F.length
 |[],F=>rfl
 |e::l,F=>by rw[LQ,U6,zec]
theorem zjL{f:Int->Bool}{F:Fr}{e:Int}(h0:0<=e)(i:Nat)(hi:i<F.length):(gK f F e)[i]?=if (i:Int)=e then F[i]?.map (Option.map (·.filter f)) else F[i]?:=by
 unfold gK;by_cases z:(i:Int)=e
 ·have:e.toNat=i:=by lia
  rw[if_pos z,this,yU hi,eU hi];rfl
 ·rw[if_neg z,qF (by lia)]
theorem U7{f:Int->Bool}:∀{l:List Int} {F:Fr} (i:Nat),(∀e∈l,0<=e)->i<F.length->(l.foldl (gK f) F)[i]?=if (i:Int)∈l then F[i]?.map (Option.map (·.filter f)) else F[i]?
 |[],F,i,_,hi=>by simp
 |e::l,F,i,h,hi=>by
  rw[LQ,U7 i (λx hx=>h x (by simp[hx])) (by rw[zec];exact hi),zjL (h e (by simp)) i hi];have ff:∀c:Option (Option (List Int)),(c.map (Option.map (·.filter f))).map (Option.map (·.filter f))=c.map (Option.map (·.filter f)):=λc=>by
   cases c with
   |none=>rfl
   |some c=>cases c with
    |none=>rfl
    |some L=>simp
  by_cases a:(i:Int)=e
  ·by_cases b:(i:Int)∈l
   ·rw[if_pos b,if_pos a,if_pos (by simp[b]),ff]
   ·rw[if_neg b,if_pos a,if_pos (by simp[a])]
  ·by_cases b:(i:Int)∈l
   ·rw[if_pos b,if_neg a,if_pos (by simp[b])]
   ·rw[if_neg b,if_neg a,if_neg (by simp[a,b])]
section
variable {n k:Nat}{es:Nat->List Int}{A:Int->Int->Bool}{F:Fr}{p:Nat}{x:Int}{g:Nat->Int}
theorem zcm:(settle es A F p x).length=F.length:=by unfold settle;rw[U6,pL]
theorem zc3(B:Bo n k es A)(hF:F.length=n)(hp:p<n)(i:Nat)(hi:i<n):(settle es A F p x)[i]?=if i=p then some none else if (i:Int)∈es p then F[i]?.map (Option.map (·.filter (A x))) else F[i]?:=by
 unfold settle;rw[U7 i (λe he=>(B.mem p hp e he).1) (by rw[pL,hF];exact hi)];by_cases e:i=p
 ·subst e;rw[if_pos rfl,if_neg (λz=>(B.mem i hp _ z).2.2 rfl),yU (by rw[hF];exact hi)]
 ·rw[if_neg e,qF (Ne.symm e)]
theorem rF{i:Nat}{c:Option (List Int)}(hF:F.length=n)(h:F[i]?=some c):i<n:=by rw[<-hF];exact(f9.mp h).1
theorem Ob(B:Bo n k es A)(hF:F.length=n)(hp:p<n){i:Nat}{M:List Int}(h:(settle es A F p x)[i]?=some (some M)):i≠p/\∃L,F[i]?=some (some L)/\M=if (i:Int)∈es p then L.filter (A x) else L:=by
 have hi:i<n:=rF (by rw[zcm];exact hF) h;rw[zc3 B hF hp i hi] at h;by_cases e:i=p
 ·rw[if_pos e] at h;cases h
 ·rw[if_neg e] at h;refine⟨e,?_⟩;by_cases m:(i:Int)∈es p
  ·rw[if_pos m] at h;obtain⟨c,e1,e2⟩:=kZ.mp h;cases c with
   |none=>cases e2
   |some L=>cases e2;exact⟨L,e1,by rw[if_pos m]⟩
  ·rw[if_neg m] at h;exact⟨M,h,by rw[if_neg m]⟩
theorem KH(B:Bo n k es A)(hF:F.length=n)(hp:p<n){i:Nat}{L:List Int}(hi:i≠p)(h:F[i]?=some (some L)):(settle es A F p x)[i]?=some (some (if (i:Int)∈es p then L.filter (A x) else L)):=by
 rw[zc3 B hF hp i (rF hF h),if_neg hi,h]
 split<;>rfl
theorem KJ(B:Bo n k es A)(v:Fv n k F)(hp:p<n):Fv n k (settle es A F p x):=by
 refine⟨by rw[zcm];exact v.len,λi M h=>?_,λi M h=>?_,λi M h=>?_⟩<;>obtain⟨_,L,e,rfl⟩:=Ob B v.len hp h
 ·intro y hy;refine v.lo i L e y ?_;split at hy
  ·exact(mQ.mp hy).1
  ·exact hy
 ·split
  ·exact jO (List.length_filter_le _ _) (v.ll i L e)
  ·exact v.ll i L e
 ·split
  ·exact(v.so i L e).filter _
  ·exact v.so i L e
theorem Oc(B:Bo n k es A)(v:Fv n k F)(hp:p<n){L:List Int}(hL:F[p]?=some (some L))(s:qC es A F g):qC es A (settle es A F p (g p)) g:=by
 refine⟨λi M h=>?_,λi e M N h1 h2 he=>?_⟩
 ·obtain⟨_,L',e,rfl⟩:=Ob B v.len hp h;have:=s.mem i L' e
  split
  ·exact mQ.mpr ⟨this,s.fit p i L L' hL e (by assumption)⟩
  ·exact this
 ·obtain⟨_,L',e1,_⟩:=Ob B v.len hp h1;obtain⟨_,L2,e2,_⟩:=Ob B v.len hp h2;exact s.fit i e L' L2 e1 e2 he
theorem zel(B:Bo n k es A)(v:Fv n k F)(hp:p<n){L:List Int}(hL:F[p]?=some (some L))(hx:x∈L)(s:qC es A (settle es A F p x) g):qC es A F λi=>if i=p then x else g i:=by
 have ap:∀(i:Nat) M,i≠p->F[i]?=some (some M)->(i:Int)∈es p->A x (g i)=true/\(0<=g i/\g i<k):=λi M ni h m=>by
  have h2:=KH (x:=x) B v.len hp ni h;have:=s.mem i _ h2;rw[if_pos m] at this;exact⟨(mQ.mp this).2,v.lo i M h _ (mQ.mp this).1⟩
 have hxk:=v.lo p L hL x hx;refine⟨λi M h=>?_,λi e M N h1 h2 he=>?_⟩
 ·by_cases z:i=p
  ·subst z;rw[if_pos rfl];rw[hL] at h;cases h;exact hx
  ·rw[if_neg z];have:=s.mem i _ (KH (x:=x) B v.len hp z h);split at this
   ·exact(mQ.mp this).1
   ·exact this
 ·have li:=rF v.len h1;have le:=rF v.len h2;by_cases z:i=p
  ·subst z;have ne:e≠i:=λq=>(B.mem i li _ he).2.2 (by rw[q]);rw[if_pos rfl,if_neg ne];exact(ap e N ne h2 he).1
  ·by_cases y:e=p
   ·subst y;rw[if_neg z,if_pos rfl];have m:=B.sym i e li le he;obtain⟨q1,q2⟩:=ap i M z h1 m;rw[B.asy _ _ q2.1 q2.2 hxk.1 hxk.2];exact q1
   ·rw[if_neg z,if_neg y];exact s.fit i e _ _ (KH (x:=x) B v.len hp z h1) (KH (x:=x) B v.len hp y h2) he
theorem Gn(B:Bo n k es A)(v:Fv n k F)(hp:p<n){L:List Int}(hL:F[p]?=some (some L)):Sat es A F↔∃x∈L,Sat es A (settle es A F p x):=
 ⟨λ⟨g,s⟩=>⟨g p,s.mem p L hL,g,Oc B v hp hL s⟩,λ⟨x,hx,g,s⟩=>⟨_,zel B v hp hL hx s⟩⟩
noncomputable def dY(es:Nat->List Int)(F:Fr)(p:Nat):Nat:=((es p).filter λe=>(F[e.toNat]?.join).isSome).length
noncomputable def bnd(es:Nat->List Int)(F:Fr):Fr:=F.mapIdx λi c=>if 0<dY es F i then c else none
theorem zil{i:Nat}:(bnd es F)[i]?=F[i]?.map λc=>if 0<dY es F i then c else none:=by unfold bnd;rw[List.getElem?_mapIdx]
theorem DR{i:Nat}{L:List Int}(h:(bnd es F)[i]?=some (some L)):F[i]?=some (some L)/\0<dY es F i:=by
 rw[zil] at h;obtain⟨c,e1,e2⟩:=kZ.mp h;split at e2
 ·subst e2;exact⟨e1,by assumption⟩
 ·cases e2
theorem ziv(v:Fv n k F):Fv n k (bnd es F):=⟨by unfold bnd;rw[List.length_mapIdx];exact v.len,λi L h=>v.lo i L (DR h).1,λi L h=>v.ll i L (DR h).1,λi L h=>v.so i L (DR h).1⟩
theorem zeA{i e:Nat}{L:List Int}(hm:(e:Int)∈es i)(h:F[e]?=some (some L)):0<dY es F i:=by
 unfold dY;refine Pq (a:=(e:Int)) (mQ.mpr ⟨hm,?_⟩);rw[rK,h];rfl
theorem zjG(B:Bo n k es A)(v:Fv n k F)(ne:∀(i:Nat) L,F[i]?=some (some L)->L≠[]):Sat es A (bnd es F)↔Sat es A F:=by
 constructor
 ·rintro⟨g,s⟩;have to:∀(i:Nat) L,F[i]?=some (some L)->0<dY es F i->(bnd es F)[i]?=some (some L):=λi L h q=>by rw[zil,h];show some (if _ then _ else _)=_;rw[if_pos q]
  refine⟨λi=>if 0<dY es F i then g i else ((F[i]?.join).getD []).headD 0,λi L h=>?_,λi e L M h1 h2 he=>?_⟩
  ·by_cases q:0<dY es F i
   ·rw[if_pos q];exact s.mem i L (to i L h q)
   ·rw[if_neg q,h];show L.headD 0∈L;cases L with
    |nil=>exact absurd rfl (ne i [] h)
    |cons a L=>exact lQ
  ·have q1:=zeA he h2;have q2:=zeA (B.sym i e (rF v.len h1) (rF v.len h2) he) h1;rw[if_pos q1,if_pos q2];exact s.fit i e L M (to i L h1 q1) (to e M h2 q2) he
 ·rintro⟨g,s⟩;exact⟨g,λi L h=>s.mem i L (DR h).1,λi e L M h1 h2 he=>s.fit i e L M (DR h1).1 (DR h2).1 he⟩
theorem U8(h:∀(i:Nat) L,F[i]?≠some (some L)):Sat es A F:=⟨λ_=>0,λi L q=>absurd q (h i L),λi _ L _ q=>absurd q (h i L)⟩
theorem zjR{i:Nat}(h:F[i]?=some (some [])):¬Sat es A F:=λ⟨g,s⟩=>nomatch s.mem i [] h
noncomputable def eN(k:Nat):List Int:=(List.range k).map λ(i:Nat)=>(i:Int)
theorem bU{k:Nat}{y:Int}:y∈eN k↔0<=y/\y<k:=by
 unfold eN;rw[qH]
 constructor
 ·rintro⟨i,hi,rfl⟩;have:=Ay.mp hi;lia
 ·intro h;exact⟨y.toNat,Ay.mpr (by lia),by lia⟩
theorem U9(B:Bo n k es A)(v:Fv n k F)(hp:p<n)(hk:1<=k)(dU:∀t a b:Int,0<=a->a<k->0<=b->b<k->A ((a+t)%k) ((b+t)%k)=A a b)(all:∀(i:Nat) L,F[i]?=some (some L)->L=eN k)(hL:F[p]?=some (some (eN k))):Sat es A F↔Sat es A (settle es A F p 0):=by
 constructor
 ·rintro⟨g,s⟩;have md:∀z:Int,0<=z%(k:Int)/\z%(k:Int)<k:=λz=>⟨Ax _ (by lia),Ek _ (by lia)⟩;have s2:qC es A F λi=>(g i + -(g p))%k:=by
   refine⟨λi L h=>?_,λi e L M h1 h2 he=>?_⟩
   ·rw[all i L h];exact bU.mpr (md _)
   ·have a:=bU.mp (all i L h1▸s.mem i L h1);have b:=bU.mp (all e M h2▸s.mem e M h2);show A ((g i + -(g p))%k) ((g e + -(g p))%k)=true;rw[dU _ _ _ a.1 a.2 b.1 b.2];exact s.fit i e L M h1 h2 he
  have:=Oc B v hp hL s2;have e0:(g p + -(g p))%(k:Int)=0:=by rw[Int.add_right_neg];rfl
  simp only[e0] at this;exact⟨_,this⟩
 ·intro h;exact(Gn B v hp hL).mpr ⟨0,bU.mpr ⟨by lia,by lia⟩,h⟩
noncomputable def unset(F:Fr):Nat:=F.countP Option.isSome
theorem zc5:unset (bnd es F)<=unset F:=by
 unfold unset bnd;generalize dY es F=f
 induction F generalizing f with
 |nil=>simp
 |cons c F ih=>
  rw[List.mapIdx_cons,Ep,Ep];have:=ih (λi=>f (i+1));have e:(if (if 0<f 0 then c else none).isSome=true then 1 else 0)<=(if c.isSome=true then 1 else 0):=by
   split<;>split<;>simp_all
  lia
theorem zgN{F:Fr}:∀{p:Nat} {L:List Int},F[p]?=some (some L)->unset (F.set p none)+1=unset F:=by
 unfold unset
 induction F with
 |nil=>intro p L h;simp at h
 |cons c F ih=>
  intro p L h;cases p with
  |zero=>simp at h;subst h;simp
  |succ p=>
   have:=ih (p:=p) (L:=L) (by simpa using h);rw[List.set_cons_succ,Ep,Ep]
   lia
theorem zgp{f:Int->Bool}{F:Fr}{e:Int}:unset (gK f F e)<=unset F:=by
 unfold unset gK;generalize e.toNat=j
 induction F generalizing j with
 |nil=>simp
 |cons c F ih=>
  cases j with
  |zero=>cases c<;>simp
  |succ j=>
   rw[List.set_cons_succ,Ep,Ep,Am];have:=ih j
   lia
theorem zci{f:Int->Bool}:∀{l:List Int} {F:Fr},unset (l.foldl (gK f) F)<=unset F
 |[],F=>cD _
 |e::l,F=>jO (zci (l:=l)) zgp
theorem KN{L:List Int}(h:F[p]?=some (some L)):unset (settle es A F p x)+1<=unset F:=by
 have:=zci (f:=A x) (l:=es p) (F:=F.set p none);have:=zgN h;unfold settle
 lia
theorem zfl(h:unset F=0)(i:Nat)(L:List Int):F[i]?≠some (some L):=λe=>by
 have:=List.countP_eq_zero.mp h _ (gU e);exact this rfl
def lO(es:Nat->List Int)(A:Int->Int->Bool)(kvs:iW):Prop:=∀F d,cI (F.map cellK) kvs=some d->∃b,d=.bl b/\(b=true↔Sat es A F)
theorem zeF{j q:List Kx}{d:D}:∀{kvs:iW},cI j (jG q d kvs)=if j=q then some d else cI j kvs:=by
 intro kvs;unfold jG;have app:∀{r:iW},cI j (r++[(q,d)])=match cI j r with|some e=>some e|none=>if j=q then some d else none:=λ{r}=>by
  induction r with
  |nil=>
   show (if q=j then some d else none)=if j=q then some d else none
   by_cases e:q=j
   ·rw[if_pos e,if_pos e.symm]
   ·rw[if_neg e,if_neg λz=>e z.symm]
  |cons p r ih=>
   rw[List.cons_append];unfold cI;by_cases e:p.1=j
   ·simp[e]
   ·simp only[e,nY];exact ih
 by_cases h:(cI q kvs).isSome=true
 ·rw[if_pos h];by_cases e:j=q
  ·subst e;rw[if_pos rfl]
   induction kvs with
   |nil=>simp[cI] at h
   |cons p r ih=>
    rw[jo];by_cases z:p.1=j
    ·rw[if_pos z];unfold cI;rw[if_pos z]
    ·rw[if_neg z];unfold cI at h ⊢;rw[if_neg z] at h ⊢;exact ih h
  ·rw[if_neg e];clear h
   induction kvs with
   |nil=>rfl
   |cons p r ih=>
    rw[jo];by_cases z:p.1=q
    ·rw[if_pos z];unfold cI;rw[if_neg (λy=>e (y.symm.trans z)),if_neg (λy=>e (y.symm.trans z))];exact ih
    ·rw[if_neg z];unfold cI;by_cases y:p.1=j
     ·rw[if_pos y,if_pos y]
     ·rw[if_neg y,if_neg y];exact ih
 ·rw[if_neg h,app];by_cases e:j=q
  ·subst e;have:cI j kvs=none:=by simpa using h
   simp[this]
  ·rw[if_neg e,if_neg e];cases cI j kvs<;>rfl
theorem zhR{q:List Kx}{d:D}{kvs:iW}:(jG q d kvs).length<=kvs.length+1:=by
 unfold jG
 split
 ·rw[eY];lia
 ·simp
theorem zi0{kvs:iW}{b:Bool}(h:lO es A kvs)(hb:b=true↔Sat es A F):lO es A (jG (F.map cellK) (.bl b) kvs):=λG d e=>by
 rw[zeF] at e;by_cases z:G.map cellK=F.map cellK
 ·rw[if_pos z] at e;cases e;rw[zf6 z];exact⟨b,rfl,hb⟩
 ·rw[if_neg z] at e;exact h G d e
end
noncomputable def cnt(k:Nat):Nat->Nat
 |0=>1
 |m+1=>1+k*cnt k m
section
variable {aq:Nat->Nat->Bool}{aj:Bool}{F:Fn}{J:Vs}{s:S}{P:Xv->S->Prop}
theorem W.sO{c:Nat}{fs:List D}{P:List D->S->Prop}(h:P fs s):W (Mi.sO c (.d (.ob c fs))) s P:=by
 show W (if c=c then M.ret fs else M.no) s P;rw[if_pos rfl];exact W.ret h
theorem W.cm{c f:Nat}{o:E}{xs:Es}{fs:List D}{vs:List Xv}(h1:dR aq o J=some (.d (.ob c fs)))(h2:o8 aq xs J=some vs)(k:W (b_ (F f) (.d (.ob c fs)::vs)) s P):W (ev aq aj F (.cm c f o xs) J) s P:=
 W.bd (W.eq (g_ o _ h1) (W.bd (W.sO (W.bd (W.eq (jT xs h2) (W.qt k))))))
theorem W.qg(h:P (.l s.length) (s++[.dct []])):W (ev aq aj F .qg J) s P:=⟨_,_,rfl,h⟩
theorem W.key{x:D}{kx:List Kx}{P:List Kx->S->Prop}(e:kOf x=some kx)(h:P kx s):W (Mi.key (.d x)) s P:=W.opt e h
theorem W.gD{n:Nat}{kvs:iW}{P:Nat×iW->S->Prop}(e:s[n]?=some (.dct kvs))(h:P (n,kvs) s):W (Mi.gD (.l n)) s P:=⟨_,s,by unfold Mi.gD;simp only[e],h⟩
theorem W.zK{b:Bool}{k d:E}{x:D}{n:Nat}{kx:List Kx}{kvs:iW}(h1:dR aq k J=some (.d x))(h2:dR aq d J=some (.l n))(e:kOf x=some kx)(hn:s[n]?=some (.dct kvs))(h:P (.d (.bl ((cI kx kvs).isSome==b))) s):W (ev aq aj F (.zK b k d) J) s P:=
 W.bd (W.eq (g_ k _ h1) (W.bd (W.eq (g_ d _ h2) (W.bd (W.key e (W.bd (W.gD hn (W.ret h))))))))
theorem W.oN{d k:E}{x v:D}{n:Nat}{kx:List Kx}{kvs:iW}(h1:dR aq d J=some (.l n))(h2:dR aq k J=some (.d x))(e:kOf x=some kx)(hn:s[n]?=some (.dct kvs))(hv:cI kx kvs=some v)(h:P (.d v) s):W (ev aq aj F (.oN d k) J) s P:=
 W.bd (W.eq (g_ d _ h1) (W.bd (W.eq (g_ k _ h2) (W.bd (W.key e (W.bd (W.gD hn (W.opt (a:=.d v) (by show Option.map _ (cI kx kvs)=_;rw[hv];rfl) h))))))))
theorem W.Cq{a:E}(h:W (ev aq aj F a J) s λx s1=>W (rd x) s1 λd s2=>∃b,xX d=some b/\P (.d (.bl b)) s2):W (ev aq aj F (.Cq a) J) s P:=
 W.bd (h.imp λ_ _ h=>W.bd (h.imp λ_ _ ⟨_,e,h⟩=>W.bd (W.opt e (W.ret h))))
theorem KaJ{xs:List D}{P:Src×Nat->S->Prop}(h:P (.fix (enumFrom 0 xs),(enumFrom 0 xs).length) s):W (oU (.d (.tup xs))) s P:=⟨_,s,rfl,h⟩
theorem W.mk{c f:Nat}{xs:Es}{vs:List Xv}{ds:List D}(h:W (evs aq aj F xs J) s λus s1=>us=vs/\P (.d (.ob c ds)) s1)(hl:locs vs=[])(k:W (F f (.d .any::vs)) [] λv _=>v=.d (.tup ds)):W (ev aq aj F (.mk c f xs) J) s P:=by
 refine W.bd (h.imp λus s1 ⟨e,hp⟩=>?_);subst e;obtain⟨v,s2,e1,rfl⟩:=k;refine⟨_,s1,?_,hp⟩;unfold zQ;rw[if_pos hl];simp only[e1]
end
theorem WS.dput{aq:Nat->Nat->Bool}{aj:Bool}{F:Bool->Fn}{J:Vs}{s:S}{Q:Out->S->Prop}{d k v:E}{x:D}{n:Nat}{kx:List Kx}(h1:dR aq d J=some (.l n))(h2:dR aq k J=some (.d x))(e:kOf x=some kx)
  (h:W (ev aq aj (F aj) v J) s λz s1=>∃w kvs,z=.d w/\s1[n]?=some (.dct kvs)/\kvs.length<sizeLine/\Q (.nx J) (s1.set n (.dct (jG kx w kvs)))):WS (ex aq aj F (.dput d k v) J) s Q:=by
 refine WS.ofM (W.bd (h.imp λz s1 ⟨w,kvs,ez,hn,hl,q⟩=>?_));subst ez;refine W.bd (W.dat (W.bd (W.eq (g_ d _ h1) (W.bd (W.eq (g_ k _ h2) (W.bd (W.key e (W.bd (W.gD hn ?_)))))))));rw[if_pos hl];exact⟨_,_,rfl,WS.nx q⟩
theorem zby{α:Type}{f:α->D}:∀(l:List α) (j:Nat),enumFrom j (l.map f)=(l.zipIdx j).map λp=>.tup [.int p.2,f p.1]
 |[],j=>rfl
 |a::l,j=>by rw[jo,List.zipIdx_cons,jo,<-zby l (j+1)];rfl
theorem KaU{o:Option Rz}{xs:List D}{s:S}{P:Xv->S->Prop}(e:o=some (.nw xs))(h:P (.l s.length) (s++[.lst xs])):W (cL false o) s P:=by subst e;exact⟨_,_,rfl,h⟩
theorem zif{n:Nat}{j:Int}(h0:0<=j)(h:j<n):L2.sy n j=some j.toNat:=by
 unfold L2.sy;rw[if_pos h0,if_pos h]
theorem zjN{n:Nat}{j:Int}(h0:j<0)(h : -(n:Int)<=j):L2.sy n j=some (j+n).toNat:=by
 unfold L2.sy;rw[if_neg (by lia),if_pos h]
theorem znC{xs:List D}{j:Int}{x:D}(h0:j<0)(h1 : -(xs.length:Int)<=j)(h:xs[(j+xs.length).toNat]?=some x):prim .ix [.fl xs,.int j]=some (.dat x):=by
 show Option.map Rz.dat (L2.qO xs j)=_;have:L2.qO xs j=some x:=by
  unfold L2.qO;rw[zjN h0 h1];exact h
 rw[this];rfl
theorem zg4(F:Fr):memD (.tup []) (F.map bM)=some (decide (some []∈F)):=by
 induction F with
 |nil=>rfl
 |cons c F ih=>
  simp only[jo,memD,ih];cases c with
  |none=>simp[bM,dM,kq]
  |some l=>
   cases l with
   |nil=>
    have:dM 50 (bM (some [])) (.tup [])=some true:=rfl;rw[this];simp
   |cons a l=>
    have:dM 50 (bM (some (a::l))) (.tup [])=some false:=rfl;rw[this];simp
theorem znE{f:Bool->Bool}{F:Fr}:Cw f [.tup [],jA F]=some (.dat (.bl (f (decide (some []∈F))))):=by
 show Option.map _ (memD (.tup []) (F.map bM))=_;rw[zg4];rfl
theorem zgI{k':Nat}:∀(a b:List Int),dZ (dM k') (a.map D.int) (b.map D.int)=some (decide (a=b))
 |[],[]=>by simp[dZ]
 |[],_::_=>by simp[dZ]
 |_::_,[]=>by simp[dZ]
 |x::a,y::b=>by
  have hi:dM k' (.int x) (.int y)=some (x==y):=by cases k'<;>rfl
  simp only[jo,dZ,zgI a b,hi]
  congr 1
  by_cases e:x=y<;>by_cases e2:a=b<;>simp[e,e2]
theorem zmR{f:Bool->Bool}{a b:List Int}:Cv f [.tup (a.map .int),.tup (b.map .int)]=some (.dat (.bl (f (decide (a=b))))):=by
 show Option.map _ (dZ (dM 49) (a.map D.int) (b.map D.int))=_;rw[zgI];rfl
theorem zdp:∀rs:List (List Int),j8 (rs.map λr=>D.tup (r.map .int))=some rs
 |[]=>rfl
 |r::rs=>by simp only[jo,j8,UW,zdp rs]
theorem U_:∀(rs:List (List Int)) (b:List Int),gC b rs=b\/gC b rs∈rs
 |[],b=>.inl rfl
 |x::r,b=>by
  unfold gC
  split
  ·rcases U_ r x with h|h
   ·rw[h];exact .inr lQ
   ·exact .inr (iG _ h)
  ·rcases U_ r b with h|h
   ·exact .inl h
   ·exact .inr (iG _ h)
theorem zkK{rs:List (List Int)}(h:rs≠[]):∃r∈rs,prim .sG [.fl (rs.map λr=>D.tup (r.map .int))]=some (.dat (.tup (r.map .int))):=by
 cases rs with
 |nil=>exact absurd rfl h
 |cons x r=>
  refine⟨gC x r,?_,?_⟩
  ·rcases U_ r x with h|h
   ·rw[h];exact lQ
   ·exact iG _ h
  ·show oR [.fl ((x::r).map λr=>D.tup (r.map .int))]=_;unfold oR;simp only[zdp]
theorem znq{n:Nat}(h:n<=65536):prim .Cj [.int n]=some (.dat (.tup ((eN n).map .int))):=by
 show (if okR 0 (n:Int)=true then some (Rz.dat (.tup (Jg 0 ((n:Int)-0).toNat))) else none)=_;rw[if_pos (show okR 0 (n:Int)=true from mR (by lia))];unfold Jg eN;rw[G4,show ((n:Int)-0).toNat=n by lia]
 congr 4
 funext i
 simp
noncomputable def DW(n:Nat)(es:Nat->List Int):List D:=(List.range n).map λi=>.tup ((es i).map .int)
noncomputable def wF(k:Nat)(A:Int->Int->Bool):List D:=(List.range k).map λ(a:Nat)=>.fl ((List.range k).map λ(b:Nat)=>.bl (A a b))
noncomputable def jB(al:Bool)(n k:Nat)(es:Nat->List Int)(A:Int->Int->Bool):D:=.ob 0 [.fl (DW n es),.tup ((eN k).map .int),.fl (wF k A),.bl al]
noncomputable abbrev boD(n k:Nat)(es:Nat->List Int)(A:Int->Int->Bool):D:=jB true n k es A
theorem zkD{n:Nat}{es:Nat->List Int}{i:Nat}(h:i<n):(DW n es)[i]?=some (.tup ((es i).map .int)):=by
 unfold DW;rw[jN,Gy h];rfl
theorem znQ{k:Nat}{A:Int->Int->Bool}{a:Int}(h0:0<=a)(h:a<k):(wF k A)[a.toNat]?=some (.fl ((List.range k).map λ(b:Nat)=>.bl (A a b))):=by
 unfold wF;rw[jN,Gy (by lia)];have:((a.toNat:Nat):Int)=a:=by lia
 simp[this]
theorem Va{k:Nat}{f:Int->Bool}{b:Int}(h0:0<=b)(h:b<k):((List.range k).map λ(b:Nat)=>D.bl (f b))[b.toNat]?=some (.bl (f b)):=by
 rw[jN,Gy (by lia)];have:((b.toNat:Nat):Int)=b:=by lia
 simp[this]
theorem KQ{F:Fr}{i:Nat}{c:Option (List Int)}(h:F[i]?=some c):(F.map bM)[i]?=some (bM c):=by rw[jN,h];rfl
theorem zji{f:Int->Bool}{F:Fr}{e:Int}:(gK f F e).map bM=(F.map bM).set e.toNat (bM ((F[e.toNat]?.join).map (·.filter f))):=by
 unfold gK;rw[List.map_set]
theorem zhF{f:Int->Bool}{F:Fr}{e:Int}(h:F[e.toNat]?=some none):gK f F e=F:=by
 unfold gK;rw[h];obtain⟨hl,e2⟩:=f9.mp h;show F.set e.toNat none=F;rw[<-e2,List.set_getElem_self]
theorem zdy{α:Type}{p:Int->Bool}(l:List Int):l.filterMap (λy=>if p y=true then some (D.int y) else none)=(l.filter p).map .int:=by
 induction l with
 |nil=>rfl
 |cons a l ih=>
  rw[Ed,List.filter_cons];by_cases q:p a=true
  ·simp[q,ih]
  ·simp[q,ih]
noncomputable def tot(k:Nat):Nat->Nat
 |0=>0
 |m+1=>k*cnt k m+tot k m
theorem zit{k:Nat}{L:List Int}(h:L.Pairwise (·<·))(hb:∀x∈L,0<=x/\x<k):L.length<=k:=by
 have key:∀(L:List Int) (a:Int),L.Pairwise (·<·)->(∀x∈L,a<=x/\x<k)->a<=k->(L.length:Int)<=k-a:=by
  intro L
  induction L with
  |nil=>intro a _ _ ha;simp;lia
  |cons x r ih=>
   intro a h hb ha;rw[GF] at h;have hx:=hb x (by simp);have:=ih (x+1) h.2 (λy hy=>by have:=h.1 y hy;have:=hb y (by simp[hy]);lia) (by lia);rw[h_]
   lia
 have:=key L 0 h hb (by lia)
 lia
noncomputable def dz(k d:Int)(a b:Int):Bool:=decide (d<=kJ k a b)
section
variable {n k d:Int}{ps:List (Int×Int)}{ls:List Int}
theorem zfM(hd:1<=d){a b:Int}:dz k d a b=dz k d b a:=by
 unfold dz;rw[wL,Gi hd,Gi hd]
 lia
theorem Od(hd:1<=d)(t a b:Int)(a0:0<=a)(ak:a<k)(b0:0<=b)(bk:b<k):dz k d ((a+t)%k) ((b+t)%k)=dz k d a b:=by
 unfold dz;rw[wL,Gi hd,Gi hd];have e1:=Py (a+t) k;have e2:=Py (b+t) k;have u0:=Ax (a+t) (b:=k) (by lia);have w0:=Ax (b+t) (b:=k) (by lia);have uk:=Ek (a+t) (b:=k) (by lia);have wk:=Ek (b+t) (b:=k) (by lia);generalize (a+t)%k=u at *;generalize (b+t)%k=w at *;generalize (a+t)/k=q1 at *;generalize (b+t)/k=q2 at *;have e3:k*(q1-q2)=(a-b)-(u-w):=by rw[Int.mul_sub];lia
 have c:q1-q2 = -1\/q1-q2=0\/q1-q2=1:=by
  have h1:q1-q2<2:=Int.not_le.mp λz=>by
   have:=Int.mul_le_mul_of_nonneg_left z (show 0<=k by lia)
   lia
  have h2 : -2<q1-q2:=Int.not_le.mp λz=>by
   have:=Int.mul_le_mul_of_nonneg_left z (show 0<=k by lia)
   lia
  lia
 rcases c with c|c|c<;>rw[c] at e3<;>lia
theorem KR(w:Web n ps){i e:Int}:e∈bT i ps↔(i,e)∈ps\/(e,i)∈ps:=by
 unfold bT;rw[GC]
 constructor
 ·rintro⟨p,hp,h⟩;obtain⟨a,b⟩:=p;unfold endOf at h;dsimp only at h;split at h
  ·cases h;subst_vars;exact .inl hp
  ·split at h
   ·cases h;subst_vars;exact .inr hp
   ·cases h
 ·rintro(hp|hp)
  ·exact⟨_,hp,by simp[endOf]⟩
  ·have:=w.tie _ hp;dsimp only at this;exact⟨_,hp,by unfold endOf;dsimp only;rw[if_neg (by lia),if_pos rfl]⟩
theorem zkJ(w:Web n ps)(hd:1<=d)(hk:k<=24):Bo n.toNat k.toNat (λi=>bT i ps) (dz k d) where
 hn:=by have:=w.h8;lia
 hk:=by lia
 mem:=λi hi e he=>by
  have:=zes w he;refine⟨this.1,by lia,λz=>?_⟩;subst z;rcases(KR w).mp he with h|h<;>have:=w.tie _ h<;>dsimp only at this<;>lia
 sym:=λi e _ _ he=>(KR w).mpr ((KR w).mp he).symm
 len:=λi hi=>by
  have:=zit (k:=n.toNat) (zeX w i) (λx hx=>by have:=zes w hx;have:=w.h1;lia);have:=w.h8
  lia
 asy:=λa b _ _ _ _=>zfM hd
noncomputable def jm(n k:Int):Fr:=List.replicate n.toNat (some (eN k.toNat))
theorem KY{i:Nat}{L:List Int}(h:(jm n k)[i]?=some (some L)):i<n.toNat/\L=eN k.toNat:=by
 unfold jm at h;rw[Al] at h;split at h
 ·cases h;exact⟨by assumption,rfl⟩
 ·cases h
theorem Oe{i:Nat}(h:i<n.toNat):(jm n k)[i]?=some (some (eN k.toNat)):=by
 unfold jm;rw[Al,if_pos h]
theorem Og(hk:k<=24):Fv n.toNat k.toNat (jm n k) where
 len:=by unfold jm;simp
 lo:=λi L h x hx=>by rw[(KY h).2] at hx;exact bU.mp hx
 ll:=λi L h=>by rw[(KY h).2];unfold eN;simp;lia
 so:=λi L h=>by
  rw[(KY h).2];unfold eN;rw[P0];exact List.pairwise_lt_range.imp (by intro a b h;lia)
theorem zev(w:Web n ps)(hd:1<=d){hs:List Int}(h:jL n k d ps hs):qC (λi=>bT i ps) (dz k d) (jm n k) λj=>at' hs j where
 mem:=λi L e=>by
  obtain⟨h1,rfl⟩:=KY e;have:=h.len;have:=h.lo _ (Kl (fs:=hs) (j:=i) (by lia) (by lia));exact bU.mpr (by lia)
 fit:=λi e L M _ _ he=>by
  rcases(KR w).mp he with q|q
  ·have:=h.fit _ q;show dz k d (at' hs i) (at' hs e)=true;unfold dz;rw[PK];exact this
  ·have:=h.fit _ q;rw[zfM hd];show dz k d (at' hs e) (at' hs i)=true;unfold dz;rw[PK];exact this
theorem zhT(w:Web n ps){hs:List Int}(hl:hs.length=n.toNat)(s:qC (λi=>bT i ps) (dz k d) (jm n k) λj=>at' hs j):jL n k d ps hs where
 len:=by have:=w.h1;lia
 lo:=λx hx=>by
  obtain⟨j,hj,e⟩:=yW hx;have:=s.mem j _ (Oe (by lia));have e2:at' hs (j:Int)=x:=by
   unfold at';rw[rK,lE,eU hj,e];rfl
  rw[e2] at this;have:=bU.mp this
  lia
 fit:=λp hp=>by
  have ht:=w.tie p hp;obtain⟨a,b⟩:=p;dsimp only at ht;obtain⟨i,rfl⟩:=Lf ht.1;obtain⟨e,rfl⟩:=Lf (show 0<=b by lia);have:=s.fit i e _ _ (Oe (by lia)) (Oe (by lia)) ((KR w).mpr (.inl hp));unfold dz at this;rw[PK] at this;exact this
end
theorem zd8{k k2 m m2:Nat}(hk:k<=k2)(hm:m<=m2):cnt k m<=cnt k2 m2:=by
 have h1:∀m,cnt k m<=cnt k2 m:=by
  intro m
  induction m with
  |zero=>exact cD _
  |succ m ih=>exact Nat.add_le_add_left (Nat.mul_le_mul hk ih) 1
 have h3:∀m,1<=cnt k2 m:=λm=>by cases m<;>unfold cnt<;>lia
 by_cases c:k2=0
 ·subst c;have:k=0:=by lia
  subst this;cases m<;>cases m2<;>simp[cnt]
 ·have h2:∀j,cnt k2 m<=cnt k2 (m+j):=by
   intro j
   induction j with
   |zero=>exact cD _
   |succ j ih=>
    have:1*cnt k2 (m+j)<=k2*cnt k2 (m+j):=Lj _ (by lia);show _<=1+k2*cnt k2 (m+j)
    lia
  have:=h2 (m2-m);rw[show m+(m2-m)=m2 by lia] at this;exact jO (h1 m) this
theorem zhC{k k2 m m2:Nat}(hk:k<=k2)(hm:m<=m2):tot k m<=tot k2 m2:=by
 have h1:∀m,tot k m<=tot k2 m:=by
  intro m
  induction m with
  |zero=>exact cD _
  |succ m ih=>exact Nat.add_le_add (Nat.mul_le_mul hk (zd8 hk (cD _))) ih
 have h2:∀j,tot k2 m<=tot k2 (m+j):=by
  intro j
  induction j with
  |zero=>exact cD _
  |succ j ih=>show _<=k2*cnt k2 (m+j)+tot k2 (m+j);lia
 have:=h2 (m2-m);rw[show m+(m2-m)=m2 by lia] at this;exact jO (h1 m) this
section
variable {n m:Int}{ps:List (Int×Int)}{r h:List Int}{x y:Int}
end
theorem Vb(a b k:Int):(a%k+b)%k=(a+b)%k:=by
 have e:=Py a k;have:a%k+b=(a+b)+k*(-(a/k)):=by rw[Int.mul_neg];lia
 rw[this,Int.add_mul_emod_self_left]
theorem Oh{a k:Int}(h0:0<=a)(h:a<k):a%k=a:=Int.emod_eq_of_lt h0 h
theorem Vc{a k:Int}(h:0<k):0<=a%k/\a%k<k:=⟨Ax _ (by lia),Ek _ h⟩
noncomputable def bB(k m:Int)(hs:List Int):List Int:=hs.map λx=>(x+m)%k
section
variable {n k d m:Int}{ps:List (Int×Int)}{hs:List Int}
theorem zgm(w:Web n ps)(hd:1<=d)(hk:1<=k)(h:jL n k d ps hs):jL n k d ps (bB k m hs) where
 len:=by unfold bB;rw[eY];exact h.len
 lo:=λx hx=>by
  obtain⟨y,_,rfl⟩:=qH.mp hx;exact Vc (by lia)
 fit:=λp hp=>by
  have ht:=w.tie p hp;have hl:=h.len;have a:=h.lo _ (Kl (fs:=hs) (j:=p.1) (by lia) (by lia));have b:=h.lo _ (Kl (fs:=hs) (j:=p.2) (by lia) (by lia));unfold bB;rw[Km (by lia) (by lia),Km (by lia) (by lia)];have:=Od (k:=k) hd m _ _ a.1 a.2 b.1 b.2;unfold dz at this;rw[wL] at this;exact this.mpr (h.fit p hp)
end
section
variable {n k d q:Int}{ps qs:List (Int×Int)}{hs:List Int}
end
section
variable {n k d:Int}{ps:List (Int×Int)}{ks:List (Option Int)}{r:List Int}{x y:Int}
end
section
variable {n k d:Int}{ps:List (Int×Int)}
noncomputable def yJ(k d:Int)(ps:List (Int×Int))(r:List Int)(x:Int):Bool:=ps.all λp=>decide (p.2=(r.length:Int)->d<=kJ k (at' r p.1) x)
noncomputable def nextR(k d:Int)(ps:List (Int×Int))(r:List Int):List (List Int):=((eN k.toNat).filter (yJ k d ps r)).map λx=>r++[x]
noncomputable def grow(k d:Int)(ps:List (Int×Int))(rows:List (List Int)):List (List Int):=rows.flatMap (nextR k d ps)
noncomputable def grows(k d:Int)(ps:List (Int×Int))(rows:List (List Int)):Nat->List (List Int)
 |0=>rows
 |i+1=>grow k d ps (grows k d ps rows i)
theorem o9{rows:List (List Int)}{h:List Int}:h∈grow k d ps rows↔∃r∈rows,∃x:Int,(0<=x/\x<(k.toNat:Nat))/\yJ k d ps r x=true/\h=r++[x]:=by
 unfold grow nextR;rw[List.mem_flatMap]
 constructor
 ·rintro⟨r,hr,hh⟩;obtain⟨x,hx,rfl⟩:=qH.mp hh;obtain⟨h1,h2⟩:=mQ.mp hx;exact⟨r,hr,x,bU.mp h1,h2,rfl⟩
 ·rintro⟨r,hr,x,h1,h2,rfl⟩;exact⟨r,hr,qH.mpr ⟨x,mQ.mpr ⟨bU.mpr h1,h2⟩,rfl⟩⟩
structure Pre(k d:Int)(ps:List (Int×Int))(i:Nat)(r:List Int):Prop where
 len:r.length=i
 lo:∀x∈r,0<=x/\x<k
 fit:∀p∈ps,p.2<i->d<=kJ k (at' r p.1) (at' r p.2)
theorem zh2(w:Web n ps)(hk:1<=k){i:Nat}{rows:List (List Int)}(P:List Int->Prop)(hP:∀r x,i≠0->r.length=i->(P (r++[x])↔P r))(h0:i≠0)(h:∀r,r∈rows↔Pre k d ps i r/\P r):∀r,r∈grow k d ps rows↔Pre k d ps (i+1) r/\P r:=by
 intro g;rw[o9]
 constructor
 ·rintro⟨r,hr,x,hx,ok,rfl⟩;obtain⟨hp,hq⟩:=(h r).mp hr;have hl:=hp.len;refine⟨⟨by simp[hl],λy hy=>?_,λp tD v8=>?_⟩,(hP r x h0 hl).mpr hq⟩
  ·rcases nJ.mp hy with hy|hy
   ·exact hp.lo y hy
   ·have:y=x:=rJ.mp hy
    lia
  ·have ht:=w.tie p tD;by_cases c:p.2<i
   ·rw[Ag (by lia) (by lia),Ag (by lia) (by lia)];exact hp.fit p tD c
   ·have e:p.2=(r.length:Int):=by lia
    have:=jU (iu.mp ok p tD) e;rw[e,Us,Ag (by lia) (by lia)];exact this
 ·rintro⟨hp,hq⟩;have hl:=hp.len;have tR:g≠[]:=λe=>by rw[e] at hl;simp at hl
  obtain⟨r,x,rfl⟩ : ∃r x,g=r++[x]:=⟨g.dropLast,g.getLast tR,(List.dropLast_concat_getLast tR).symm⟩;have hrl:r.length=i:=by simpa using hl
  have hx:=hp.lo x (by simp);refine⟨r,(h r).mpr ⟨⟨hrl,λy hy=>hp.lo y (by simp[hy]),λp tD v8=>?_⟩,(hP r x h0 hrl).mp hq⟩,x,by lia,iu.mpr λp tD=>mR λe=>?_,rfl⟩
  ·have ht:=w.tie p tD;have:=hp.fit p tD (by lia)
   rwa [Ag (by lia) (by lia),Ag (by lia) (by lia)] at this
  ·have ht:=w.tie p tD;have:=hp.fit p tD (by lia)
   rwa [e,Us,Ag (by lia) (by lia)] at this
theorem ze0(w:Web n ps):grow k d ps [[]]=(eN k.toNat).map λx=>[x]:=by
 unfold grow nextR;rw[P_,List.flatMap_nil,wM];have:(eN k.toNat).filter (yJ k d ps [])=eN k.toNat:=by
  refine List.filter_eq_self.mpr λx _=>iu.mpr λp hp=>mR λe=>?_;have:=w.tie p hp;simp at e
  lia
 rw[this];rfl
theorem zfG(w:Web n ps)(hd:1<=d){r:List Int}(hr:∀x∈r,0<=x/\x<k)(t x:Int)(hx:0<=x/\x<k):yJ k d ps (bB k t r) ((x+t)%k)=yJ k d ps r x:=by
 unfold yJ;rw[Bool.eq_iff_iff,iu,iu];have key:∀p∈ps,(p.2=((bB k t r).length:Int)->d<=kJ k (at' (bB k t r) p.1) ((x+t)%k))↔(p.2=(r.length:Int)->d<=kJ k (at' r p.1) x):=λp hp=>by
  have ht:=w.tie p hp;have el:(bB k t r).length=r.length:=by unfold bB;rw[eY]
  rw[el]
  constructor
  ·intro h e;have:=h e;unfold bB at this;rw[Km (by lia) (by lia)] at this;have a:=hr _ (Kl (fs:=r) (j:=p.1) (by lia) (by lia));have f:=Od (k:=k) hd t _ _ a.1 a.2 hx.1 hx.2;unfold dz at f;rw[wL] at f;exact f.mp this
  ·intro h e;have:=h e;unfold bB;rw[Km (by lia) (by lia)];have a:=hr _ (Kl (fs:=r) (j:=p.1) (by lia) (by lia));have f:=Od (k:=k) hd t _ _ a.1 a.2 hx.1 hx.2;unfold dz at f;rw[wL] at f;exact f.mpr this
 constructor
 ·intro h p hp;exact mR ((key p hp).mp (jU (h p hp)))
 ·intro h p hp;exact mR ((key p hp).mpr (jU (h p hp)))
theorem o_{k:Nat}:(eN k).Nodup:=by
 unfold eN;exact P0.mpr (List.nodup_range.imp λh e=>h (by lia))
theorem zgl(w:Web n ps)(hd:1<=d)(hk:1<=k){r:List Int}(hr:∀x∈r,0<=x/\x<k)(t:Int):((nextR k d ps r).map (bB k t)).Perm (nextR k d ps (bB k t r)):=by
 unfold nextR;have e1:(((eN k.toNat).filter (yJ k d ps r)).map λx=>r++[x]).map (bB k t)=((((eN k.toNat).filter (yJ k d ps r)).map λx=>(x+t)%k).map λx=>bB k t r++[x]):=by
  rw[G4,G4];refine List.map_congr_left λx _=>?_;show bB k t (r++[x])=bB k t r++[(x+t)%k];unfold bB;rw[Er];rfl
 rw[e1];refine List.Perm.map _ ?_;have inj:∀a b:Int,0<=a->a<k->0<=b->b<k->(a+t)%k=(b+t)%k->a=b:=λa b a0 a1 b0 b1 e=>by
  have h1:((a+t)%k + -t)%k=a:=by rw[Vb,show a+t + -t=a by lia,Oh a0 a1]
  have h2:((b+t)%k + -t)%k=b:=by rw[Vb,show b+t + -t=b by lia,Oh b0 b1]
  rw[<-h1,<-h2,e]
 refine(List.perm_ext_iff_of_nodup ?_ (o_.filter _)).mpr λy=>?_
 ·refine P0.mpr (List.Pairwise.imp_of_mem (λ{a b} ha hb h e=>?_) (o_.filter (yJ k d ps r)));have a1:=bU.mp (mQ.mp ha).1;have b1:=bU.mp (mQ.mp hb).1;exact h (inj a b (by lia) (by lia) (by lia) (by lia) e)
 ·constructor
  ·intro hy;obtain⟨x,hx,rfl⟩:=qH.mp hy;obtain⟨h1,h2⟩:=mQ.mp hx;have h1:=bU.mp h1;have:=Vc (a:=x+t) (k:=k) (by lia);exact mQ.mpr ⟨bU.mpr (by lia),by rw[zfG w hd hr t x (by lia)];exact h2⟩
  ·intro hy;obtain⟨h1,h2⟩:=mQ.mp hy;have h1:=bU.mp h1;have hm:=Vc (a:=y + -t) (k:=k) (by lia);have ey:((y + -t)%k+t)%k=y:=by rw[Vb,show y + -t+t=y by lia,Oh (by lia) (by lia)]
   refine qH.mpr ⟨(y + -t)%k,mQ.mpr ⟨bU.mpr (by lia),?_⟩,ey⟩;rw[<-zfG w hd hr t _ hm,ey];exact h2
theorem zjX(hk:1<=k){rows:List (List Int)}(h:∀r∈rows,∀x∈r,0<=x/\x<k):∀r∈grow k d ps rows,∀x∈r,0<=x/\x<k:=λr hr x hx=>by
 obtain⟨q,hq,y,hy,_,rfl⟩:=o9.mp hr;rcases nJ.mp hx with hx|hx
 ·exact h q hq x hx
 ·have:x=y:=rJ.mp hx
  lia
theorem zc8(w:Web n ps)(hd:1<=d)(hk:1<=k)(t:Int):∀{rows:List (List Int)},(∀r∈rows,∀x∈r,0<=x/\x<k)->((grow k d ps rows).map (bB k t)).Perm (grow k d ps (rows.map (bB k t)))
 |[],_=>List.Perm.refl _
 |r::rows,h=>by
  have e1:grow k d ps (r::rows)=nextR k d ps r++grow k d ps rows:=by unfold grow;rw[P_]
  have e2:grow k d ps ((r::rows).map (bB k t))=nextR k d ps (bB k t r)++grow k d ps (rows.map (bB k t)):=by unfold grow;rw[jo,P_]
  rw[e1,e2,Er];exact(zgl w hd hk (h r (by simp)) t).append (zc8 w hd hk t λq hq=>h q (by simp[hq]))
theorem zcu(w:Web n ps)(hd:1<=d)(hk:1<=k)(t:Int){rows:List (List Int)}(h:∀r∈rows,∀x∈r,0<=x/\x<k):∀m,(∀r∈grows k d ps rows m,∀x∈r,0<=x/\x<k)/\((grows k d ps rows m).map (bB k t)).Perm (grows k d ps (rows.map (bB k t)) m)
 |0=>⟨h,List.Perm.refl _⟩
 |m+1=>by
  obtain⟨h1,h2⟩:=zcu w hd hk t h m;refine⟨zjX hk h1,?_⟩;show ((grow k d ps (grows k d ps rows m)).map (bB k t)).Perm (grow k d ps (grows k d ps (rows.map (bB k t)) m));refine(zc8 w hd hk t h1).trans ?_;unfold grow;exact List.Perm.flatMap_right _ h2
theorem zdm{a b:List (List Int)}:∀m,grows k d ps (a++b) m=grows k d ps a m++grows k d ps b m
 |0=>rfl
 |m+1=>by
  show grow k d ps (grows k d ps (a++b) m)=grow k d ps (grows k d ps a m)++grow k d ps (grows k d ps b m);rw[zdm m];unfold grow;rw[List.flatMap_append]
theorem zc4:∀m,grows k d ps [] m=[]
 |0=>rfl
 |m+1=>by show grow k d ps (grows k d ps [] m)=[];rw[zc4 m];rfl
theorem zct{rows:List (List Int)}:∀m,grows k d ps rows (m+1)=grows k d ps (grow k d ps rows) m
 |0=>rfl
 |m+1=>by
  show grow k d ps (grows k d ps rows (m+1))=grow k d ps (grows k d ps (grow k d ps rows) m);rw[zct m]
theorem zbX(w:Web n ps)(hd:1<=d)(hk:1<=k)(m:Nat):(grows k d ps [[]] (m+1)).length=k.toNat*(grows k d ps [[0]] m).length:=by
 rw[zct,ze0 w];have one:∀x:Int,0<=x->x<k->(grows k d ps [[x]] m).length=(grows k d ps [[0]] m).length:=λx h0 h1=>by
  have:=(zcu w hd hk x (rows:=[[0]]) (λr hr y hy=>by
   rw[rJ.mp hr] at hy;have:y=0:=rJ.mp hy
   lia) m).2.length_eq
  rw[eY] at this;rw[this];have e:[[(0:Int)]].map (bB k x)=[[x]]:=by
   unfold bB;simp[Oh h0 h1]
  rw[e]
 have all:∀l:List Int,(∀x∈l,0<=x/\x<k)->(grows k d ps (l.map λx=>[x]) m).length=l.length*(grows k d ps [[0]] m).length:=λl=>by
  induction l with
  |nil=>intro _;rw[List.map_nil,zc4];simp
  |cons x l ih=>
   intro h;rw[jo,show [x]::l.map (λx=>[x])=[[x]]++l.map (λx=>[x]) from rfl,zdm,pC,one x (h x (by simp)).1 (h x (by simp)).2,ih λy hy=>h y (by simp[hy]),h_,Nat.succ_mul]
   lia
 rw[all _ λx hx=>by have:=bU.mp hx;lia]
 congr 1
 unfold eN;simp
end
section
variable {aq:Nat->Nat->Bool}{F:Fn}{J:Vs}{s:S}{P:Xv->S->Prop}
end
section
variable {n k d:Int}{ps:List (Int×Int)}
end
section
variable {n k m:Int}{ps qs:List (Int×Int)}{A:Int->Int->Bool}
end
section
variable {n k d:Int}{ps:List (Int×Int)}
theorem Vd(w:Web n ps)(hk:1<=k):∀(m:Nat) r,r∈grows k d ps [[0]] m↔Pre k d ps (m+1) r/\at' r 0=0
 |0,r=>by
  show r∈[[0]]↔_;rw[rJ]
  constructor
  ·rintro rfl;refine⟨⟨rfl,λx hx=>by rw[rJ.mp hx];lia,λp hp hl=>?_⟩,rfl⟩;have:=w.tie p hp
   lia
  ·rintro⟨h,e⟩;have hl:=h.len
   match r,hl with
   |[x],_=>
    have:at' [x] 0=x:=rfl;rw[this] at e;rw[e]
 |m+1,r=>zh2 w hk (λr=>at' r 0=0) (λr x h0 hl=>by rw[Ag (by lia) (by lia)]) (by lia) (Vd w hk m) r
theorem zdh(w:Web n ps){h:List Int}:(jL n k d ps h/\at' h 0=0)↔Pre k d ps (n.toNat-1+1) h/\at' h 0=0:=by
 have h1:=w.h1
 constructor
 ·rintro⟨q,e⟩;exact⟨⟨by have:=q.len;lia,q.lo,λp hp _=>q.fit p hp⟩,e⟩
 ·rintro⟨q,e⟩;exact⟨⟨by have:=q.len;lia,q.lo,λp hp=>q.fit p hp (by have:=w.tie p hp;lia)⟩,e⟩
theorem zhJ(w:Web n ps)(hd:1<=d)(hk:1<=k):0<(grows k d ps [[]] n.toNat).length↔∃h,jL n k d ps h:=by
 have h1:=w.h1;have e:=zbX w hd hk (n.toNat-1);rw[show n.toNat-1+1=n.toNat by lia] at e;rw[e]
 constructor
 ·intro h;have:0<(grows k d ps [[0]] (n.toNat-1)).length:=Nat.pos_of_mul_pos_left h;obtain⟨r,hr⟩:=List.exists_mem_of_length_pos this;exact⟨r,((zdh w).mpr ((Vd w hk _ r).mp hr)).1⟩
 ·rintro⟨h,hh⟩;have hl:=hh.len;have ht:=zgm (m:=-(at' h 0)) w hd hk hh;have e0:at' (bB k (-(at' h 0)) h) 0=0:=by
   unfold bB;rw[Km (by lia) (by lia),show at' h 0 + -(at' h 0)=0 by lia];exact Int.zero_emod k
  have:=(Vd w hk _ _).mpr ((zdh w).mp ⟨ht,e0⟩);exact Nat.mul_pos (by lia) (Pq this)
end
section
variable {α β:Type}
end
section
variable {n k d:Int}{ps:List (Int×Int)}
end
section
variable {n1 n2 n k d:Int}{ps1 ps2 qs:List (Int×Int)}
end
def Le{Z ρ:Type}(a b:Z->Option ρ):Prop:=∀s r,a s=some r->b s=some r
theorem Le.refl{Z ρ:Type}{a:Z->Option ρ}:Le a a:=λ_ _ h=>h
section
variable {α β:Type}
theorem Le.bd{m1 m2:M α}{k1 k2:α->M β}(h:Le m1 m2)(k:∀a,Le (k1 a) (k2 a)):Le (M.bd m1 k1) (M.bd m2 k2):=λs r e=>by
 unfold M.bd at e ⊢;cases em:m1 s with
 |none=>rw[em] at e;cases e
 |some q=>
  rw[em] at e;rw[h s q em];obtain⟨q,s'⟩:=q;cases q with
  |ok a=>exact k a s' r e
  |er c f=>exact e
theorem Le.qt{m1 m2:M α}(h:Le m1 m2):Le (M.qt m1) (M.qt m2):=λs r e=>by
 unfold M.qt at e ⊢;cases em:m1 s with
 |none=>rw[em] at e;cases e
 |some q=>rw[em] at e;rw[h s q em];exact e
theorem Le.ite{Z ρ:Type}{c:Prop}[Decidable c]{a b a' b':Z->Option ρ}(h:Le a a')(k:Le b b'):Le (if c then a else b) (if c then a' else b'):=by
 by_cases z:c
 ·rw[if_pos z,if_pos z];exact h
 ·rw[if_neg z,if_neg z];exact k
theorem Le.walk{c:Src}{f1 f2:D->List D->M (List D)}(h:∀d acc,Le (f1 d acc) (f2 d acc)):∀(k i:Nat) (acc:List D),Le (walk c f1 k i acc) (walk c f2 k i acc)
 |0,_,_=>Le.refl
 |k+1,i,acc=>λs r e=>by
  unfold Mi.walk at e ⊢;split at e
  ·cases e
  ·exact e
  ·exact Le.bd (h _ _) (λacc'=>Le.walk h k (i+1) acc') s r e
theorem Kab{f1 f2:D->M Xv}(h:∀d,Le (f1 d) (f2 d)):∀{xs:List D} {ks:List Int},gG f1 xs=some ks->gG f2 xs=some ks
 |[],ks,e=>e
 |x::r,ks,e=>by
  unfold gG at e ⊢;split at e
  ·rename_i k ex;rw[h x _ _ ex];obtain⟨q,e1,e2⟩:=kZ.mp e;dsimp only;rw[Kab h e1];exact lq some e2
  ·cases e
def RF(a b:List Xv->M Xv):Prop:=∀xs s r s1,a xs s=some (r,s1)->b xs s=some (r,s1)\/(s=[]/\∃d s2,r=.ok (.d d)/\b xs s=some (.ok (.d d),s2))
theorem Le.b_{F1 F2:List Xv->M Xv}{xs:List Xv}(h:RF F1 F2):Le (b_ F1 xs) (b_ F2 xs):=λs r e=>by
 unfold Mi.b_ at e ⊢;by_cases hn:(locs xs).Nodup
 ·rw[if_pos hn] at e ⊢;cases es:iQ s (locs xs) with
  |none=>rw[es] at e;cases e
  |some s0=>
   rw[es] at e;dsimp only at e ⊢;cases ef:F1 (dG 0 xs) s0 with
   |none=>rw[ef] at e;cases e
   |some q=>
    obtain⟨q,s1⟩:=q;rw[ef] at e;rcases h _ _ _ _ ef with z|⟨rfl,d,s2,rfl,z⟩
    ·rw[z];exact e
    ·rw[z];have hl:locs xs=[]:=by
      cases el:locs xs with
      |nil=>rfl
      |cons n l=>
       rw[el] at es;unfold iQ at es;split at es<;>cases es
     rw[hl] at e ⊢;cases s1<;>cases s2<;>exact e
 ·rw[if_neg hn] at e;cases e
theorem Le.zQ{F1 F2:List Xv->M Xv}{c:Nat}{xs:List Xv}(h:RF F1 F2):Le (zQ F1 c xs) (zQ F2 c xs):=λs r e=>by
 unfold Mi.zQ at e ⊢;by_cases hn:locs xs=[]
 ·rw[if_pos hn] at e ⊢;split at e
  ·rename_i ds s1 ef;rcases h _ _ _ _ ef with z|⟨_,d,s2,e2,z⟩
   ·rw[z];exact e
   ·cases e2;rw[z];exact e
  ·cases e
 ·rw[if_neg hn] at e;cases e
theorem Le.ofM{m1 m2:M α}{J:Vs}{k1 k2:α->MS}(h:Le m1 m2)(k:∀a,Le (k1 a) (k2 a)):Le (ofM m1 J k1) (ofM m2 J k2):=λs r e=>by
 unfold Mi.ofM at e ⊢;cases em:m1 s with
 |none=>rw[em] at e;cases e
 |some q=>
  rw[em] at e;rw[h s q em];obtain⟨q,s'⟩:=q;cases q with
  |ok a=>exact k a s' r e
  |er c f=>exact e
theorem Le.bV{m1 m2:MS}{k1 k2:Vs->MS}(h:Le m1 m2)(k:∀a,Le (k1 a) (k2 a)):Le (bV m1 k1) (bV m2 k2):=λs r e=>by
 unfold Mi.bV at e ⊢;cases em:m1 s with
 |none=>rw[em] at e;cases e
 |some q=>
  rw[em] at e;rw[h s q em];obtain⟨q,s'⟩:=q;cases q with
  |nx J=>exact k J s' r e
  |_=>exact e
theorem Le.dw{c1 c2:Vs->M Bool}{b1 b2:Vs->MS}(h:∀J,Le (c1 J) (c2 J))(k:∀J,Le (b1 J) (b2 J)):∀(n:Nat) (J:Vs),Le (dw c1 b1 n J) (dw c2 b2 n J)
 |0,_=>Le.refl
 |n+1,J=>by
  unfold Mi.dw;refine Le.ofM (h J) λok=>Le.ite (λs r e=>?_) Le.refl
  try dsimp only at e ⊢
  cases em:b1 J s with
  |none=>rw[em] at e;cases e
  |some q=>
   rw[em] at e;rw[k J s q em];obtain⟨q,s'⟩:=q;cases q with
   |nx J'=>exact Le.dw h k n J' s' r e
   |ct J'=>exact Le.dw h k n J' s' r e
   |_=>exact e
theorem Le.cQ{c:Src}{b1 b2:D->Vs->MS}(k:∀d J,Le (b1 d J) (b2 d J)):∀(n i:Nat) (J:Vs),Le (cQ c b1 n i J) (cQ c b2 n i J)
 |0,_,_=>Le.refl
 |n+1,i,J=>λs r e=>by
  unfold Mi.cQ at e ⊢;split at e
  ·cases e
  ·exact e
  ·rename_i d ed;cases em:b1 d J s with
   |none=>rw[em] at e;cases e
   |some q=>
    rw[em] at e;rw[k d J s q em];obtain⟨q,s'⟩:=q;cases q with
    |nx J'=>exact Le.cQ k n (i+1) J' s' r e
    |ct J'=>exact Le.cQ k n (i+1) J' s' r e
    |_=>exact e
end
section
variable {aq:Nat->Nat->Bool}{aj:Bool}{F1 F2:Fn}(h:∀f,RF (F1 f) (F2 f))
include h
mutual
theorem cM:∀(e:E) (J:Vs),Le (ev aq aj F1 e J) (ev aq aj F2 e J)
 |.c d,J=>Le.refl
 |.v i,J=>Le.refl
 |.pr fz p xs,J=>by unfold ev;exact Le.bd (yK xs J) λ_=>Le.refl
 |.xW p q a b c,J=>by
  unfold ev;exact Le.bd (cM a J) λ_=>Le.bd (cM b J) λ_=>Le.bd Le.refl λ_=>Le.bd Le.refl λ_=>Le.bd Le.refl λ_=>Le.ite (Le.bd (cM c J) λ_=>Le.refl) Le.refl
 |.Y5 p q r a b c d,J=>by
  unfold ev;exact Le.bd (cM a J) λ_=>Le.bd (cM b J) λ_=>Le.bd Le.refl λ_=>Le.bd Le.refl λ_=>Le.bd Le.refl λ_=>Le.ite (Le.bd (cM c J) λ_=>Le.bd Le.refl λ_=>Le.bd Le.refl λ_=>Le.bd Le.refl λ_=>Le.ite (Le.bd (cM d J) λ_=>Le.refl) Le.refl) Le.refl
 |.and a b,J=>by unfold ev;exact Le.bd (cM a J) λ_=>Le.bd Le.refl λ_=>Le.ite (cM b J) Le.refl
 |.or a b,J=>by unfold ev;exact Le.bd (cM a J) λ_=>Le.bd Le.refl λ_=>Le.ite Le.refl (cM b J)
 |.not a,J=>by unfold ev;exact Le.bd (cM a J) λ_=>Le.refl
 |.ite c a b,J=>by unfold ev;exact Le.bd (cM c J) λ_=>Le.bd Le.refl λ_=>Le.ite (cM a J) (cM b J)
 |.tup xs,J=>by unfold ev;exact Le.bd (yK xs J) λ_=>Le.refl
 |.lst fz xs,J=>by unfold ev;exact Le.bd (yK xs J) λ_=>Le.refl
 |.Cp k i,J=>Le.refl
 |.call f xs,J=>by unfold ev;exact Le.bd (yK xs J) λ_=>Le.b_ (h f)
 |.qe a k,J=>by unfold ev;exact Le.bd (cM a J) λ_=>Le.refl
 |.sl fz a lo hi,J=>by unfold ev;exact Le.bd (cM a J) λ_=>Le.bd (zh7 lo J) λ_=>Le.bd (zh7 hi J) λ_=>Le.refl
 |.meth fz p k o xs,J=>by unfold ev;exact Le.bd (cM o J) λ_=>Le.bd Le.refl λ_=>Le.ite (Le.bd (yK xs J) λ_=>Le.refl) Le.refl
 |.push o a,J=>by unfold ev;exact Le.bd (cM o J) λ_=>Le.bd Le.refl λ_=>Le.bd (cM a J) λ_=>Le.refl
 |.pop o,J=>by unfold ev;exact Le.bd (cM o J) λ_=>Le.refl
 |.comp fz elt tg it fr many cond,J=>by
  unfold ev;exact Le.ite (Le.bd (Oi it J) λ_=>Le.bd (Le.walk (λ_ _=>Le.bd Le.refl λJ'=>Le.bd (Le.qt (ziA cond J')) λ_=>Le.ite (Le.bd (Le.qt (cM elt J')) λ_=>Le.refl) Le.refl) _ _ _) λ_=>Le.refl) Le.refl
 |.mz fz elt tg it RV Ce fr many cond,J=>by
  unfold ev;exact Le.ite (Le.bd (Oi it J) λ_=>Le.bd (Le.walk (λ_ _=>Le.bd Le.refl λJ'=>Le.bd (Le.qt (Oi Ce J')) λ_=>Le.walk (λ_ _=>Le.bd Le.refl λJm=>Le.bd (Le.qt (ziA cond Jm)) λ_=>Le.ite (Le.bd (Le.qt (cM elt Jm)) λ_=>Le.refl) Le.refl) _ _ _) _ _ _) λ_=>Le.refl) Le.refl
 |.fld o cs i,J=>by unfold ev;exact Le.bd (cM o J) λ_=>Le.refl
 |.of o c i,J=>by unfold ev;exact Le.bd (cM o J) λ_=>Le.refl
 |.mk c f xs,J=>by unfold ev;exact Le.bd (yK xs J) λ_=>Le.zQ (h f)
 |.cm c f o xs,J=>by unfold ev;exact Le.bd (cM o J) λ_=>Le.bd Le.refl λ_=>Le.bd (yK xs J) λ_=>Le.qt (Le.b_ (h f))
 |.qg,J=>Le.refl
 |.zK b k d,J=>by unfold ev;exact Le.bd (cM k J) λ_=>Le.bd (cM d J) λ_=>Le.refl
 |.oN d k,J=>by unfold ev;exact Le.bd (cM d J) λ_=>Le.bd (cM k J) λ_=>Le.refl
 |.Cq a,J=>by unfold ev;exact Le.bd (cM a J) λ_=>Le.refl
 |.oO fz a b,J=>by
  unfold ev;refine Le.ite (Le.bd (cM a J) λx=>?_) Le.refl
  split
  ·intro s r e;rename_i xs;cases ek:gG (λd=>ev aq aj F1 b [some (.d d)]) xs with
   |none=>rw[ek] at e;cases e
   |some ks=>
    rw[ek] at e;rw[Kab (λd=>cM b [some (.d d)]) ek];exact e
  ·exact Le.refl
 |.Y6 a b,J=>by unfold ev;exact Le.bd (cM a J) λ_=>Le.bd Le.refl λ_=>Le.bd Le.refl λ_=>Le.ite Le.refl (cM b J)
 |.ins o i a,J=>by unfold ev;exact Le.bd (cM o J) λ_=>Le.bd Le.refl λ_=>Le.bd (cM i J) λ_=>Le.bd Le.refl λ_=>Le.bd (cM a J) λ_=>Le.refl
 |.no,J=>Le.refl
theorem Oi:∀(w:Wk) (J:Vs),Le (gO aq aj F1 w J) (gO aq aj F2 w J)
 |.seq e,J=>by unfold gO;exact Le.bd (cM e J) λ_=>Le.refl
 |.rg a b,J=>by unfold gO;exact Le.bd (cM a J) λ_=>Le.bd (cM b J) λ_=>Le.refl
 |.zip a b,J=>by unfold gO;exact Le.bd (cM a J) λ_=>Le.bd (cM b J) λ_=>Le.refl
 |.enum a,J=>by unfold gO;exact Le.bd (cM a J) λ_=>Le.refl
 |.Y7 a,J=>by unfold gO;exact Le.bd (cM a J) λ_=>Le.refl
theorem zh7:∀(o:Eo) (J:Vs),Le (tV aq aj F1 o J) (tV aq aj F2 o J)
 |.no,J=>Le.refl
 |.yes a,J=>by unfold tV;exact Le.bd (cM a J) λ_=>Le.refl
theorem ziA:∀(o:Eo) (J:Vs),Le (m_ aq aj F1 o J) (m_ aq aj F2 o J)
 |.no,J=>Le.refl
 |.yes a,J=>by unfold m_;exact Le.bd (cM a J) λ_=>Le.refl
theorem yK:∀(xs:Es) (J:Vs),Le (evs aq aj F1 xs J) (evs aq aj F2 xs J)
 |.nil,J=>Le.refl
 |.cons a r,J=>by unfold evs;exact Le.bd (cM a J) λ_=>Le.bd (yK r J) λ_=>Le.refl
end
theorem zeo(t:Tg)(x:Xv)(J:Vs):Le (store aq aj F1 t x J) (store aq aj F2 t x J):=by
 cases t with
 |nm i=>exact Le.refl
 |tp is=>exact Le.refl
 |aq o i=>exact Le.ofM (Le.bd Le.refl λ_=>Le.bd (cM h o J) λ_=>Le.bd (cM h i J) λ_=>Le.refl) λ_=>Le.refl
end
section
variable {aq:Nat->Nat->Bool}{F1 F2:Bool->Fn}(h:∀c f,RF (F1 c f) (F2 c f))
include h
mutual
theorem znG:∀(aj:Bool) (st:St) (J:Vs),Le (ex aq aj F1 st J) (ex aq aj F2 st J)
 |aj,.pass,J=>Le.refl
 |aj,.ex e,J=>by unfold ex;exact Le.ofM (cM (h aj) e J) λ_=>Le.refl
 |aj,.asg t e,J=>by unfold ex;exact Le.ofM (cM (h aj) e J) λx=>zeo (h aj) t x J
 |aj,.par i j a b,J=>by unfold ex;exact Le.ite (Le.ofM (Le.bd (cM (h aj) a J) λ_=>Le.bd (cM (h aj) b J) λ_=>Le.refl) λ_=>Le.refl) Le.refl
 |aj,.aug i e,J=>by unfold ex;exact Le.ofM (Le.bd Le.refl λ_=>Le.bd (cM (h aj) e J) λ_=>Le.refl) λ_=>Le.refl
 |aj,.ret e,J=>by unfold ex;exact Le.ofM (cM (h aj) e J) λ_=>Le.refl
 |aj,.rise c kp xs,J=>by unfold ex;exact Le.ite (Le.ofM (Le.bd (yK (h aj) xs J) λ_=>Le.refl) λ_=>Le.refl) Le.refl
 |aj,.iff c t e,J=>by unfold ex;exact Le.ofM (Le.bd (cM (h aj) c J) λ_=>Le.refl) λ_=>Le.ite (Aj aj t J) (Aj aj e J)
 |aj,.wh c b,J=>by unfold ex;exact Le.dw (λJ=>Le.bd (cM (h aj) c J) λ_=>Le.refl) (λJ=>Aj aj b J) _ J
 |aj,.fr t w b,J=>by unfold ex;exact Le.ite (Le.ofM (Oi (h aj) w J) λ_=>Le.cQ (λd J=>Le.bV (zeo (h aj) t (.d d) J) λJ'=>Aj aj b J') _ _ J) Le.refl
 |aj,.Jd b d i hh,J=>by
  unfold ex;refine Le.ite (λs r e=>?_) Le.refl
  try dsimp only at e ⊢
  cases em:exs aq aj F1 b J s with
  |none=>rw[em] at e;cases e
  |some q=>
   rw[em] at e;rw[Aj aj b J s q em];obtain⟨q,s'⟩:=q;cases q with
   |er c fs J'=>
    dsimp only at e ⊢;by_cases z:aq c d=true
    ·rw[if_pos z] at e ⊢;cases Ve:exs aq false F1 hh (J'.set i (some (.d (.exc c fs)))) s' with
     |none=>rw[Ve] at e;cases e
     |some q2=>rw[Ve] at e;rw[Aj false hh _ s' q2 Ve];exact e
    ·rw[if_neg z] at e;cases e
   |_=>exact e
 |aj,.dput d k v,J=>by unfold ex;exact Le.ofM (Le.bd (cM (h aj) v J) λ_=>Le.bd Le.refl λ_=>Le.bd (cM (h aj) d J) λ_=>Le.bd (cM (h aj) k J) λ_=>Le.refl) λ_=>Le.refl
 |aj,.no,J=>Le.refl
theorem Aj:∀(aj:Bool) (st:bR) (J:Vs),Le (exs aq aj F1 st J) (exs aq aj F2 st J)
 |aj,.nil,J=>Le.refl
 |aj,.cons a r,J=>by unfold exs;exact Le.bV (znG aj a J) λJ'=>Aj aj r J'
end
end
noncomputable def pq(aq:Nat->Nat->Bool)(T:Nat->Option Df)(f0:Nat)(O:List Xv->Option D):Nat->Bool->Fn
 |0,_,_,_=>M.no
 |k+1,aj,f,xs=>if f=f0 then λs=>match s,aj,O xs with
   |[],true,some d=>some (.ok (.d d),[])
   |_,_,_=>none
  else match T f with
  |none=>M.no
  |some d=>if xs.length=d.fC then λs=>match exs aq aj (λc=>pq aq T f0 O k c) d.body (xs.map some++List.replicate (d.many-d.fC) none) s with
    |some (.nx _,s')=>some (.ok (.d .non),s')
    |some (.rt v,s')=>some (.ok v,s')
    |some (.er c fs _,s')=>some (.er c fs,s')
    |_=>none
   else M.no
theorem zeE{aq:Nat->Nat->Bool}{T:Nat->Option Df}{f0 m:Nat}{O:List Xv->Option D}(hO:∀k xs d,O xs=some d->W (call aq T (k+m) true f0 xs) [] λv _=>v=.d d):∀(k:Nat) (aj:Bool) (f:Nat),RF (pq aq T f0 O k aj f) (call aq T (k+m) aj f)
 |0,_,_=>λxs s r s1 e=>by cases e
 |k+1,aj,f=>λxs s r s1 e=>by
  unfold pq at e;by_cases z:f=f0
  ·rw[if_pos z] at e;subst z;split at e
   ·rename_i d hd;cases e;obtain⟨v,s2,ev,rfl⟩:=hO (k+1) xs d hd;exact .inr ⟨rfl,d,s2,rfl,ev⟩
   ·cases e
  ·rw[if_neg z] at e
   left
   rw[show k+1+m=(k+m)+1 by lia];unfold call;cases eT:T f with
   |none=>rw[eT] at e;cases e
   |some d=>
    rw[eT] at e;dsimp only at e ⊢;by_cases hl:xs.length=d.fC
    ·rw[if_pos hl] at e ⊢;cases em:exs aq aj (λc=>pq aq T f0 O k c) d.body (xs.map some++List.replicate (d.many-d.fC) none) s with
     |none=>rw[em] at e;cases e
     |some q=>
      rw[em] at e;rw[Aj (λc f=>zeE hO k c f) aj d.body _ s q em];exact e
    ·rw[if_neg hl] at e;cases e
end Mi
namespace eZ
open PySem Mi
noncomputable def b0:bR:=(.cons (.ret (.and (.qe (.v 0) .int) (.not (.qe (.v 0) .bool)))) .nil)
noncomputable def b1:bR:=(.cons (.ret (.and (.call 0 (Ea (.v 0))) (.xW .le .le (.v 1) (.v 0) (.v 2)))) .nil)
noncomputable def b2:bR:=(.cons (.ret (.and (.qe (.v 0) .tuple) (.pr true .eq (Eb (.pr true .len (Ea (.v 0))) (.v 1))))) .nil)
noncomputable def b3:bR:=(.cons (.iff (.pr true .gt (Eb (.v 0) (.v 1))) (.cons .no .nil) .nil) .nil)
noncomputable def b4:bR:=(.cons (.iff (.not (.call 2 (Eb (.v 0) (Ci 2)))) (.cons (.ret (.c (.bl false))) .nil) .nil) (.cons (.asg (.tp [1,2]) (.v 0)) (.cons (.iff (.or (.not (.call 6 (Ea (.v 1)))) (.not (.qe (.v 2) .tuple))) (.cons (.ret (.c (.bl false))) .nil) .nil) (.cons (.iff (.not (.pr true .all (Ea (.comp true (.call 8 (Eb (.v 1) (.v 0))) [0] (.seq (.v 2)) [1] 1 .no)))) (.cons (.ret (.c (.bl false))) .nil) .nil) (.cons (.ret (.pr true .all (Ea (.comp true (.pr true .lt (Eb (.v 0) (.v 1))) [0,1] (.zip (.v 2) (.sl true (.v 2) (.yes (Ci 1)) .no)) [] 2 .no)))) .nil)))))
noncomputable def b5:bR:=(.cons (.iff (.not (.call 6 (Ea (.v 0)))) (.cons .no .nil) .nil) (.cons (.asg (.nm 2) (.lst false .nil)) (.cons (.fr (.tp [3,4]) (.enum (.v 1)) (.cons (.asg (.nm 5) (.call 9 (Eb (.v 0) (.v 4)))) (.cons (.iff (.or (.pr true .vY (Ea (.v 5))) (.pr true .inn (Eb (.v 5) (.v 2)))) (.cons .no .nil) .nil) (.cons (.ex (.push (.v 2) (.v 5))) .nil)))) (.cons (.ret (.tup (Eb (.v 0) (.pr true .tuple (Ea (.pr true .sorted (Ea (.v 2)))))))) .nil))))
noncomputable def b6:bR:=(.cons (.ret (.call 1 (Ec (.v 0) (Ci 1) (Ci 8)))) .nil)
noncomputable def b7:bR:=(.cons (.ret (.call 1 (Ec (.v 1) (Ci 0) (.pr true .aq (Eb (.v 0) (Ci 1)))))) .nil)
noncomputable def b8:bR:=(.cons (.iff (.not (.call 2 (Eb (.v 1) (Ci 2)))) (.cons (.ret (.c (.bl false))) .nil) .nil) (.cons (.asg (.tp [2,3]) (.v 1)) (.cons (.ret (.and (.call 7 (Eb (.v 0) (.v 2))) (.and (.call 7 (Eb (.v 0) (.v 3))) (.pr true .lt (Eb (.v 2) (.v 3)))))) .nil)))
noncomputable def b9:bR:=(.cons (.iff (.call 8 (Eb (.v 0) (.v 1))) (.cons (.ret (.v 1)) .nil) .nil) (.cons (.iff (.and (.call 2 (Eb (.v 1) (Ci 2))) (.call 8 (Eb (.v 0) (.pr true .rev (Ea (.v 1)))))) (.cons (.ret (.pr true .rev (Ea (.v 1)))) .nil) .nil) (.cons (.ret (.c .non)) .nil)))
noncomputable def b10:bR:=(.cons (.iff (.not (.call 4 (Ea (.v 0)))) (.cons .no .nil) .nil) .nil)
noncomputable def b11:bR:=(.cons (.iff (.not (.call 7 (Eb (Ei (.v 0) (Ci 0)) (.v 1)))) (.cons .no .nil) .nil) .nil)
noncomputable def Vf:bR:=(.cons (.asg (.nm 2) (.comp true (.ite (.pr true .eq (Eb (.v 0) (.v 2))) (.v 1) (.v 0)) [0,1] (.seq (Ei (.v 0) (Ci 1))) [1] 2 (.yes (.pr true .inn (Eb (.v 2) (.tup (Eb (.v 0) (.v 1)))))))) (.cons (.ret (.pr true .tuple (Ea (.pr true .sorted (Ea (.v 2)))))) .nil))
noncomputable def Vg:bR:=(.cons (.ret (.comp true (.call 12 (Eb (.v 1) (.v 0))) [0] (.rg (Ci 0) (Ei (.v 0) (Ci 0))) [0] 1 .no)) .nil)
noncomputable def Vh:bR:=(.cons (.ret (.tup (.cons (.call 13 (Ea (.v 1))) (Ec (.pr true .Cj (Ea (.pr true .len (Ea (.v 2))))) (.v 2) (.v 3))))) .nil)
noncomputable def Vi:bR:=(.cons (.ret (Ei (Ei (.of (.v 0) 0 2) (.v 1)) (.v 2))) .nil)
noncomputable def Vj:bR:=(.cons (.asg (.nm 4) (.pr false .list (Ea (.v 1)))) (.cons (.asg (.aq (.v 4) (.v 2)) (.c .non)) (.cons (.fr (.nm 5) (.seq (Ei (.of (.v 0) 0 0) (.v 2))) (.cons (.iff (.pr true .tU (Ea (Ei (.v 4) (.v 5)))) (.cons (.asg (.aq (.v 4) (.v 5)) (.pr true .tuple (Ea (.comp true (.v 0) [0] (.seq (Ei (.v 4) (.v 5))) [0,3] 1 (.yes (.cm 0 15 (.v 1) (Eb (.v 2) (.v 0)))))))) .nil) .nil) .nil)) (.cons (.ret (.pr true .tuple (Ea (.v 4)))) .nil))))
noncomputable def Vk:bR:=(.cons (.ret (.pr true .len (Ea (.comp true (.v 0) [0] (.seq (Ei (.of (.v 0) 0 0) (.v 2))) [1] 1 (.yes (.pr true .tU (Ea (Ei (.v 1) (.v 0))))))))) .nil)
noncomputable def Vl:bR:=(.cons (.ret (.pr true .tuple (Ea (.comp true (.ite (.pr true .gt (Eb (.cm 0 17 (.v 2) (Eb (.v 3) (.v 0))) (Ci 0))) (.v 1) (.c .non)) [0,1] (.enum (.v 1)) [0,1] 2 .no)))) .nil)
noncomputable def Vm:bR:=(.cons (.asg (.nm 2) (.lst false .nil)) (.cons (.fr (.tp [3,4]) (.enum (.v 1)) (.cons (.iff (.pr true .tU (Ea (.v 4))) (.cons (.ex (.push (.v 2) (.tup (Ec (.pr true .len (Ea (.v 4))) (.pr true .neg (Ea (.cm 0 17 (.v 0) (Eb (.v 1) (.v 3))))) (.v 3))))) .nil) .nil) .nil)) (.cons (.ret (.ite (.Cq (.v 2)) (Ei (.pr true .sG (Ea (.v 2))) (Ci 2)) (.c .non))) .nil)))
noncomputable def Vn:bR:=(.cons (.ret (.pr true .all (Ea (.comp true (.or (.pr true .vY (Ea (.v 0))) (.pr true .eq (Eb (.v 0) (.of (.v 1) 0 1)))) [0] (.seq (.v 1)) [0] 1 .no)))) .nil)
noncomputable def Vo:bR:=(.cons (.asg (.tp [2,3]) (.v 1)) (.cons (.asg (.nm 4) (.comp true (.pr true .ge (Eb (.pr true .min2 (Eb (.v 0) (.pr true .aq (Eb (.v 1) (.v 0))))) (.v 2))) [0] (.rg (Ci 0) (.v 2)) [2,3] 1 .no)) (.cons (.ret (.mk 0 14 (Ec (.v 0) (.comp true (.comp true (Ei (.v 1) (.pr true .aq (Eb (.v 2) (.v 0)))) [0] (.rg (Ci 0) (.v 1)) [2,0] 1 .no) [0] (.rg (Ci 0) (.v 2)) [2,4] 1 .no) (.c (.bl true))))) .nil)))
noncomputable def Vp:bR:=(.cons (.iff (.not (.call 2 (Eb (.v 0) (Ci 2)))) (.cons (.ret (.c (.bl false))) .nil) .nil) (.cons (.asg (.tp [1,2]) (.v 0)) (.cons (.ret (.and (.call 1 (Ec (.v 1) (Ci 1) (Ci 24))) (.call 1 (Ec (.v 2) (Ci 1) (.v 1))))) .nil)))
noncomputable def Vq:bR:=(.cons (.iff (.not (.call 22 (Ea (.v 0)))) (.cons .no .nil) .nil) .nil)
noncomputable def b24:bR:=(.cons (.par 2 3 (.v 0) (.v 1)) (.cons (.wh (.pr true .gt (Eb (.v 3) (Ci 0))) (.cons (.par 2 3 (.v 3) (.pr true .mod (Eb (.v 2) (.v 3)))) .nil)) (.cons (.ret (.tup (Eb (.pr true .fdiv (Eb (.v 0) (.v 2))) (.pr true .fdiv (Eb (.v 1) (.v 2)))))) .nil)))
noncomputable def Vr:bR:=(.cons (.ex (.call 10 (Ea (.v 0)))) (.cons (.ex (.call 23 (Ea (.v 1)))) (.cons (.asg (.nm 2) (.call 21 (Eb (.v 0) (.v 1)))) (.cons (.ret (.call 26 (Eb (.v 2) (.comp true (.of (.v 1) 0 1) [0] (.rg (Ci 0) (Ei (.v 0) (Ci 0))) [2] 1 .no)))) .nil))))
noncomputable def Vt:bR:=(.cons (.asg (.nm 2) (.pr true .tuple (Ea (.v 1)))) (.cons (.asg (.nm 3) .qg) (.cons (.iff (.not (.call 28 (Ec (.v 0) (.v 3) (.v 2)))) (.cons (.ret (.c .non)) .nil) .nil) (.cons (.asg (.nm 4) (.lst false .nil)) (.cons (.fr (.nm 5) (.rg (Ci 0) (.pr true .len (Ea (.v 1)))) (.cons (.asg (.nm 6) (.call 27 (.cons (.v 0) (Ec (.v 3) (.v 2) (.v 5))))) (.cons (.asg (.nm 2) (.cm 0 16 (.v 0) (Ec (.v 2) (.v 5) (.v 6)))) (.cons (.ex (.push (.v 4) (.v 6))) .nil)))) (.cons (.ret (.pr true .tuple (Ea (.v 4)))) .nil))))))
noncomputable def Oj:bR:=(.cons (.fr (.nm 4) (.seq (Ei (.v 2) (.v 3))) (.cons (.iff (.call 28 (Ec (.v 0) (.v 1) (.cm 0 16 (.v 0) (Ec (.v 2) (.v 3) (.v 4))))) (.cons (.ret (.v 4)) .nil) .nil) .nil)) (.cons (.ret (.c .non)) .nil))
noncomputable def Vu:bR:=(.cons (.iff (.pr true .inn (Eb (.tup .nil) (.v 2))) (.cons (.ret (.c (.bl false))) .nil) .nil) (.cons (.asg (.nm 3) (.cm 0 18 (.v 0) (Ea (.v 2)))) (.cons (.iff (.zK false (.v 3) (.v 1)) (.cons (.dput (.v 1) (.v 3) (.call 29 (Ec (.v 0) (.v 1) (.v 3)))) .nil) .nil) (.cons (.ret (.oN (.v 1) (.v 3))) .nil))))
noncomputable def KZ:bR:=(.cons (.asg (.nm 3) (.cm 0 19 (.v 0) (Ea (.v 2)))) (.cons (.iff (.pr true .vY (Ea (.v 3))) (.cons (.ret (.c (.bl true))) .nil) .nil) (.cons (.iff (.and (.of (.v 0) 0 3) (.cm 0 20 (.v 0) (Ea (.v 2)))) (.cons (.ret (.call 28 (Ec (.v 0) (.v 1) (.cm 0 16 (.v 0) (Ec (.v 2) (.v 3) (Ci 0)))))) .nil) .nil) (.cons (.ret (.pr true .tU (Ea (.call 27 (.cons (.v 0) (Ec (.v 1) (.v 2) (.v 3))))))) .nil))))
noncomputable def b30:bR:=(.cons (.asg (.nm 1) (.pr true .min2 (Eb (.v 0) (Ci 24)))) (.cons (.asg (.nm 2) (.mz true (.tup (Eb (.v 0) (.v 1))) [0] (.rg (Ci 1) (.pr true .add (Eb (.v 1) (Ci 1)))) [1] (.rg (Ci 1) (.pr true .add (Eb (.v 0) (Ci 1)))) [] 2 (.yes (.call 33 (Eb (.v 0) (.v 1)))))) (.cons (.ret (.oO true (.v 2) (.pr true .fdiv (Eb (.pr true .mul (Eb (Ei (.v 0) (Ci 0)) (Ci 27720))) (Ei (.v 0) (Ci 1)))))) .nil)))
noncomputable def Vv:bR:=(.cons (.ret (.pr true .tU (Ea (.call 25 (Eb (.v 0) (.v 1)))))) .nil)
noncomputable def b32:bR:=(.cons (.ex (.call 10 (Ea (.v 0)))) (.cons (.asg (.nm 1) (.call 30 (Ea (Ei (.v 0) (Ci 0))))) (.cons (.asg (.nm 2) (Ci 0)) (.cons (.wh (.not (.call 31 (Eb (.v 0) (Ei (.v 1) (.v 2))))) (.cons (.aug 2 (Ci 1)) .nil)) (.cons (.ret (Ei (.v 1) (.v 2))) .nil)))))
noncomputable def b33:bR:=(.cons (.ret (.and (.pr true .eq (Eb (.call 24 (Eb (.v 0) (.v 1))) (.tup (Eb (.v 0) (.v 1))))) (.or (.pr true .eq (Eb (.v 0) (Ci 1))) (.pr true .ge (Eb (.v 0) (.pr true .mul (Eb (Ci 2) (.v 1)))))))) .nil)
noncomputable def b34:bR:=(.cons (.ex (.call 10 (Ea (.v 0)))) (.cons (.ex (.call 11 (Eb (.v 0) (.v 1)))) (.cons (.iff (.pr true .eq (Eb (Ei (.v 0) (Ci 0)) (Ci 1))) (.cons .no .nil) .nil) (.cons (.asg (.nm 2) (.comp true (.v 0) [0] (.seq (Ei (.v 0) (Ci 1))) [1] 1 (.yes (.pr true .nin (Eb (.v 1) (.v 0)))))) (.cons (.ret (.call 5 (Eb (.pr true .aq (Eb (Ei (.v 0) (Ci 0)) (Ci 1))) (.call 42 (Eb (.v 2) (.call 41 (.cons (.v 0) (Ec (.v 1) (.c .non) (Ci 0))))))))) .nil)))))
noncomputable def b35:bR:=(.cons (.ex (.call 10 (Ea (.v 0)))) (.cons (.ex (.call 11 (Eb (.v 0) (.v 1)))) (.cons (.ex (.call 11 (Eb (.v 0) (.v 2)))) (.cons (.asg (.nm 3) (.call 9 (Eb (Ei (.v 0) (Ci 0)) (.tup (Eb (.v 1) (.v 2)))))) (.cons (.iff (.pr true .nin (Eb (.v 3) (Ei (.v 0) (Ci 1)))) (.cons .no .nil) .nil) (.cons (.ret (.call 5 (Eb (Ei (.v 0) (Ci 0)) (.comp true (.v 0) [0] (.seq (Ei (.v 0) (Ci 1))) [3] 1 (.yes (.pr true .ne (Eb (.v 0) (.v 1)))))))) .nil))))))
noncomputable def b36:bR:=(.cons (.ex (.call 10 (Ea (.v 0)))) (.cons (.ret (.call 38 (Eb (.v 0) (.pr true .Fz (Ea (Ei (.v 0) (Ci 0))))))) .nil))
noncomputable def b37:bR:=(.cons (.ex (.call 10 (Ea (.v 0)))) (.cons (.ex (.call 10 (Ea (.v 1)))) (.cons (.ret (.call 39 (.cons (.v 0) (Ec (.v 1) (.call 40 (Eb (.v 0) (.v 1))) (.lst true .nil))))) .nil)))
noncomputable def b38:bR:=(.cons (.ex (.call 3 (Eb (.pr true .add (Eb (Ei (.v 0) (Ci 0)) (Ci 1))) (Ci 8)))) (.cons (.ret (.call 5 (Eb (.pr true .add (Eb (Ei (.v 0) (Ci 0)) (Ci 1))) (.pr true .add (Eb (.pr true .list (Ea (Ei (.v 0) (Ci 1)))) (.comp true (.tup (Eb (.v 0) (Ei (.v 1) (Ci 0)))) [0] (.seq (.v 1)) [0] 1 .no)))))) .nil))
noncomputable def b39:bR:=(.cons (.asg (.nm 4) (.pr true .max2 (Eb (Ei (.v 0) (Ci 0)) (.pr true .add (Eb (.pr true .xV (Ea (.v 2))) (Ci 1)))))) (.cons (.ex (.call 3 (Eb (.v 4) (Ci 8)))) (.cons (.ret (.call 5 (Eb (.v 4) (.pr true .add (Eb (.pr true .add (Eb (.pr true .list (Ea (Ei (.v 0) (Ci 1)))) (.call 42 (Eb (Ei (.v 1) (Ci 1)) (.v 2))))) (.v 3)))))) .nil)))
noncomputable def b40:bR:=(.cons (.ret (.comp true (.pr true .add (Eb (Ei (.v 1) (Ci 0)) (.v 0))) [0] (.rg (Ci 0) (Ei (.v 1) (Ci 0))) [0] 1 .no)) .nil)
noncomputable def b41:bR:=(.cons (.asg (.nm 4) (.comp true (.pr true .add (Eb (.v 1) (.v 0))) [0] (.rg (Ci 0) (.pr true .aq (Eb (Ei (.v 0) (Ci 0)) (Ci 1)))) [3] 1 .no)) (.cons (.ret (.pr true .add (Eb (.pr true .add (Eb (.sl true (.v 4) .no (.yes (.v 1))) (.lst true (Ea (.v 2))))) (.sl true (.v 4) (.yes (.v 1)) .no)))) .nil))
noncomputable def b42:bR:=(.cons (.ret (.comp true (.tup (Eb (Ei (.v 2) (.v 0)) (Ei (.v 2) (.v 1)))) [0,1] (.seq (.v 0)) [1] 2 .no)) .nil)
noncomputable def b43:bR:=(.cons (.asg (.nm 1) (.call 32 (Ea (.v 0)))) (.cons (.ret (.pr true .tuple (Ea (.comp true (.v 0) [0] (.rg (Ci 0) (Ei (.v 0) (Ci 0))) [0,1] 1 (.yes (.call 44 (Ec (.v 1) (.v 2) (.v 0)))))))) .nil))
noncomputable def b44:bR:=(.cons (.ret (.or (.pr true .eq (Eb (Ei (.v 0) (Ci 0)) (Ci 1))) (.pr true .ne (Eb (.call 32 (Ea (.call 34 (Eb (.v 0) (.v 2))))) (.v 1))))) .nil)
noncomputable def b45:bR:=(.cons (.asg (.nm 1) (Ci 1)) (.cons (.wh (.not (.call 31 (Eb (.v 0) (.tup (Eb (.v 1) (Ci 1)))))) (.cons (.aug 1 (Ci 1)) .nil)) (.cons (.ret (.v 1)) .nil)))
noncomputable def b46:bR:=(.cons (.asg (.nm 1) (.call 32 (Ea (.v 0)))) (.cons (.ret (.pr true .tuple (Ea (.comp true (.v 0) [0] (.seq (Ei (.v 0) (Ci 1))) [0,1] 1 (.yes (.call 48 (Ec (.v 1) (.v 2) (.v 0)))))))) .nil))
noncomputable def b47:bR:=(.cons (.asg (.nm 1) (.call 46 (Ea (.v 0)))) (.cons (.ret (.and (.pr true .ne (Eb (Ei (.v 0) (Ci 1)) (.tup .nil))) (.pr true .eq (Eb (.v 1) (.tup .nil))))) .nil))
noncomputable def b48:bR:=(.cons (.ret (.pr true .eq (Eb (.call 32 (Ea (.call 35 (Ec (.v 0) (Ei (.v 2) (Ci 0)) (Ei (.v 2) (Ci 1)))))) (.v 1)))) .nil)
noncomputable def Vw:bR:=(.cons (.iff (.pr true .lt (Eb (.v 1) (.pr true .len (Ea (.v 0))))) (.cons (.ret (Ei (.v 0) (.v 1))) .nil) .nil) (.cons (.ret (Ci 0)) .nil))
noncomputable def Vx:bR:=(.cons (.asg (.nm 1) (.pr true .max2 (Eb (.v 0) (.pr true .aq (Eb (Ci 0) (.v 0)))))) (.cons (.ret (.lst false (Eb (.v 1) (.pr true .uO (Ea (.pr true .ge (Eb (.v 1) (.pr true .pow (Eb (Ci 10) (Ci 18)))))))))) .nil))
noncomputable def Vy:bR:=(.cons (.iff (.pr true .eq (Eb (Ei (.v 0) (Ci 1)) (Ci 1))) (.cons (.asg (.tp [2,3]) (.pr true .divmod (Eb (Ei (.v 0) (Ci 0)) (.v 1)))) (.cons (.asg (.aq (.v 0) (Ci 0)) (.v 2)) (.cons (.ret (.v 3)) .nil))) .nil) (.cons (.asg (.nm 4) (.pr true .mod (Eb (.pr true .mul (Eb (.pr true .add (Eb (.pr true .mod (Eb (Ei (.v 0) (Ci 0)) (Ci 2147483647))) (Ci 40503))) (Ci 69621))) (Ci 2147483629)))) (.cons (.asg (.nm 4) (.pr true .mod (Eb (.pr true .add (Eb (.pr true .mul (Eb (.v 4) (.v 4))) (Ci 7817))) (Ci 2147483587)))) (.cons (.asg (.aq (.v 0) (Ci 0)) (.pr true .mod (Eb (.pr true .add (Eb (.pr true .mul (Eb (.v 4) (Ci 48271))) (Ci 11))) (Ci 2147483629)))) (.cons (.ret (.pr true .mod (Eb (.pr true .fdiv (Eb (Ei (.v 0) (Ci 0)) (Ci 32))) (.v 1)))) .nil)))))
noncomputable def b52:bR:=(.cons (.ret (.pr true .lt (Eb (.pr true .mul (Eb (Ei (.v 0) (Ci 0)) (Ei (.v 1) (Ci 1)))) (.pr true .mul (Eb (Ei (.v 1) (Ci 0)) (Ei (.v 0) (Ci 1))))))) .nil)
noncomputable def b53:bR:=(.cons (.ret (.tup (Eb (.v 0) (.pr true .tuple (Ea (.pr true .sorted (Ea (.pr true .add (Eb (.comp true (.tup (Eb (.v 0) (.pr true .add (Eb (.v 0) (Ci 1))))) [0] (.rg (Ci 0) (.pr true .aq (Eb (.v 0) (Ci 1)))) [] 1 .no) (.lst true (Ea (.tup (Eb (Ci 0) (.pr true .aq (Eb (.v 0) (Ci 1)))))))))))))))) .nil)
noncomputable def b54:bR:=(.cons (.asg (.nm 1) (.lst true .nil)) (.cons (.fr (.nm 2) (.rg (Ci 0) (.v 0)) (.cons (.asg (.nm 1) (.pr true .add (Eb (.v 1) (.comp true (.tup (Eb (.v 1) (.v 0))) [0] (.rg (.pr true .add (Eb (.v 2) (Ci 1))) (.v 0)) [2] 1 .no)))) .nil)) (.cons (.ret (.tup (Eb (.v 0) (.pr true .tuple (Ea (.v 1)))))) .nil)))
noncomputable def b55:bR:=(.cons (.asg (.nm 1) (.call 53 (Ea (.v 0)))) (.cons (.iff (.pr true .eq (Eb (.pr true .mod (Eb (.v 0) (Ci 2))) (Ci 0))) (.cons (.ret (.and (.pr true .eq (Eb (.call 32 (Ea (.v 1))) (.tup (Eb (Ci 2) (Ci 1))))) (.and (.pr true .eq (Eb (.call 45 (Ea (.v 1))) (Ci 2))) (.not (.call 47 (Ea (.v 1))))))) .nil) .nil) (.cons (.iff (.or (.pr true .ne (Eb (.call 32 (Ea (.v 1))) (.tup (Eb (.v 0) (.pr true .fdiv (Eb (.v 0) (Ci 2))))))) (.or (.pr true .ne (Eb (.call 45 (Ea (.v 1))) (Ci 3))) (.not (.call 47 (Ea (.v 1)))))) (.cons (.ret (.c (.bl false))) .nil) .nil) (.cons (.ret (.pr true .eq (Eb (.call 43 (Ea (.v 1))) (.pr true .Cj (Ea (.v 0)))))) .nil))))
noncomputable def b56:bR:=(.cons (.ret (.pr true .eq (Eb (.call 32 (Ea (.call 36 (Ea (.v 0))))) (.tup (Eb (.pr true .add (Eb (.call 45 (Ea (.v 0))) (Ci 1))) (Ci 1)))))) .nil)
noncomputable def Vz:bR:=(.cons (.iff (.or (.pr true .ne (Eb (.call 32 (Ea (.tup (Eb (Ci 1) (.tup .nil))))) (.tup (Eb (Ci 1) (Ci 1))))) (.or (.pr true .ne (Eb (.call 32 (Ea (.tup (Eb (Ci 4) (.tup .nil))))) (.tup (Eb (Ci 1) (Ci 1))))) (.pr true .ne (Eb (.call 32 (Ea (.tup (Eb (Ci 2) (.tup (Ea (.tup (Eb (Ci 0) (Ci 1))))))))) (.tup (Eb (Ci 2) (Ci 1))))))) (.cons (.ret (.c (.bl false))) .nil) .nil) (.cons (.fr (.nm 1) (.seq (.pr true .add (Eb (.lst true (Ea (.call 49 (Eb (.v 0) (Ci 0))))) (.sl true (.v 0) (.yes (Ci 1)) (.yes (Ci 4)))))) (.cons (.asg (.nm 2) (.call 50 (Ea (.v 1)))) (.cons (.par 3 4 (.pr true .add (Eb (Ci 3) (.call 51 (Eb (.v 2) (Ci 6))))) (.pr true .add (Eb (Ci 2) (.call 51 (Eb (.v 2) (Ci 5)))))) (.cons (.iff (.or (.not (.call 55 (Ea (.v 3)))) (.pr true .ne (Eb (.call 32 (Ea (.call 54 (Ea (.v 4))))) (.tup (Eb (.v 4) (Ci 1)))))) (.cons (.ret (.c (.bl false))) .nil) .nil) (.cons (.iff (.and (.pr true .lt (Eb (.v 3) (Ci 8))) (.not (.call 56 (Ea (.call 53 (Ea (.v 3))))))) (.cons (.ret (.c (.bl false))) .nil) .nil) (.cons (.par 5 6 (.call 53 (Ea (.pr true .add (Eb (Ci 3) (.call 51 (Eb (.v 2) (Ci 3))))))) (.call 54 (Ea (.pr true .add (Eb (Ci 1) (.call 51 (Eb (.v 2) (Ci 3)))))))) (.cons (.asg (.nm 7) (Ei (.lst true (Eb (.call 32 (Ea (.v 5))) (.call 32 (Ea (.v 6))))) (.pr true .uO (Ea (.call 52 (Eb (.call 32 (Ea (.v 5))) (.call 32 (Ea (.v 6))))))))) (.cons (.iff (.pr true .ne (Eb (.call 32 (Ea (.call 37 (Eb (.v 5) (.v 6))))) (.v 7))) (.cons (.ret (.c (.bl false))) .nil) .nil) .nil)))))))) (.cons (.ret (.c (.bl true))) .nil)))
noncomputable def T(n:Nat):Option Df:=([⟨1,1,b0⟩,⟨3,3,b1⟩,⟨2,2,b2⟩,⟨2,2,b3⟩,⟨3,1,b4⟩,⟨6,2,b5⟩,⟨1,1,b6⟩,⟨2,2,b7⟩,⟨4,2,b8⟩,⟨2,2,b9⟩,⟨1,1,b10⟩,⟨2,2,b11⟩,⟨3,2,Vf⟩,⟨1,1,Vg⟩,⟨4,4,Vh⟩,⟨3,3,Vi⟩,⟨6,4,Vj⟩,⟨3,3,Vk⟩,⟨2,2,Vl⟩,⟨5,2,Vm⟩,⟨2,2,Vn⟩,⟨5,2,Vo⟩,⟨3,1,Vp⟩,⟨1,1,Vq⟩,⟨4,2,b24⟩,⟨3,2,Vr⟩,⟨7,2,Vt⟩,⟨5,4,Oj⟩,⟨4,3,Vu⟩,⟨4,3,KZ⟩,⟨3,1,b30⟩,⟨2,2,Vv⟩,⟨3,1,b32⟩,⟨2,2,b33⟩,⟨3,2,b34⟩,⟨4,3,b35⟩,⟨1,1,b36⟩,⟨2,2,b37⟩,⟨2,2,b38⟩,⟨5,4,b39⟩,⟨2,2,b40⟩,⟨5,4,b41⟩,⟨2,2,b42⟩,⟨2,1,b43⟩,⟨3,3,b44⟩,⟨2,1,b45⟩,⟨2,1,b46⟩,⟨2,1,b47⟩,⟨3,3,b48⟩,⟨2,2,Vw⟩,⟨2,1,Vx⟩,⟨5,2,Vy⟩,⟨2,2,b52⟩,⟨1,1,b53⟩,⟨3,1,b54⟩,⟨2,1,b55⟩,⟨1,1,b56⟩,⟨8,1,Vz⟩]:List Df)[n]?
theorem T_0:T 0=some ⟨1,1,b0⟩:=rfl
theorem T_1:T 1=some ⟨3,3,b1⟩:=rfl
theorem T_2:T 2=some ⟨2,2,b2⟩:=rfl
theorem T_3:T 3=some ⟨2,2,b3⟩:=rfl
theorem T_4:T 4=some ⟨3,1,b4⟩:=rfl
theorem T_5:T 5=some ⟨6,2,b5⟩:=rfl
theorem T_6:T 6=some ⟨1,1,b6⟩:=rfl
theorem T_7:T 7=some ⟨2,2,b7⟩:=rfl
theorem T_8:T 8=some ⟨4,2,b8⟩:=rfl
theorem T_9:T 9=some ⟨2,2,b9⟩:=rfl
theorem znV:T 10=some ⟨1,1,b10⟩:=rfl
theorem zov:T 11=some ⟨2,2,b11⟩:=rfl
theorem zoj:T 12=some ⟨3,2,Vf⟩:=rfl
theorem zoi:T 13=some ⟨1,1,Vg⟩:=rfl
theorem zob:T 14=some ⟨4,4,Vh⟩:=rfl
theorem zoh:T 15=some ⟨3,3,Vi⟩:=rfl
theorem zog:T 16=some ⟨6,4,Vj⟩:=rfl
theorem zn2:T 17=some ⟨3,3,Vk⟩:=rfl
theorem znS:T 18=some ⟨2,2,Vl⟩:=rfl
theorem zn4:T 19=some ⟨5,2,Vm⟩:=rfl
theorem zn9:T 20=some ⟨2,2,Vn⟩:=rfl
theorem zn7:T 21=some ⟨5,2,Vo⟩:=rfl
theorem zn3:T 22=some ⟨3,1,Vp⟩:=rfl
theorem zn8:T 23=some ⟨1,1,Vq⟩:=rfl
theorem zow:T 24=some ⟨4,2,b24⟩:=rfl
theorem znT:T 25=some ⟨3,2,Vr⟩:=rfl
theorem zoa:T 26=some ⟨7,2,Vt⟩:=rfl
theorem VB:T 27=some ⟨5,4,Oj⟩:=rfl
theorem znZ:T 28=some ⟨4,3,Vu⟩:=rfl
theorem Ol:T 29=some ⟨4,3,KZ⟩:=rfl
theorem zoK:T 30=some ⟨3,1,b30⟩:=rfl
theorem zn1:T 31=some ⟨2,2,Vv⟩:=rfl
theorem zoz:T 32=some ⟨3,1,b32⟩:=rfl
theorem zot:T 33=some ⟨2,2,b33⟩:=rfl
theorem zoy:T 34=some ⟨3,2,b34⟩:=rfl
theorem zoP:T 35=some ⟨4,3,b35⟩:=rfl
theorem zos:T 36=some ⟨1,1,b36⟩:=rfl
theorem zox:T 37=some ⟨2,2,b37⟩:=rfl
theorem zoC:T 38=some ⟨2,2,b38⟩:=rfl
theorem zoO:T 39=some ⟨5,4,b39⟩:=rfl
theorem zou:T 40=some ⟨2,2,b40⟩:=rfl
theorem zor:T 41=some ⟨5,4,b41⟩:=rfl
theorem zoQ:T 42=some ⟨2,2,b42⟩:=rfl
theorem zon:T 43=some ⟨2,1,b43⟩:=rfl
theorem zoD:T 44=some ⟨3,3,b44⟩:=rfl
theorem zoG:T 45=some ⟨2,1,b45⟩:=rfl
theorem zoo:T 46=some ⟨2,1,b46⟩:=rfl
theorem zoF:T 47=some ⟨2,1,b47⟩:=rfl
theorem zoL:T 48=some ⟨3,3,b48⟩:=rfl
theorem znY:T 49=some ⟨2,2,Vw⟩:=rfl
theorem zoc:T 50=some ⟨2,1,Vx⟩:=rfl
theorem zok:T 51=some ⟨5,2,Vy⟩:=rfl
theorem zop:T 52=some ⟨2,2,b52⟩:=rfl
theorem zoH:T 53=some ⟨1,1,b53⟩:=rfl
theorem zoE:T 54=some ⟨3,1,b54⟩:=rfl
theorem zoN:T 55=some ⟨2,1,b55⟩:=rfl
theorem zoJ:T 56=some ⟨1,1,b56⟩:=rfl
theorem zod:T 57=some ⟨8,1,Vz⟩:=rfl
noncomputable def aq:Nat->Nat->Bool:=λc e=>(let n:=λc=>if c<0 then c else 0;n e==0||n c==n e)
end eZ
namespace eZ
open PySem PySem.Spec PyProof.Rows L2 Mi
abbrev LK(i:Nat)(x:Str)(k:NameKind):Prop:=(au (top i)).names.lookup x=some k
noncomputable abbrev gI:NameKind:=.globalImplicit
abbrev N4:List Str:=["thing","many","ties"]
abbrev N12:List Str:=["web","place","ends"]
abbrev N13:List Str:=["web"]
abbrev N16:List Str:=["self","free","place","spot","left","end"]
abbrev N17:List Str:=["self","free","place"]
abbrev N18:List Str:=["self","free"]
abbrev N20:List Str:=["self","free"]
abbrev VD:List Str:=["web","ring","k","d","wide"]
abbrev N25:List Str:=["web","ring","board"]
abbrev N30:List Str:=["most","limit","rings"]
abbrev N34:List Str:=["web","place","kept"]
abbrev N35:List Str:=["web","one","other","tie"]
abbrev N38:List Str:=["web","ends"]
abbrev N40:List Str:=["one","other"]
abbrev N41:List Str:=["web","place","name","start","behind"]
abbrev N42:List Str:=["ties","names"]
abbrev N43:List Str:=["web","least"]
abbrev N46:List Str:=["web","least"]
abbrev N53:List Str:=["_law_many"]
abbrev N54:List Str:=["_law_many","_law_ties","_law_one"]
noncomputable def cl(K:W.Frag):Cl:=⟨iZ (lk.L K),λ_=>[],λ_=>eF K "Board",λ_=>["ends","spots","apart","alike"]⟩
structure Top(K:W.Frag)(mg:Str->Option Value):Prop where
 d0:D3 K mg "is_whole" (top 8) ["thing"]
 d1:D3 K mg "is_within" (top 9) ["thing","least","most"]
 d2:D3 K mg "is_row" (top 10) ["thing","many"]
 d3:D3 K mg "check_most" (top 11) ["many","most"]
 d4:D3 K mg "is_web" (top 14) ["thing"]
 d5:D3 K mg "web_of" (top 15) ["many","things"]
 d6:D3 K mg "is_many" (top 16) ["thing"]
 d7:D3 K mg "is_place" (top 17) ["many","thing"]
 d8:D3 K mg "is_tie" (top 18) ["many","thing"]
 d9:D3 K mg "tie_by" (top 19) ["many","thing"]
 yL:D3 K mg "check_web" (top 20) ["thing"]
 K1:D3 K mg "check_place" (top 21) ["web","thing"]
 VF:D3 K mg "tied_to" (top 22) ["web","place"]
 VG:D3 K mg "all_ends" (top 23) ["web"]
 VH:D3 K mg "ring_board" (top 26) ["web","ring"]
 VJ:D3 K mg "is_ring" (top 29) ["thing"]
 VL:D3 K mg "check_ring" (top 30) ["thing"]
 VN:D3 K mg "lowest_terms" (top 31) ["top","bottom"]
 VP:D3 K mg "first_hues" (top 33) ["web","ring"]
 VR:D3 K mg "first_among" (top 34) ["board","choices"]
 Om:D3 K mg "first_spot" (top 35) ["board","answers","free","place"]
 K3:D3 K mg "can_settle" (top 36) ["board","answers","free"]
 V0:D3 K mg "search" (top 37) ["board","answers","free"]
 V1:D3 K mg "plain_rings" (top 40) ["most"]
 Oo:D3 K mg "has_room" (top 41) ["web","ring"]
 nR:D3 K mg "shortest" (top 42) ["web"]
 V2:D3 K mg "is_plain" (top 43) ["k","d"]
 V3:D3 K mg "without" (top 45) ["web","place"]
 V4:D3 K mg "untied" (top 46) ["web","one","other"]
 V5:D3 K mg "topped" (top 47) ["web"]
 V6:D3 K mg "put_beside" (top 48) ["one","other"]
 V7:D3 K mg "with_place" (top 49) ["web","ends"]
 V8:D3 K mg "joined" (top 50) ["one","other","names","between"]
 V9:D3 K mg "names_behind" (top 51) ["one","other"]
 V_:D3 K mg "names_but" (top 52) ["web","place","name","start"]
 Oq:D3 K mg "renamed" (top 53) ["ties","names"]
 Wa:D3 K mg "needed_places" (top 55) ["web"]
 Wb:D3 K mg "is_needed" (top 56) ["web","least","place"]
 K4:D3 K mg "fewest_plain" (top 58) ["web"]
 Wc:D3 K mg "loose_ties" (top 60) ["web"]
 Ot:D3 K mg "is_tight" (top 61) ["web"]
 Wd:D3 K mg "is_loose" (top 62) ["web","least","tie"]
 Wf:D3 K mg "_law_cell" (top 64) ["_law_script","_law_k"]
 Wg:D3 K mg "_law_pen" (top 65) ["_law_cell_here"]
 Gp:D3 K mg "_law_draw" (top 66) ["_law_pen_here","_law_many"]
 Wh:D3 K mg "_law_shorter" (top 67) ["_law_one","_law_other"]
 K5:D3 K mg "_law_round" (top 68) ["_law_many"]
 Ou:D3 K mg "_law_all_tied" (top 69) ["_law_many"]
 Wi:D3 K mg "_law_round_right" (top 70) ["_law_many"]
 Wj:D3 K mg "_law_top_right" (top 71) ["_law_web"]
 Ov:D3 K mg "law" (top 72) ["_law_script"]
 cY:∃t,mg "MOST_PLACES"=some (.int 8 t)
 fG:∃t,mg "MOST_SPOTS"=some (.int 24 t)
 kY:∃t,mg "SO_OFTEN"=some (.int 27720 t)
 z6:mg "all"=none
 z2:mg "bool"=none
 z13:mg "divmod"=none
 z8:mg "enumerate"=none
 z1:mg "int"=none
 z0:mg "isinstance"=none
 z4:mg "len"=none
 K6:mg "list"=none
 Ox:mg "max"=none
 Oz:mg "min"=none
 z9:mg "range"=none
 z7:mg "sorted"=none
 z3:mg "tuple"=none
 z5:mg "zip"=none
 ow:Ow K (cl K) 0
 mq:Mk K ((cl K).b 0) (iB K ((cl K).b 0) "__init__")
 mc:mg "Board"=some (.ref ((cl K).b 0))
 Wm:Mt K ((cl K).b 0) "__init__" "Board.__init__" Fb ["self","web","apart","alike"] (iB K ((cl K).b 0) "__init__") (jM K ((cl K).b 0) "__init__" Fb)
 Wn:Mt K ((cl K).b 0) "far_apart" "Board.far_apart" Hj ["self","spot","other"] (iB K ((cl K).b 0) "far_apart") (jM K ((cl K).b 0) "far_apart" Hj)
 K7:Mt K ((cl K).b 0) "settled" "Board.settled" Fd ["self","free","place","spot"] (iB K ((cl K).b 0) "settled") (jM K ((cl K).b 0) "settled" Fd)
 OD:Mt K ((cl K).b 0) "ties_left" "Board.ties_left" Fe ["self","free","place"] (iB K ((cl K).b 0) "ties_left") (jM K ((cl K).b 0) "ties_left" Fe)
 Wo:Mt K ((cl K).b 0) "bound" "Board.bound" Fg ["self","free"] (iB K ((cl K).b 0) "bound") (jM K ((cl K).b 0) "bound" Fg)
 Wq:Mt K ((cl K).b 0) "narrowest" "Board.narrowest" Hl ["self","free"] (iB K ((cl K).b 0) "narrowest") (jM K ((cl K).b 0) "narrowest" Hl)
 Wr:Mt K ((cl K).b 0) "all_free" "Board.all_free" Fj ["self","free"] (iB K ((cl K).b 0) "all_free") (jM K ((cl K).b 0) "all_free" Fj)
 lam:DN K mg (fdOf K "plain_rings" (top 40))
theorem zkm{K:W.Frag}{h:Heap}{mg:Str->Option Value}(Sb:rE fs ms xs lk bd K)(LH:kW K h)(X:K.In h)(G:h.Ns mainGlobals mg):Top K mg where
 d0:=mL Sb.i X G 0
 d1:=Gg Sb.i X G 1
 d2:=lB Sb.i X G 2
 d3:=lB Sb.i X G 3
 d4:=mL Sb.i X G 4
 d5:=lB Sb.i X G 5
 d6:=mL Sb.i X G 6
 d7:=lB Sb.i X G 7
 d8:=lB Sb.i X G 8
 d9:=lB Sb.i X G 9
 yL:=mL Sb.i X G 10
 K1:=lB Sb.i X G 11
 VF:=lB Sb.i X G 12
 VG:=mL Sb.i X G 13
 VH:=lB Sb.i X G 14
 VJ:=mL Sb.i X G 15
 VL:=mL Sb.i X G 16
 VN:=lB Sb.i X G 17
 VP:=lB Sb.i X G 18
 VR:=lB Sb.i X G 19
 Om:=Ug Sb.i X G 20
 K3:=Gg Sb.i X G 21
 V0:=Gg Sb.i X G 22
 V1:=mL Sb.i X G 23
 Oo:=lB Sb.i X G 24
 nR:=mL Sb.i X G 25
 V2:=lB Sb.i X G 26
 V3:=lB Sb.i X G 27
 V4:=Gg Sb.i X G 28
 V5:=mL Sb.i X G 29
 V6:=lB Sb.i X G 30
 V7:=lB Sb.i X G 31
 V8:=Ug Sb.i X G 32
 V9:=lB Sb.i X G 33
 V_:=Ug Sb.i X G 34
 Oq:=lB Sb.i X G 35
 Wa:=mL Sb.i X G 36
 Wb:=Gg Sb.i X G 37
 K4:=mL Sb.i X G 38
 Wc:=mL Sb.i X G 39
 Ot:=mL Sb.i X G 40
 Wd:=Gg Sb.i X G 41
 Wf:=lB Sb.i X G 42
 Wg:=mL Sb.i X G 43
 Gp:=lB Sb.i X G 44
 Wh:=lB Sb.i X G 45
 K5:=mL Sb.i X G 46
 Ou:=mL Sb.i X G 47
 Wi:=mL Sb.i X G 48
 Wj:=mL Sb.i X G 49
 Ov:=mL Sb.i X G 50
 cY:=T5 (Sb.i.gd.it ("MOST_PLACES",8) (mG 0)) X G
 fG:=T5 (Sb.i.gd.it ("MOST_SPOTS",24) (mG 1)) X G
 kY:=T5 (Sb.i.gd.it ("SO_OFTEN",27720) (mG 2)) X G
 z6:=rB (Sb.i.gd.no "all" (mG 0)) X G
 z2:=rB (Sb.i.gd.no "bool" (mG 1)) X G
 z13:=rB (Sb.i.gd.no "divmod" (mG 2)) X G
 z8:=rB (Sb.i.gd.no "enumerate" (mG 3)) X G
 z1:=rB (Sb.i.gd.no "int" (mG 4)) X G
 z0:=rB (Sb.i.gd.no "isinstance" (mG 5)) X G
 z4:=rB (Sb.i.gd.no "len" (mG 6)) X G
 K6:=rB (Sb.i.gd.no "list" (mG 7)) X G
 Ox:=rB (Sb.i.gd.no "max" (mG 8)) X G
 Oz:=rB (Sb.i.gd.no "min" (mG 9)) X G
 z9:=rB (Sb.i.gd.no "range" (mG 10)) X G
 z7:=rB (Sb.i.gd.no "sorted" (mG 11)) X G
 z3:=rB (Sb.i.gd.no "tuple" (mG 12)) X G
 z5:=rB (Sb.i.gd.no "zip" (mG 13)) X G
 ow:=zmP Sb.b rfl rfl (by decide +kernel)
 mq:=zny Sb.b (Sb.m ("__init__","Board.__init__",Fb) (mG 0)).2
 mc:=zmS Sb.b X G
 Wm:=zol (Sb.m ("__init__","Board.__init__",Fb) (mG 0))
 Wn:=zn6 (Sb.m ("far_apart","Board.far_apart",Hj) (mG 1))
 K7:=zol (Sb.m ("settled","Board.settled",Fd) (mG 2))
 OD:=zn6 (Sb.m ("ties_left","Board.ties_left",Fe) (mG 3))
 Wo:=UL (Sb.m ("bound","Board.bound",Fg) (mG 4))
 Wq:=UL (Sb.m ("narrowest","Board.narrowest",Hl) (mG 5))
 Wr:=UL (Sb.m ("all_free","Board.all_free",Fj) (mG 6))
 lam:=LH.lk X G (top 40)
abbrev FO(P:Program)(w:World)(K:W.Frag)(mg:Str->Option Value)(base:Heap)(k:Nat)(c:Bool)(x:Str)(i:Nat)(ps:List Str)(n:Nat):Prop:=cJ P w K mg base (fL P w) c k (fZ K x) (fdOf K x (top i)) ps (lM K (cl K) (call aq T k c n))
abbrev FM(P:Program)(w:World)(K:W.Frag)(mg:Str->Option Value)(base:Heap)(k:Nat)(m:Str)(st:Stmt)(ps:List Str)(sp:Sp):Prop:=cJ P w K mg base (fL P w) true k (iB K ((cl K).b 0) m) (jM K ((cl K).b 0) m st) ps sp
structure Fs(P:Program)(w:World)(K:W.Frag)(mg:Str->Option Value)(base:Heap)(k:Nat):Prop where
 t0:FO P w K mg base k true "is_whole" 8 ["thing"] 0
 t1:FO P w K mg base k true "is_within" 9 ["thing","least","most"] 1
 t2:FO P w K mg base k true "is_row" 10 ["thing","many"] 2
 t3:FO P w K mg base k true "check_most" 11 ["many","most"] 3
 t4:FO P w K mg base k true "is_web" 14 ["thing"] 4
 t5:FO P w K mg base k true "web_of" 15 ["many","things"] 5
 t6:FO P w K mg base k true "is_many" 16 ["thing"] 6
 t7:FO P w K mg base k true "is_place" 17 ["many","thing"] 7
 t8:FO P w K mg base k true "is_tie" 18 ["many","thing"] 8
 t9:FO P w K mg base k true "tie_by" 19 ["many","thing"] 9
 t10:FO P w K mg base k true "check_web" 20 ["thing"] 10
 t11:FO P w K mg base k true "check_place" 21 ["web","thing"] 11
 t12:FO P w K mg base k true "tied_to" 22 ["web","place"] 12
 t13:FO P w K mg base k true "all_ends" 23 ["web"] 13
 t14:FM P w K mg base k "__init__" Fb ["self","web","apart","alike"] (N7 K (cl K) 0 (call aq T k true 14))
 t15:FM P w K mg base k "far_apart" Hj ["self","spot","other"] (lM K (cl K) (call aq T k true 15))
 OJ:FM P w K mg base k "settled" Fd ["self","free","place","spot"] (lM K (cl K) (call aq T k true 16))
 Ws:FM P w K mg base k "ties_left" Fe ["self","free","place"] (lM K (cl K) (call aq T k true 17))
 t18:FM P w K mg base k "bound" Fg ["self","free"] (lM K (cl K) (call aq T k true 18))
 t19:FM P w K mg base k "narrowest" Hl ["self","free"] (lM K (cl K) (call aq T k true 19))
 t20:FM P w K mg base k "all_free" Fj ["self","free"] (lM K (cl K) (call aq T k true 20))
 t21:FO P w K mg base k true "ring_board" 26 ["web","ring"] 21
 t22:FO P w K mg base k true "is_ring" 29 ["thing"] 22
 t23:FO P w K mg base k true "check_ring" 30 ["thing"] 23
 t24:FO P w K mg base k true "lowest_terms" 31 ["top","bottom"] 24
 t25:FO P w K mg base k true "first_hues" 33 ["web","ring"] 25
 t26:FO P w K mg base k true "first_among" 34 ["board","choices"] 26
 Wt:FO P w K mg base k true "first_spot" 35 ["board","answers","free","place"] 27
 O1:FO P w K mg base k true "can_settle" 36 ["board","answers","free"] 28
 t29:FO P w K mg base k true "search" 37 ["board","answers","free"] 29
 t30:FO P w K mg base k true "plain_rings" 40 ["most"] 30
 Wu:FO P w K mg base k true "has_room" 41 ["web","ring"] 31
 pA:FO P w K mg base k true "shortest" 42 ["web"] 32
 t33:FO P w K mg base k true "is_plain" 43 ["k","d"] 33
 t34:FO P w K mg base k true "without" 45 ["web","place"] 34
 t35:FO P w K mg base k true "untied" 46 ["web","one","other"] 35
 t36:FO P w K mg base k true "topped" 47 ["web"] 36
 t37:FO P w K mg base k true "put_beside" 48 ["one","other"] 37
 t38:FO P w K mg base k true "with_place" 49 ["web","ends"] 38
 t39:FO P w K mg base k true "joined" 50 ["one","other","names","between"] 39
 t40:FO P w K mg base k true "names_behind" 51 ["one","other"] 40
 t41:FO P w K mg base k true "names_but" 52 ["web","place","name","start"] 41
 Wv:FO P w K mg base k true "renamed" 53 ["ties","names"] 42
 t43:FO P w K mg base k true "needed_places" 55 ["web"] 43
 t44:FO P w K mg base k true "is_needed" 56 ["web","least","place"] 44
 O2:FO P w K mg base k true "fewest_plain" 58 ["web"] 45
 t46:FO P w K mg base k true "loose_ties" 60 ["web"] 46
 Ww:FO P w K mg base k true "is_tight" 61 ["web"] 47
 t48:FO P w K mg base k true "is_loose" 62 ["web","least","tie"] 48
 t49:FO P w K mg base k true "_law_cell" 64 ["_law_script","_law_k"] 49
 t50:FO P w K mg base k true "_law_pen" 65 ["_law_cell_here"] 50
 K8:FO P w K mg base k true "_law_draw" 66 ["_law_pen_here","_law_many"] 51
 t52:FO P w K mg base k true "_law_shorter" 67 ["_law_one","_law_other"] 52
 O4:FO P w K mg base k true "_law_round" 68 ["_law_many"] 53
 Wx:FO P w K mg base k true "_law_all_tied" 69 ["_law_many"] 54
 t55:FO P w K mg base k true "_law_round_right" 70 ["_law_many"] 55
 t56:FO P w K mg base k true "_law_top_right" 71 ["_law_web"] 56
 t57:FO P w K mg base k true "law" 72 ["_law_script"] 57
section
variable {P:Program}{w:World}{K:W.Frag}{mg:Str->Option Value}{base:Heap}{k:Nat}
theorem zi3(Tp:Top K mg)(Fk:Fs P w K mg base k):Fs P w K mg base (k+1) where
 t0:=fJ Tp.d0 ["thing"] T_0 λ_ _ _ _ _ _ hr=>(aH (bW (wg (Nu rfl Tp.z0 gk (gv 0) (Nt rfl Tp.z1 zk9 gk dk)) (vo (zkH (Nu rfl Tp.z0 gk (gv 0) (Nt rfl Tp.z2 zjp gk dk))))))
 aN)
 t1:=fJ Tp.d1 ["thing","least","most"] T_1 λ_ _ _ _ _ _ hr=>(aH (bW (wg (gc Fk.t0 Tp.d0 hr bx gk (aA (gv 0) aG)) (vo (zmU zof zof (gv 1) (gv 0) (gv 2)))))
 aN)
 t2:=fJ Tp.d2 ["thing","many"] T_2 λ_ _ _ _ _ _ hr=>(aH (bW (wg (Nu rfl Tp.z0 gk (gv 0) (Nt rfl Tp.z3 Nq gk dk)) (vo (nF (qx hr) (Gd Tp.z4 gk (aA (gv 0) aG)) (gv 1)))))
 aN)
 t3:=fJ Tp.d3 ["many","most"] T_3 λ_ _ _ _ _ _ hr=>(aH (iy (lA S_ (gv 0) (gv 1)) (aH Ac
 aN) aN)
 aN)
 t4:=fJ Tp.d4 N4 T_4 λ_ _ _ _ _ _ hr=>(aH (iy (pH (jx (gc Fk.t2 Tp.d2 hr bx gk (aA (gv 0) (aA aO aG))))) (aH (bW rA)
 aN) aN)
 (aH (J7 1 2 rfl rfl nd rfl rfl jc jl rfl rfl (gv 0))
 (aH (iy (zZ (Dn (pH (jx (gc Fk.t6 Tp.d6 hr bx gk (aA (gv 1) aG)))) (J0 (pH (jx (Nu rfl Tp.z0 gk (gv 2) (Nt rfl Tp.z3 Nq gk dk))))))) (aH (bW rA)
 aN) aN)
 (aH (iy (pH (jx (Tq rfl Tp.z6 gk (aA (nQ (au (top 14)) N4 ["tie"] ["many"] [1] rfl rfl rfl (by decide +kernel) (by decide +kernel) (mJ 0) (by decide +kernel) (sY (gv 2)) (λ_ _ _ _ _ _=>(mK 0 (by decide +kernel) rfl (by decide +kernel))) (λ_ _ _ _ _ _=>qy) (λ_ _ _ _ _ _=>(gc Fk.t8 Tp.d8 hr J6 Ah (aA (cB 1) (aA (cB 0) aG))))) aG)))) (aH (bW rA)
 aN) aN)
 (aH (bW (Tq rfl Tp.z6 gk (aA (nQ (au (top 14)) N4 ["tie","later"] [] [] rfl rfl rfl (by decide +kernel) (by decide +kernel) (JF 0 1) (by decide +kernel) (zm5 Tp.z5 gk (gv 2) (Nr (gv 2) (J1 aO) Tn)) (λ_ _ _ _ _ _=>(Nv 0 1 rfl (by decide +kernel) rfl rfl (by decide +kernel) (by decide +kernel))) (λ_ _ _ _ _ _=>qy) (λ_ _ _ _ _ _=>(nF (JZ hr) (cB 0) (cB 1)))) aG)))
 aN)))))
 t5:=fJ Tp.d5 ["many","things","ties","at","thing","tie"] T_5 λ_ _ _ _ _ _ hr=>(aH (iy (pH (jx (gc Fk.t6 Tp.d6 hr bx gk (aA (gv 0) aG)))) (aH Ac
 aN) aN)
 (aH (iD 2 nd rfl jl rfl (wu aG))
 (aH (Dp wz rfl rfl (Ua Tp.z8 gk (gv 1)) (zid 3 4 rfl rfl nd rfl rfl jl jl rfl rfl) (aH (iD 5 nd rfl jl rfl (gc Fk.t9 Tp.d9 hr bx gk (aA (gv 0) (aA (gv 4) aG))))
 (aH (iy (zZ (Dn (zlZ (gv 5)) (J0 (lA (Td hr) (gv 5) (gv 2))))) (aH Ac
 aN) aN)
 (aH (pI (Tt (gv 2) (gv 5)))
 aN))))
 (aH (bW (gY (aA (gv 0) (aA (vq Tp.z3 gk (aA (T9 Tp.z7 gk (aA (gv 2) aG)) aG)) aG))))
 aN))))
 t6:=fJ Tp.d6 ["thing"] T_6 λ_ _ _ _ _ _ hr=>(aH (bW (gc Fk.t1 Tp.d1 hr bx gk (aA (gv 0) (aA aO (aA (Gb Tp.cY gk dk) aG)))))
 aN)
 t7:=fJ Tp.d7 ["many","thing"] T_7 λ_ _ _ _ _ _ hr=>(aH (bW (gc Fk.t1 Tp.d1 hr bx gk (aA (gv 1) (aA aO (aA (dh zX (gv 0) aO) aG)))))
 aN)
 t8:=fJ Tp.d8 ["many","thing","one","other"] T_8 λ_ _ _ _ _ _ hr=>(aH (iy (pH (jx (gc Fk.t2 Tp.d2 hr bx gk (aA (gv 1) (aA aO aG))))) (aH (bW rA)
 aN) aN)
 (aH (J7 2 3 rfl rfl nd rfl rfl jl jl rfl rfl (gv 1))
 (aH (bW (wg (gc Fk.t7 Tp.d7 hr bx gk (aA (gv 0) (aA (gv 2) aG))) (wg (gc Fk.t7 Tp.d7 hr bx gk (aA (gv 0) (aA (gv 3) aG))) (vo (nF (JZ hr) (gv 2) (gv 3))))))
 aN)))
 t9:=fJ Tp.d9 ["many","thing"] T_9 λ_ _ _ _ _ _ hr=>(aH (iy (jx (gc Fk.t8 Tp.d8 hr bx gk (aA (gv 0) (aA (gv 1) aG)))) (aH (bW (gv 1))
 aN) aN)
 (aH (iy (zZ (Ti (jx (gc Fk.t2 Tp.d2 hr bx gk (aA (gv 1) (aA aO aG)))) (Tf (jx (gc Fk.t8 Tp.d8 hr bx gk (aA (gv 0) (aA (zkQ (gv 1)) aG))))))) (aH (bW (zkQ (gv 1)))
 aN) aN)
 (aH (bW Dk)
 aN)))
 t10:=fJ Tp.yL ["thing"] znV λ_ _ _ _ _ _ hr=>(aH (iy (pH (jx (gc Fk.t4 Tp.d4 hr bx gk (aA (gv 0) aG)))) (aH Ac
 aN) aN)
 aN)
 t11:=fJ Tp.K1 ["web","thing"] zov λ_ _ _ _ _ _ hr=>(aH (iy (pH (jx (gc Fk.t7 Tp.d7 hr bx gk (aA (cX (gv 0) aO) (aA (gv 1) aG))))) (aH Ac
 aN) aN)
 aN)
 t12:=fJ Tp.VF N12 zoj λ_ _ _ _ _ _ hr=>(aH (Tz 2 (au (top 22)) N12 ["one","other"] ["place"] [1] nd rfl jl rfl rfl rfl rfl (by decide +kernel) (by decide +kernel) (JF 0 1) (by decide +kernel) (sY (cX (gv 0) aO)) (λ_ _ _ _ _ _=>(Nv 0 1 rfl (by decide +kernel) rfl rfl (by decide +kernel) (by decide +kernel))) (λ_ _ _ _ _ _=>(z_ (lA (Td hr) (cB 2) (gY (aA (cB 0) (aA (cB 1) aG)))))) (λ_ _ _ _ _ _=>(Tj (lA (qx hr) (cB 0) (cB 2)) (cB 1) (cB 0))))
 (aH (bW (vq Tp.z3 gk (aA (T9 Tp.z7 gk (aA (gv 2) aG)) aG)))
 aN))
 t13:=fJ Tp.VG N13 zoi λ_ _ _ _ _ _ hr=>(aH (bW (nQ (au (top 23)) N13 ["place"] ["web"] [0] rfl rfl rfl (by decide +kernel) (by decide +kernel) (mJ 0) (by decide +kernel) (vA Tp.z9 gk (cX (gv 0) aO)) (λ_ _ _ _ _ _=>(mK 0 (by decide +kernel) rfl (by decide +kernel))) (λ_ _ _ _ _ _=>qy) (λ_ _ _ _ _ _=>(gc Fk.t12 Tp.VF hr J6 Ah (aA (cB 1) (aA (cB 0) aG))))))
 aN)
 t14:=zjO (N:=["self","web","apart","alike"]) Tp.Wm.fn zob (λ_ _ _ _ _ _ hr=>(N8 (j:=0) Tp.ow (gc Fk.t13 Tp.VG hr bx gk (aA (gv 1) aG)) (N8 (j:=0) Tp.ow (zlk rfl Tp.z3 gk Tp.z9 gk (aA (Gd Tp.z4 gk (aA (gv 2) aG)) aG)) (N8 (j:=0) Tp.ow (gv 2) (N8 (j:=0) Tp.ow (gv 3) zkG))))) (by show (4:Nat)<=900;decide)
 t15:=fM Tp.Wn ["self","spot","other"] zoh λ_ _ _ _ _ _ hr=>(aH (bW (cX (cX (Gk Tp.ow (gv 0)) (gv 1)) (gv 2)))
 aN)
 OJ:=fM Tp.K7 N16 zog λ_ _ _ _ _ _ hr=>(aH (iD 4 nd rfl jl rfl (Tr Tp.K6 gk (aA (gv 1) aG)))
 (aH (Ny (gv 4) (gv 2) Dk)
 (aH (Dp wz rfl rfl (sY (cX (Gk Tp.ow (gv 0)) (gv 2))) (J8 5 nd rfl jl rfl) (aH (iy (Te (cX (gv 4) (gv 5))) (aH (Ny (gv 4) (gv 5) (vq Tp.z3 gk (aA (nQ (au (Fd)) N16 ["other"] ["self","spot"] [0,3] rfl rfl rfl (by decide +kernel) (by decide +kernel) (mJ 0) (by decide +kernel) (sY (cX (gv 4) (gv 5))) (λ_ _ _ _ _ _=>(mK 0 (by decide +kernel) rfl (by decide +kernel))) (λ_ _ _ _ _ _=>(z_ (jx (yH Tp.ow Tp.Wn Fk.t15 hr (cB 1) (aA (cB 2) (aA (cB 0) aG)))))) (λ_ _ _ _ _ _=>(cB 0))) aG)))
 aN) aN)
 aN))
 (aH (bW (vq Tp.z3 gk (aA (gv 4) aG)))
 aN))))
 Ws:=fM Tp.OD N17 zn2 λ_ _ _ _ _ _ hr=>(aH (bW (Gd Tp.z4 gk (aA (nQ (au (Fe)) N17 ["end"] ["free"] [1] rfl rfl rfl (by decide +kernel) (by decide +kernel) (mJ 0) (by decide +kernel) (sY (cX (Gk Tp.ow (gv 0)) (gv 2))) (λ_ _ _ _ _ _=>(mK 0 (by decide +kernel) rfl (by decide +kernel))) (λ_ _ _ _ _ _=>(z_ (Te (cX (cB 1) (cB 0))))) (λ_ _ _ _ _ _=>(cB 0))) aG)))
 aN)
 t18:=fM Tp.Wo N18 znS λ_ _ _ _ _ _ hr=>(aH (bW (vq Tp.z3 gk (aA (nQ (au (Fg)) N18 ["place","spots"] ["self","free"] [0,1] rfl rfl rfl (by decide +kernel) (by decide +kernel) (JF 0 1) (by decide +kernel) (Ua Tp.z8 gk (gv 1)) (λ_ _ _ _ _ _=>(Nv 0 1 rfl (by decide +kernel) rfl rfl (by decide +kernel) (by decide +kernel))) (λ_ _ _ _ _ _=>qy) (λ_ _ _ _ _ _=>(Tj (lA S_ (yH Tp.ow Tp.OD Fk.Ws hr (cB 2) (aA (cB 3) (aA (cB 0) aG))) aO) (cB 1) Dk))) aG)))
 aN)
 t19:=fM Tp.Wq ["self","free","ranks","place","spots"] zn4 λ_ _ _ _ _ _ hr=>(aH (iD 2 nd rfl jl rfl (wu aG))
 (aH (Dp wz rfl rfl (Ua Tp.z8 gk (gv 1)) (zid 3 4 rfl rfl nd rfl rfl jl jl rfl rfl) (aH (iy (Te (gv 4)) (aH (pI (Tt (gv 2) (gY (aA (Gd Tp.z4 gk (aA (gv 4) aG)) (aA (zni (yH Tp.ow Tp.OD Fk.Ws hr (gv 0) (aA (gv 1) (aA (gv 3) aG)))) (aA (gv 3) aG))))))
 aN) aN)
 aN))
 (aH (bW (Tj (zm6 (gv 2)) (cX (zk0 hr rfl Tp.Oz gk (aA (gv 2) aG)) aO) Dk))
 aN)))
 t20:=fM Tp.Wr N20 zn9 λ_ _ _ _ _ _ hr=>(aH (bW (Tq rfl Tp.z6 gk (aA (nQ (au (Fj)) N20 ["spots"] ["self"] [0] rfl rfl rfl (by decide +kernel) (by decide +kernel) (mJ 0) (by decide +kernel) (sY (gv 1)) (λ_ _ _ _ _ _=>(mK 0 (by decide +kernel) rfl (by decide +kernel))) (λ_ _ _ _ _ _=>qy) (λ_ _ _ _ _ _=>(S9 (zm2 (cB 0)) (vo (nF (qx hr) (cB 0) (Gk Tp.ow (cB 1))))))) aG)))
 aN)
 t21:=fR Tp.VH VD zn7 λ_ _ _ _ _ _ hr=>(aH (J7 2 3 rfl rfl nd rfl rfl jc jc rfl rfl (gv 1))
 (aH (iD 4 nd rfl jc rfl (nQ (au (top 26)) VD ["gap"] ["k","d"] [2,3] rfl rfl rfl (by decide +kernel) (by decide +kernel) (mJ 0) (by decide +kernel) (vA Tp.z9 gk (gv 2)) (λ_ _ _ _ _ _=>(mK 0 (by decide +kernel) rfl (by decide +kernel))) (λ_ _ _ _ _ _=>qy) (λ_ _ _ _ _ _=>(nF Tc (ziB rfl Tp.Oz Ah (aA (cB 0) (aA (dh zX (cB 1) (cB 0)) aG))) (cB 2)))))
 (aH (bW (zoM Tp.mq Fk.t14 (Mi.bC.made hr _ _) Tp.Wm.bd Tp.mc gk (aA (gv 0) (aA (nQ (au (top 26)) VD ["spot"] ["k","wide"] [2,4] rfl rfl rfl (by decide +kernel) (by decide +kernel) (mJ 0) (by decide +kernel) (vA Tp.z9 gk (gv 2)) (λ_ _ _ _ _ _=>(mK 0 (by decide +kernel) rfl (by decide +kernel))) (λ_ _ _ _ _ _=>qy) (λ_ _ _ _ _ _=>(ziG ["spot","k","wide"] ["other"] ["wide","spot"] [2,0] rfl rfl (by decide +kernel) (by decide +kernel) (mJ 0) (by decide +kernel) (vA Tp.z9 Ah (cB 1)) (λ_ _ _ _ _ _=>(mK 0 (by decide +kernel) rfl (by decide +kernel))) (λ_ _ _ _ _ _=>qy) (λ_ _ _ _ _ _=>(cX (cB 1) (dh zX (cB 2) (cB 0))))))) (aA rA aG)))))
 aN)))
 t22:=fJ Tp.VJ ["thing","k","d"] zn3 λ_ _ _ _ _ _ hr=>(aH (iy (pH (jx (gc Fk.t2 Tp.d2 hr bx gk (aA (gv 0) (aA aO aG))))) (aH (bW rA)
 aN) aN)
 (aH (J7 1 2 rfl rfl nd rfl rfl jl jl rfl rfl (gv 0))
 (aH (bW (wg (gc Fk.t1 Tp.d1 hr bx gk (aA (gv 1) (aA aO (aA (Gb Tp.fG gk dk) aG)))) (vo (gc Fk.t1 Tp.d1 hr bx gk (aA (gv 2) (aA aO (aA (gv 1) aG)))))))
 aN)))
 t23:=fJ Tp.VL ["thing"] zn8 λ_ _ _ _ _ _ hr=>(aH (iy (pH (jx (gc Fk.t22 Tp.VJ hr bx gk (aA (gv 0) aG)))) (aH Ac
 aN) aN)
 aN)
 t24:=fJ Tp.VN ["top","bottom","common","rest"] zow λ_ _ _ _ _ _ hr=>(aH (Nz 2 3 rfl rfl nd rfl rfl (by decide) jl jl (gv 0) (gv 1) rfl)
 (aH (TV wz (lA S_ (gv 3) aO) (aH (Nz 2 3 rfl rfl nd rfl rfl (by decide) jl jl (gv 3) (dh Dm (gv 2) (gv 3)) rfl)
 aN))
 (aH (bW (gY (aA (dh JV (gv 0) (gv 2)) (aA (dh JV (gv 1) (gv 2)) aG))))
 aN)))
 t25:=fJ Tp.VP N25 znT λ_ _ _ _ _ _ hr=>(aH (pI (gc Fk.t10 Tp.yL hr bx gk (aA (gv 0) aG)))
 (aH (pI (gc Fk.t23 Tp.VL hr bx gk (aA (gv 1) aG)))
 (aH (iD 2 nd rfl jc rfl (gc Fk.t21 Tp.VH hr bx gk (aA (gv 0) (aA (gv 1) aG))))
 (aH (bW (gc Fk.t26 Tp.VR hr bx gk (aA (gv 2) (aA (nQ (au (top 33)) N25 ["place"] ["board"] [2] rfl rfl rfl (by decide +kernel) (by decide +kernel) (mJ 0) (by decide +kernel) (vA Tp.z9 gk (cX (gv 0) aO)) (λ_ _ _ _ _ _=>(mK 0 (by decide +kernel) rfl (by decide +kernel))) (λ_ _ _ _ _ _=>qy) (λ_ _ _ _ _ _=>(Gk Tp.ow (cB 1)))) aG))))
 aN))))
 t26:=fJ Tp.VR ["board","choices","free","answers","row","place","spot"] zoa λ_ _ _ _ _ _ hr=>(aH (iD 2 nd rfl jl rfl (vq Tp.z3 gk (aA (gv 1) aG)))
 (aH (iD 3 nd rfl jl rfl zmi)
 (aH (iy (pH (jx (gc Fk.O1 Tp.K3 hr bx gk (aA (gv 0) (aA (gv 3) (aA (gv 2) aG)))))) (aH (bW Dk)
 aN) aN)
 (aH (iD 4 nd rfl jl rfl (wu aG))
 (aH (Dp wz rfl rfl (vA Tp.z9 gk (Gd Tp.z4 gk (aA (gv 1) aG))) (J8 5 nd rfl jl rfl) (aH (iD 6 nd rfl jl rfl (gc Fk.Wt Tp.Om hr bx gk (aA (gv 0) (aA (gv 3) (aA (gv 2) (aA (gv 5) aG))))))
 (aH (iD 2 nd rfl jl rfl (yH Tp.ow Tp.K7 Fk.OJ hr (gv 0) (aA (gv 2) (aA (gv 5) (aA (gv 6) aG)))))
 (aH (pI (Tt (gv 4) (gv 6)))
 aN))))
 (aH (bW (vq Tp.z3 gk (aA (gv 4) aG)))
 aN))))))
 Wt:=fJ Tp.Om ["board","answers","free","place","spot"] VB λ_ _ _ _ _ _ hr=>(aH (Dp wz rfl rfl (sY (cX (gv 2) (gv 3))) (J8 4 nd rfl jl rfl) (aH (iy (jx (gc Fk.O1 Tp.K3 hr bx gk (aA (gv 0) (aA (gv 1) (aA (yH Tp.ow Tp.K7 Fk.OJ hr (gv 0) (aA (gv 2) (aA (gv 3) (aA (gv 4) aG)))) aG))))) (aH (bW (gv 4))
 aN) aN)
 aN))
 (aH (bW Dk)
 aN))
 O1:=fJ Tp.K3 ["board","answers","free","rest"] znZ λ_ _ _ _ _ _ hr=>(aH (iy (lA (Td hr) (gY aG) (gv 2)) (aH (bW rA)
 aN) aN)
 (aH (iD 3 nd rfl jl rfl (yH Tp.ow Tp.Wo Fk.t18 hr (gv 0) (aA (gv 2) aG)))
 (aH (iy (zkM hr (gv 3) (gv 1)) (aH (zlG hr (gv 1) (gv 3) (gc Fk.t29 Tp.V0 hr bx gk (aA (gv 0) (aA (gv 1) (aA (gv 3) aG)))))
 aN) aN)
 (aH (bW (zkt hr (gv 1) (gv 3)))
 aN))))
 t29:=fJ Tp.V0 ["board","answers","free","place"] Ol λ_ _ _ _ _ _ hr=>(aH (iD 3 nd rfl jl rfl (yH Tp.ow Tp.Wq Fk.t19 hr (gv 0) (aA (gv 2) aG)))
 (aH (iy (zlZ (gv 3)) (aH (bW rA)
 aN) aN)
 (aH (iy (zZ (Ti (jx (Gk Tp.ow (gv 0))) (Tf (jx (yH Tp.ow Tp.Wr Fk.t20 hr (gv 0) (aA (gv 2) aG)))))) (aH (bW (gc Fk.O1 Tp.K3 hr bx gk (aA (gv 0) (aA (gv 1) (aA (yH Tp.ow Tp.K7 Fk.OJ hr (gv 0) (aA (gv 2) (aA (gv 3) (aA aO aG)))) aG)))))
 aN) aN)
 (aH (bW (ziz (gc Fk.Wt Tp.Om hr bx gk (aA (gv 0) (aA (gv 1) (aA (gv 2) (aA (gv 3) aG)))))))
 aN))))
 t30:=fJL Tp.V1 Tp.lam N30 zoK λ_ _ _ _ _ _ hr hL=>(aH (iD 1 nd rfl jl rfl (ziB rfl Tp.Oz gk (aA (gv 0) (aA (Gb Tp.fG gk dk) aG))))
 (aH (ziF 2 (au (top 40)) N30 ["k","d"] [] [] nd rfl jl rfl rfl rfl rfl (by decide +kernel) (by decide +kernel) (mJ 0) (mJ 1) (by decide +kernel) (Tv Tp.z9 gk aO (dh jK (gv 1) aO)) (λ_ _ _ _ _ _=>(mK 0 (by decide +kernel) rfl (by decide +kernel))) (λ_ _ _ _ _ _=>(Tv Tp.z9 Ah aO (dh jK (cB 0) aO))) (λ_ _ _ _ _ _=>(mK 1 (by decide +kernel) rfl (by decide +kernel))) (λ_ _ _ _ _ _=>(z_ (jx (gc Fk.t33 Tp.V2 hr J6 Ah (aA (cB 0) (aA (cB 1) aG)))))) (λ_ _ _ _ _ _=>(gY (aA (cB 0) (aA (cB 1) aG)))))
 (aH (bW (zkg "ring" hL hr rfl Tp.z7 gk (gv 2) (λ_ _ _ _=>(dh JV (dh Dl (cX (gv 0) aO) (Gb Tp.kY gk dk)) (cX (gv 0) aO)))))
 aN)))
 Wu:=fJ Tp.Oo ["web","ring"] zn1 λ_ _ _ _ _ _ hr=>(aH (bW (ziz (gc Fk.t25 Tp.VP hr bx gk (aA (gv 0) (aA (gv 1) aG)))))
 aN)
 pA:=fJ Tp.nR ["web","rings","at"] zoz λ_ _ _ _ _ _ hr=>(aH (pI (gc Fk.t10 Tp.yL hr bx gk (aA (gv 0) aG)))
 (aH (iD 1 nd rfl jl rfl (gc Fk.t30 Tp.V1 hr bx gk (aA (cX (gv 0) aO) aG)))
 (aH (iD 2 nd rfl jl rfl aO)
 (aH (TV wz (pH (jx (gc Fk.Wu Tp.Oo hr bx gk (aA (gv 0) (aA (cX (gv 1) (gv 2)) aG))))) (aH (zl3 2 nd rfl jl rfl aO)
 aN))
 (aH (bW (cX (gv 1) (gv 2)))
 aN)))))
 t33:=fJ Tp.V2 ["k","d"] zot λ_ _ _ _ _ _ hr=>(aH (bW (wg (nF (qx hr) (gc Fk.t24 Tp.VN hr bx gk (aA (gv 0) (aA (gv 1) aG))) (gY (aA (gv 0) (aA (gv 1) aG)))) (vo (S9 (nF (qx hr) (gv 0) aO) (vo (nF Tc (gv 0) (dh Dl aO (gv 1))))))))
 aN)
 t34:=fJ Tp.V3 N34 zoy λ_ _ _ _ _ _ hr=>(aH (pI (gc Fk.t10 Tp.yL hr bx gk (aA (gv 0) aG)))
 (aH (pI (gc Fk.t11 Tp.K1 hr bx gk (aA (gv 0) (aA (gv 1) aG))))
 (aH (iy (lA (qx hr) (cX (gv 0) aO) aO) (aH Ac
 aN) aN)
 (aH (Tz 2 (au (top 45)) N34 ["tie"] ["place"] [1] nd rfl jl rfl rfl rfl rfl (by decide +kernel) (by decide +kernel) (mJ 0) (by decide +kernel) (sY (cX (gv 0) aO)) (λ_ _ _ _ _ _=>(mK 0 (by decide +kernel) rfl (by decide +kernel))) (λ_ _ _ _ _ _=>(z_ (lA (zlP hr) (cB 1) (cB 0)))) (λ_ _ _ _ _ _=>(cB 0)))
 (aH (bW (gc Fk.t5 Tp.d5 hr bx gk (aA (dh zX (cX (gv 0) aO) aO) (aA (gc Fk.Wv Tp.Oq hr bx gk (aA (gv 2) (aA (gc Fk.t41 Tp.V_ hr bx gk (aA (gv 0) (aA (gv 1) (aA Dk (aA aO aG))))) aG))) aG))))
 aN)))))
 t35:=fJ Tp.V4 N35 zoP λ_ _ _ _ _ _ hr=>(aH (pI (gc Fk.t10 Tp.yL hr bx gk (aA (gv 0) aG)))
 (aH (pI (gc Fk.t11 Tp.K1 hr bx gk (aA (gv 0) (aA (gv 1) aG))))
 (aH (pI (gc Fk.t11 Tp.K1 hr bx gk (aA (gv 0) (aA (gv 2) aG))))
 (aH (iD 3 nd rfl jc rfl (gc Fk.t9 Tp.d9 hr bx gk (aA (cX (gv 0) aO) (aA (gY (aA (gv 1) (aA (gv 2) aG))) aG))))
 (aH (iy (lA (zlP hr) (gv 3) (cX (gv 0) aO)) (aH Ac
 aN) aN)
 (aH (bW (gc Fk.t5 Tp.d5 hr bx gk (aA (cX (gv 0) aO) (aA (nQ (au (top 46)) N35 ["kept"] ["tie"] [3] rfl rfl rfl (by decide +kernel) (by decide +kernel) (mJ 0) (by decide +kernel) (sY (cX (gv 0) aO)) (λ_ _ _ _ _ _=>(mK 0 (by decide +kernel) rfl (by decide +kernel))) (λ_ _ _ _ _ _=>(z_ (lA (wj hr) (cB 0) (cB 1)))) (λ_ _ _ _ _ _=>(cB 0))) aG))))
 aN))))))
 t36:=fJ Tp.V5 ["web"] zos λ_ _ _ _ _ _ hr=>(aH (pI (gc Fk.t10 Tp.yL hr bx gk (aA (gv 0) aG)))
 (aH (bW (gc Fk.t38 Tp.V7 hr bx gk (aA (gv 0) (aA (znH rfl Tp.K6 gk Tp.z9 gk (aA (cX (gv 0) aO) aG)) aG))))
 aN))
 t37:=fJ Tp.V6 ["one","other"] zox λ_ _ _ _ _ _ hr=>(aH (pI (gc Fk.t10 Tp.yL hr bx gk (aA (gv 0) aG)))
 (aH (pI (gc Fk.t10 Tp.yL hr bx gk (aA (gv 1) aG)))
 (aH (bW (gc Fk.t39 Tp.V8 hr bx gk (aA (gv 0) (aA (gv 1) (aA (gc Fk.t40 Tp.V9 hr bx gk (aA (gv 0) (aA (gv 1) aG))) (aA (wu aG) aG))))))
 aN)))
 t38:=fJ Tp.V7 N38 zoC λ_ _ _ _ _ _ hr=>(aH (pI (gc Fk.t3 Tp.d3 hr bx gk (aA (dh jK (cX (gv 0) aO) aO) (aA (Gb Tp.cY gk dk) aG))))
 (aH (bW (gc Fk.t5 Tp.d5 hr bx gk (aA (dh jK (cX (gv 0) aO) aO) (aA (dh jK (Tr Tp.K6 gk (aA (cX (gv 0) aO) aG)) (nQ (au (top 49)) N38 ["end"] ["web"] [0] rfl rfl rfl (by decide +kernel) (by decide +kernel) (mJ 0) (by decide +kernel) (sY (gv 1)) (λ_ _ _ _ _ _=>(mK 0 (by decide +kernel) rfl (by decide +kernel))) (λ_ _ _ _ _ _=>qy) (λ_ _ _ _ _ _=>(gY (aA (cB 0) (aA (cX (cB 1) aO) aG)))))) aG))))
 aN))
 t39:=fJ Tp.V8 ["one","other","names","between","many"] zoO λ_ _ _ _ _ _ hr=>(aH (iD 4 nd rfl jl rfl (ziC rfl Tp.Ox gk (aA (cX (gv 0) aO) (aA (dh jK (zk1 rfl Tp.Ox gk (aA (gv 2) aG)) aO) aG))))
 (aH (pI (gc Fk.t3 Tp.d3 hr bx gk (aA (gv 4) (aA (Gb Tp.cY gk dk) aG))))
 (aH (bW (gc Fk.t5 Tp.d5 hr bx gk (aA (gv 4) (aA (dh jK (dh jK (Tr Tp.K6 gk (aA (cX (gv 0) aO) aG)) (gc Fk.Wv Tp.Oq hr bx gk (aA (cX (gv 1) aO) (aA (gv 2) aG)))) (gv 3)) aG))))
 aN)))
 t40:=fJ Tp.V9 N40 zou λ_ _ _ _ _ _ hr=>(aH (bW (nQ (au (top 51)) N40 ["place"] ["one"] [0] rfl rfl rfl (by decide +kernel) (by decide +kernel) (mJ 0) (by decide +kernel) (vA Tp.z9 gk (cX (gv 1) aO)) (λ_ _ _ _ _ _=>(mK 0 (by decide +kernel) rfl (by decide +kernel))) (λ_ _ _ _ _ _=>qy) (λ_ _ _ _ _ _=>(dh jK (cX (cB 1) aO) (cB 0)))))
 aN)
 t41:=fJ Tp.V_ N41 zor λ_ _ _ _ _ _ hr=>(aH (Tz 4 (au (top 52)) N41 ["other"] ["start"] [3] nd rfl jl rfl rfl rfl rfl (by decide +kernel) (by decide +kernel) (mJ 0) (by decide +kernel) (vA Tp.z9 gk (dh zX (cX (gv 0) aO) aO)) (λ_ _ _ _ _ _=>(mK 0 (by decide +kernel) rfl (by decide +kernel))) (λ_ _ _ _ _ _=>qy) (λ_ _ _ _ _ _=>(dh jK (cB 1) (cB 0))))
 (aH (bW (dh jK (dh jK (Nr (gv 4) Tn (J1 (gv 1))) (wu (aA (gv 2) aG))) (Nr (gv 4) (J1 (gv 1)) Tn)))
 aN))
 Wv:=fJ Tp.Oq N42 zoQ λ_ _ _ _ _ _ hr=>(aH (bW (nQ (au (top 53)) N42 ["one","other"] ["names"] [1] rfl rfl rfl (by decide +kernel) (by decide +kernel) (JF 0 1) (by decide +kernel) (sY (gv 0)) (λ_ _ _ _ _ _=>(Nv 0 1 rfl (by decide +kernel) rfl rfl (by decide +kernel) (by decide +kernel))) (λ_ _ _ _ _ _=>qy) (λ_ _ _ _ _ _=>(gY (aA (cX (cB 2) (cB 0)) (aA (cX (cB 2) (cB 1)) aG))))))
 aN)
 t43:=fJ Tp.Wa N43 zon λ_ _ _ _ _ _ hr=>(aH (iD 1 nd rfl jc rfl (gc Fk.pA Tp.nR hr bx gk (aA (gv 0) aG)))
 (aH (bW (vq Tp.z3 gk (aA (nQ (au (top 55)) N43 ["place"] ["web","least"] [0,1] rfl rfl rfl (by decide +kernel) (by decide +kernel) (mJ 0) (by decide +kernel) (vA Tp.z9 gk (cX (gv 0) aO)) (λ_ _ _ _ _ _=>(mK 0 (by decide +kernel) rfl (by decide +kernel))) (λ_ _ _ _ _ _=>(z_ (jx (gc Fk.t44 Tp.Wb hr J6 Ah (aA (cB 1) (aA (cB 2) (aA (cB 0) aG))))))) (λ_ _ _ _ _ _=>(cB 0))) aG)))
 aN))
 t44:=fJ Tp.Wb ["web","least","place"] zoD λ_ _ _ _ _ _ hr=>(aH (bW (S9 (nF (qx hr) (cX (gv 0) aO) aO) (vo (nF (wj hr) (gc Fk.pA Tp.nR hr bx gk (aA (gc Fk.t34 Tp.V3 hr bx gk (aA (gv 0) (aA (gv 2) aG))) aG)) (gv 1)))))
 aN)
 O2:=fJ Tp.K4 ["web","many"] zoG λ_ _ _ _ _ _ hr=>(aH (iD 1 nd rfl jl rfl aO)
 (aH (TV wz (pH (jx (gc Fk.Wu Tp.Oo hr bx gk (aA (gv 0) (aA (gY (aA (gv 1) (aA aO aG))) aG))))) (aH (zl3 1 nd rfl jl rfl aO)
 aN))
 (aH (bW (gv 1))
 aN)))
 t46:=fJ Tp.Wc N46 zoo λ_ _ _ _ _ _ hr=>(aH (iD 1 nd rfl jc rfl (gc Fk.pA Tp.nR hr bx gk (aA (gv 0) aG)))
 (aH (bW (vq Tp.z3 gk (aA (nQ (au (top 60)) N46 ["tie"] ["web","least"] [0,1] rfl rfl rfl (by decide +kernel) (by decide +kernel) (mJ 0) (by decide +kernel) (sY (cX (gv 0) aO)) (λ_ _ _ _ _ _=>(mK 0 (by decide +kernel) rfl (by decide +kernel))) (λ_ _ _ _ _ _=>(z_ (jx (gc Fk.t48 Tp.Wd hr J6 Ah (aA (cB 1) (aA (cB 2) (aA (cB 0) aG))))))) (λ_ _ _ _ _ _=>(cB 0))) aG)))
 aN))
 Ww:=fJ Tp.Ot ["web","loose"] zoF λ_ _ _ _ _ _ hr=>(aH (iD 1 nd rfl jl rfl (gc Fk.t46 Tp.Wc hr bx gk (aA (gv 0) aG)))
 (aH (bW (wg (nF (wj hr) (cX (gv 0) aO) (gY aG)) (vo (nF (qx hr) (gv 1) (gY aG)))))
 aN))
 t48:=fJ Tp.Wd ["web","least","tie"] zoL λ_ _ _ _ _ _ hr=>(aH (bW (nF (qx hr) (gc Fk.pA Tp.nR hr bx gk (aA (gc Fk.t35 Tp.V4 hr bx gk (aA (gv 0) (aA (cX (gv 2) aO) (aA (cX (gv 2) aO) aG)))) aG)) (gv 1)))
 aN)
 t49:=fJ Tp.Wf ["_law_script","_law_k"] znY λ_ _ _ _ _ _ hr=>(aH (iy (lA (JZ hr) (gv 1) (Gd Tp.z4 gk (aA (gv 0) aG))) (aH (bW (cX (gv 0) (gv 1)))
 aN) aN)
 (aH (bW aO)
 aN))
 t50:=fJ Tp.Wg ["_law_cell_here","_law_left"] zoc λ_ _ _ _ _ _ hr=>(aH (iD 1 nd rfl jl rfl (ziC rfl Tp.Ox gk (aA (gv 0) (aA (dh zX aO (gv 0)) aG))))
 (aH (bW (wu (aA (gv 1) (aA (zix Tp.z1 gk (aA (nF Tc (gv 1) (dh znJ aO aO)) aG)) aG))))
 aN))
 K8:=fJ Tp.Gp ["_law_pen_here","_law_many","_law_left","_law_found","_law_stir"] zok λ_ _ _ _ _ _ hr=>(aH (iy (lA (qx hr) (cX (gv 0) aO) aO) (aH (J7 2 3 rfl rfl nd rfl rfl jl jl rfl rfl (zhn Tp.z13 gk (aA (cX (gv 0) aO) (aA (gv 1) aG))))
 (aH (Ny (gv 0) aO (gv 2))
 (aH (bW (gv 3))
 aN))) aN)
 (aH (iD 4 nd rfl jl rfl (dh Dm (dh Dl (dh jK (dh Dm (cX (gv 0) aO) aO) aO) aO) aO))
 (aH (iD 4 nd rfl jl rfl (dh Dm (dh jK (dh Dl (gv 4) (gv 4)) aO) aO))
 (aH (Ny (gv 0) aO (dh Dm (dh jK (dh Dl (gv 4) aO) aO) aO))
 (aH (bW (dh Dm (dh JV (cX (gv 0) aO) aO) (gv 1)))
 aN)))))
 t52:=fJ Tp.Wh ["_law_one","_law_other"] zop λ_ _ _ _ _ _ hr=>(aH (bW (nF (JZ hr) (dh Dl (cX (gv 0) aO) (cX (gv 1) aO)) (dh Dl (cX (gv 1) aO) (cX (gv 0) aO))))
 aN)
 O4:=fJ Tp.K5 N53 zoH λ_ _ _ _ _ _ hr=>(aH (bW (gY (aA (gv 0) (aA (vq Tp.z3 gk (aA (T9 Tp.z7 gk (aA (dh jK (nQ (au (top 68)) N53 ["_law_place"] [] [] rfl rfl rfl (by decide +kernel) (by decide +kernel) (mJ 0) (by decide +kernel) (vA Tp.z9 gk (dh zX (gv 0) aO)) (λ_ _ _ _ _ _=>(mK 0 (by decide +kernel) rfl (by decide +kernel))) (λ_ _ _ _ _ _=>qy) (λ_ _ _ _ _ _=>(gY (aA (cB 0) (aA (dh jK (cB 0) aO) aG))))) (wu (aA (gY (aA aO (aA (dh zX (gv 0) aO) aG))) aG))) aG)) aG)) aG))))
 aN)
 Wx:=fJ Tp.Ou N54 zoE λ_ _ _ _ _ _ hr=>(aH (iD 1 nd rfl jl rfl (wu aG))
 (aH (Dp wz rfl rfl (vA Tp.z9 gk (gv 0)) (J8 2 nd rfl jc rfl) (aH (iD 1 nd rfl jl rfl (dh jK (gv 1) (nQ (au (top 69)) N54 ["_law_other"] ["_law_one"] [2] rfl rfl rfl (by decide +kernel) (by decide +kernel) (mJ 0) (by decide +kernel) (Tv Tp.z9 gk (dh jK (gv 2) aO) (gv 0)) (λ_ _ _ _ _ _=>(mK 0 (by decide +kernel) rfl (by decide +kernel))) (λ_ _ _ _ _ _=>qy) (λ_ _ _ _ _ _=>(gY (aA (cB 1) (aA (cB 0) aG)))))))
 aN))
 (aH (bW (gY (aA (gv 0) (aA (vq Tp.z3 gk (aA (gv 1) aG)) aG))))
 aN)))
 t55:=fJ Tp.Wi ["_law_many","_law_web"] zoN λ_ _ _ _ _ _ hr=>(aH (iD 1 nd rfl jl rfl (gc Fk.O4 Tp.K5 hr bx gk (aA (gv 0) aG)))
 (aH (iy (lA (qx hr) (dh Dm (gv 0) aO) aO) (aH (bW (wg (nF (qx hr) (gc Fk.pA Tp.nR hr bx gk (aA (gv 1) aG)) (gY (aA aO (aA aO aG)))) (wg (nF (qx hr) (gc Fk.O2 Tp.K4 hr bx gk (aA (gv 1) aG)) aO) (vo (zkH (gc Fk.Ww Tp.Ot hr bx gk (aA (gv 1) aG)))))))
 aN) aN)
 (aH (iy (zZ (Dn (lA (wj hr) (gc Fk.pA Tp.nR hr bx gk (aA (gv 1) aG)) (gY (aA (gv 0) (aA (dh JV (gv 0) aO) aG)))) (Dn (lA (wj hr) (gc Fk.O2 Tp.K4 hr bx gk (aA (gv 1) aG)) aO) (J0 (pH (jx (gc Fk.Ww Tp.Ot hr bx gk (aA (gv 1) aG)))))))) (aH (bW rA)
 aN) aN)
 (aH (bW (nF (qx hr) (gc Fk.t43 Tp.Wa hr bx gk (aA (gv 1) aG)) (zlk rfl Tp.z3 gk Tp.z9 gk (aA (gv 0) aG))))
 aN))))
 t56:=fJ Tp.Wj ["_law_web"] zoJ λ_ _ _ _ _ _ hr=>(aH (bW (nF (qx hr) (gc Fk.pA Tp.nR hr bx gk (aA (gc Fk.t36 Tp.V5 hr bx gk (aA (gv 0) aG)) aG)) (gY (aA (dh jK (gc Fk.O2 Tp.K4 hr bx gk (aA (gv 0) aG)) aO) (aA aO aG)))))
 aN)
 t57:=fJ Tp.Ov ["_law_script","_law_cell_here","_law_pen_here","_law_many","_law_few","_law_one","_law_other","_law_longer"] zod λ_ _ _ _ _ _ hr=>(aH (iy (zZ (Dn (lA (wj hr) (gc Fk.pA Tp.nR hr bx gk (aA (gY (aA aO (aA (gY aG) aG))) aG)) (gY (aA aO (aA aO aG)))) (Dn (lA (wj hr) (gc Fk.pA Tp.nR hr bx gk (aA (gY (aA aO (aA (gY aG) aG))) aG)) (gY (aA aO (aA aO aG)))) (J0 (lA (wj hr) (gc Fk.pA Tp.nR hr bx gk (aA (gY (aA aO (aA (gY (aA (gY (aA aO (aA aO aG))) aG)) aG))) aG)) (gY (aA aO (aA aO aG)))))))) (aH (bW rA)
 aN) aN)
 (aH (Dp wz rfl rfl (sY (dh jK (wu (aA (gc Fk.t49 Tp.Wf hr bx gk (aA (gv 0) (aA aO aG))) aG)) (Nr (gv 0) (J1 aO) (J1 aO)))) (J8 1 nd rfl jl rfl) (aH (iD 2 nd rfl jl rfl (gc Fk.t50 Tp.Wg hr bx gk (aA (gv 1) aG)))
 (aH (Nz 3 4 rfl rfl nd rfl rfl (by decide) jl jl (dh jK aO (gc Fk.K8 Tp.Gp hr bx gk (aA (gv 2) (aA aO aG)))) (dh jK aO (gc Fk.K8 Tp.Gp hr bx gk (aA (gv 2) (aA aO aG)))) rfl)
 (aH (iy (zZ (Dn (pH (jx (gc Fk.t55 Tp.Wi hr bx gk (aA (gv 3) aG)))) (J0 (lA (wj hr) (gc Fk.pA Tp.nR hr bx gk (aA (gc Fk.Wx Tp.Ou hr bx gk (aA (gv 4) aG)) aG)) (gY (aA (gv 4) (aA aO aG))))))) (aH (bW rA)
 aN) aN)
 (aH (iy (zZ (Ti (lA (JZ hr) (gv 3) aO) (Tf (pH (jx (gc Fk.t56 Tp.Wj hr bx gk (aA (gc Fk.O4 Tp.K5 hr bx gk (aA (gv 3) aG)) aG))))))) (aH (bW rA)
 aN) aN)
 (aH (Nz 5 6 rfl rfl nd rfl rfl (by decide) jl jl (gc Fk.O4 Tp.K5 hr bx gk (aA (dh jK aO (gc Fk.K8 Tp.Gp hr bx gk (aA (gv 2) (aA aO aG)))) aG)) (gc Fk.Wx Tp.Ou hr bx gk (aA (dh jK aO (gc Fk.K8 Tp.Gp hr bx gk (aA (gv 2) (aA aO aG)))) aG)) rfl)
 (aH (iD 7 nd rfl jl rfl (cX (wu (aA (gc Fk.pA Tp.nR hr bx gk (aA (gv 5) aG)) (aA (gc Fk.pA Tp.nR hr bx gk (aA (gv 6) aG)) aG))) (zix Tp.z1 gk (aA (gc Fk.t52 Tp.Wh hr bx gk (aA (gc Fk.pA Tp.nR hr bx gk (aA (gv 5) aG)) (aA (gc Fk.pA Tp.nR hr bx gk (aA (gv 6) aG)) aG))) aG))))
 (aH (iy (lA (wj hr) (gc Fk.pA Tp.nR hr bx gk (aA (gc Fk.t37 Tp.V6 hr bx gk (aA (gv 5) (aA (gv 6) aG))) aG)) (gv 7)) (aH (bW rA)
 aN) aN)
 aN))))))))
 (aH (bW rA)
 aN)))
theorem zh9(Tp:Top K mg):∀k,Fs P w K mg base k
 |0=>⟨cT,cT,cT,cT,cT,cT,cT,cT,cT,cT,cT,cT,cT,cT,zhS,cT,cT,cT,cT,cT,cT,cT,cT,cT,cT,cT,cT,cT,cT,cT,cT,cT,cT,cT,cT,cT,cT,cT,cT,cT,cT,cT,cT,cT,cT,cT,cT,cT,cT,cT,cT,cT,cT,cT,cT,cT,cT,cT⟩
 |k+1=>zi3 Tp (zh9 Tp k)
end
theorem all_mk{l:PySem.W.OpenLaw}{w:World}{K:W.Frag}{h:Heap}{mg:Str->Option Value}{fa:Addr}(hm:∀ns:List Int,ns.length<=63->∃s',call aq T 60 true 57 [.d (.fl (ns.map D.int))] []=some (.ok (.d (.bl true)),s'))
  (S:rE fs ms xs lk bd K) (LH:kW K h) (X:K.In h) (G:h.Ns mainGlobals mg) (DK:mg "law"=some (.ref fa)) :
  ∃fd:FuncData,(∀(s:Shared) (u:Value),BindsTo s fd ⟨[u],[]⟩ [("_law_script",u)])/\∀base:Heap,K.In base->base.Ns mainGlobals mg->cJ l.prog w K mg base (fL l.prog w) true 60 fa fd ["_law_script"] (vf K):=by
 have Tp:Top K mg:=zkm S LH X G;have e:=DK.symm.trans Tp.Ov.m;cases e;exact⟨_,Dq Tp.Ov.f (λ_ _ _ _ _ _ _=>rfl),λbase _ _=>(zh9 Tp 60).t57.imp (ziL hm)⟩
end eZ
namespace eZ
open PySem Mi
theorem zh5{k:Nat}{n i:Int}{ps:List (Int×Int)}(h:Web n ps):W (call aq T (k+1) true 12 [.d (aK n ps),.d (.int i)]) [] λv s=>v=.d (.tup ((bT i ps).map .int)):=by
 refine W.call zoj rfl ?_;unfold Vf aK;have hl:(ps.map lC).length<=100:=by rw[eY];have:=h.len;have:=h.h8;lia
 have hs:(100:Nat)<=sizeLine:=by decide
 refine Y ?_;refine wC (l:=ps) (f:=lC) (λp=>(endOf i p).map .int) (by rw[eY] at hl;lia) ?_ (λp hp=>?_) ?_
 ·refine Y ?_;exact⟨rfl,rfl⟩
 ·obtain⟨a,b⟩:=p;refine Y ?_;refine⟨rfl,λhb=>?_,λhb=>?_⟩
  ·refine Y ?_;refine W.ite (λh1=>?_) (λh1=>?_)
   ·refine Y ?_;refine⟨rfl,_,rfl,?_⟩;have h1:a=i:=by simpa using h1
    simp[endOf,h1]
   ·refine Y ?_;refine⟨rfl,_,rfl,?_⟩;simp[nW] at h1 hb;rcases hb with hb|hb
    ·exact absurd hb h1
    ·simp[endOf,h1,hb]
  ·simp[nW] at hb;simp[endOf,hb]
 ·have he:ps.filterMap (λp=>(endOf i p).map D.int)=(bT i ps).map D.int:=by unfold bT;rw[List.map_filterMap]
  rw[he];refine Y ?_;refine Uh (zf9 (zhG ?_ (zeX h i))) ?_
  ·have:=Pg (endOf i) ps;have:=h.len;have:=h.h8;unfold bT
   lia
  exact Y trivial
section
variable {al:Bool}{n k:Nat}{es:Nat->List Int}{A:Int->Int->Bool}{F:Fr}{p:Nat}{x y:Int}
theorem znd{k':Nat}(hx:0<=x/\x<k)(hy:0<=y/\y<k):W (call aq T (k'+1) true 15 [.d (jB al n k es A),.d (.int x),.d (.int y)]) [] λv s=>v=.d (.bl (A x y)):=by
 refine W.call zoh rfl ?_;unfold Vi jB;refine Y ?_;refine mO (yF hx.1 (znQ hx.1 hx.2)) ?_;refine Y ?_;refine mO (yF hy.1 (Va hy.1 hy.2)) ?_;exact Y trivial
theorem K9{k':Nat}(B:Bo n k es A)(v:Fv n k F)(hp:p<n)(hx:0<=x/\x<k):W (call aq T (k'+2) true 16 [.d (jB al n k es A),.d (jA F),.d (.int p),.d (.int x)]) [] λv s=>v=.d (jA (settle es A F p x)):=by
 refine W.call zog rfl ?_;unfold Vj jA;have yM:(100:Nat)<=sizeLine:=by decide
 have hn:=B.hn;have hv:=v.len;have ebo:jB al n k es A=.ob 0 [.fl (DW n es),.tup ((eN k).map .int),.fl (wF k A),.bl al]:=rfl;refine Y ?_;refine KaU rfl ?_;refine Y ?_;refine⟨_,zif (by lia) (by rw[eY];lia),?_⟩;refine Y ?_;refine mO (yF (by lia) (zkD (by lia))) ?_;refine Y ?_;refine NZ (λi J s=>s=[.lst ((((es p).take i).foldl (gK (A x)) (F.set p none)).map bM)]/\∃a5:Option Xv,J=[some (.d (jB al n k es A)),some (.d (.tup (F.map bM))),some (.d (.int p)),some (.d (.int x)),some (.l 0),a5]) ⟨?_,_,rfl⟩ (λi z J s e hI=>?_) (λJ s hI=>?_)
 ·show [SO.lst ((F.map bM).set p .non)]=_;rw[List.take_zero,List.foldl_nil,List.map_set];rfl
 ·obtain⟨rfl,a5,rfl⟩:=hI;rw[jN] at e;cases ei:(es p)[i]? with
  |none=>
   rw[rK,ei] at e;cases e
  |some q=>
   rw[rK,ei] at e;cases e;have hq:=B.mem p hp q (gU ei);have ht:(es p).take (i+1)=(es p).take i++[q]:=by rw[List.take_succ,ei];rfl
   rw[ht,List.foldl_append,LQ,List.foldl_nil];have hG:(((es p).take i).foldl (gK (A x)) (F.set p none)).length=n:=by rw[U6,pL,hv]
   have lo:∀L,(((es p).take i).foldl (gK (A x)) (F.set p none))[q.toNat]?=some (some L)->(∀y∈L,0<=y/\y<k)/\L.length<=24:=λL hL=>by
    rw[U7 q.toNat (λe he=>(B.mem p hp e (List.mem_of_mem_take he)).1) (by rw[pL];lia),qF (by lia)] at hL;have hz:∀L',F[q.toNat]?=some (some L')->(∀y∈L',0<=y/\y<k)/\L'.length<=24:=λL' h=>⟨v.lo _ L' h,v.ll _ L' h⟩;split at hL
    ·obtain⟨c,e1,e2⟩:=kZ.mp hL;cases c with
     |none=>cases e2
     |some L'=>
      cases e2;exact⟨λy hy=>(hz L' e1).1 y (mQ.mp hy).1,jO (List.length_filter_le _ _) (hz L' e1).2⟩
    ·exact hz L hL
   generalize ((es p).take i).foldl (gK (A x)) (F.set p none)=G at hG lo ⊢;obtain⟨c,ec⟩ : ∃c,G[q.toNat]?=some c:=⟨_,eU (by lia)⟩;refine Y ?_;refine mO (yF hq.1 (KQ ec)) ?_;refine Y ?_;cases c with
   |none=>
    refine Y ?_;exact⟨_,rfl,by rw[zhF ec],_,rfl⟩
   |some L=>
    obtain⟨l1,l2⟩:=lo L ec;refine Y ?_;refine wC (l:=L) (f:=D.int) (λy=>if A x y=true then some (.int y) else none) (by lia) ?_ (λy hy=>?_) ?_
    ·refine Y ?_;refine mO (yF hq.1 (KQ ec)) ?_;show W (src (.d (.tup (L.map .int)))) _ _;refine Y ?_;exact⟨rfl,rfl⟩
    ·refine Y ?_;refine W.cm rfl rfl (W.c0 (znd hx (l1 y hy)) ?_);refine Y ?_;refine⟨rfl,λhb=>?_,λhb=>?_⟩
     ·refine Y ?_;exact⟨rfl,_,rfl,by rw[if_pos hb]⟩
     ·rw[if_neg (by rw[hb];decide)]
    ·rw[zdy (α:=Unit)];refine Y ?_;refine⟨_,zif hq.1 (by rw[eY];lia),?_⟩;refine Y ?_;refine⟨_,rfl,?_,_,rfl⟩;rw[zji,ec];rfl
 ·obtain⟨rfl,a5,rfl⟩:=hI;rw[eY,rK,En];refine Y ?_;rfl
theorem zii{k':Nat}(B:Bo n k es A)(v:Fv n k F)(hp:p<n):W (call aq T (k'+1) true 17 [.d (jB al n k es A),.d (jA F),.d (.int p)]) [] λv s=>v=.d (.int (dY es F p)):=by
 refine W.call zn2 rfl ?_;unfold Vk jA jB;have yM:(100:Nat)<=sizeLine:=by decide
 have hn:=B.hn;have hv:=v.len;have hl:=B.len p hp;refine Y ?_;refine wC (l:=es p) (f:=D.int) (λe=>if ((λe:Int=>(F[e.toNat]?.join).isSome) e)=true then some (.int e) else none) (by lia) ?_ (λe he=>?_) ?_
 ·refine Y ?_;refine mO (yF (by lia) (zkD (by lia))) ?_;rw[rK];refine Y ?_;exact⟨rfl,rfl⟩
 ·have hq:=B.mem p hp e he;obtain⟨c,ec⟩ : ∃c,F[e.toNat]?=some c:=⟨_,eU (by lia)⟩;refine Y ?_;refine mO (yF hq.1 (KQ ec)) ?_;refine Y ?_;have hc:(F[e.toNat]?.join).isSome=c.isSome:=by rw[ec];rfl
  have hd:(!(bM c).uQ)=c.isSome:=by cases c<;>rfl
  rw[hd];refine⟨rfl,λhb=>?_,λhb=>?_⟩
  ·refine Y ?_;exact⟨rfl,_,rfl,if_pos (hc.trans hb)⟩
  ·exact if_neg (λz=>by rw[hc.symm.trans z] at hb;cases hb)
 ·rw[zdy (α:=Unit)];refine Y ?_;show Xv.d (.int (((((es p).filter _).map D.int).length:Nat):Int))=_;rw[eY];rfl
theorem ziT{k':Nat}(B:Bo n k es A)(v:Fv n k F):W (call aq T (k'+2) true 18 [.d (jB al n k es A),.d (jA F)]) [] λv s=>v=.d (jA (bnd es F)):=by
 refine W.call znS rfl ?_;unfold Vl;have yM:(100:Nat)<=sizeLine:=by decide
 have hn:=B.hn;have hv:=v.len;refine Y ?_;refine wC (l:=F.zipIdx 0) (f:=λq=>.tup [.int q.2,bM q.1]) (λq=>some (bM (if 0<dY es F q.2 then q.1 else none))) (by rw[List.length_zipIdx];lia) ?_ (λq hq=>?_) ?_
 ·refine KaK ?_;refine Y ?_;refine KaJ ?_;rw[zby];exact⟨rfl,rfl⟩
 ·obtain⟨c,i⟩:=q;have hi:i<n:=by
   have:=List.mem_zipIdx hq
   lia
  refine Y ?_;refine⟨rfl,λ_=>?_,λhb=>by cases hb⟩;refine Y ?_;refine W.cm rfl rfl (W.c0 (zii B v hi) ?_);refine Y ?_;refine W.ite (λh1=>?_) (λh1=>?_)
  ·refine Y ?_;have h1:0<dY es F i:=by simpa using h1
   exact⟨rfl,_,rfl,by rw[if_pos h1]⟩
  ·refine Y ?_;have h1:¬0<dY es F i:=by simpa using h1
   exact⟨rfl,_,rfl,by rw[if_neg h1];rfl⟩
 ·rw[Dw];refine Y ?_;show Xv.d (.tup _)=_;unfold jA bnd;rw[List.mapIdx_eq_zipIdx_map,G4];rfl
end
section
variable {al:Bool}{n k:Nat}{es:Nat->List Int}{A:Int->Int->Bool}{F:Fr}{p:Nat}{x y:Int}
theorem Wy{k':Nat}(B:Bo n k es A)(v:Fv n k F):W (call aq T (k'+2) true 19 [.d (jB al n k es A),.d (jA F)]) [] λv s=>(v=.d .non/\∀(i:Nat) L,F[i]?≠some (some L))\/∃(p:Nat) (L:List Int),v=.d (.int p)/\F[p]?=some (some L):=by
 refine W.call zn4 rfl ?_;unfold Vm;have yM:(100:Nat)<=sizeLine:=by decide
 have hn:=B.hn;have hv:=v.len;refine Y ?_;refine KaJ ?_;refine NZ (λi J s=>∃(rs:List (List Int)) (a3 a4:Option Xv),s=[.lst (rs.map λr=>D.tup (r.map .int))]/\J=[some (.d (jB al n k es A)),some (.d (jA F)),some (.l 0),a3,a4]/\rs.length<=i/\(∀r∈rs,∃(a b:Int) (p:Nat) (L:List Int),r=[a,b,(p:Int)]/\F[p]?=some (some L))/\(rs=[]->∀j,j<i->∀L,F[j]?≠some (some L))) ⟨[],_,_,rfl,rfl,cD _,by simp,λ_ j hj=>absurd hj (by lia)⟩ (λi z J s e hI=>?_) (λJ s hI=>?_)
 ·obtain⟨rs,a3,a4,rfl,rfl,hl,h1,h2⟩:=hI;rw[zf4,jN] at e;cases ei:F[i]? with
  |none=>rw[ei] at e;cases e
  |some c=>
   rw[ei] at e;cases e;have hi:i<n:=by have:=(f9.mp ei).1;lia
   cases c with
   |none=>
    refine Y ?_;refine⟨_,rfl,rs,_,_,rfl,rfl,by lia,h1,λer j hj L=>?_⟩;by_cases z:j=i
    ·rw[z,ei];exact λq=>by cases q
    ·exact h2 er j (by lia) L
   |some L=>
    refine Y ?_;refine W.cm rfl rfl (W.c0 (zii (p:=0+i) B v (by lia)) ?_);refine Y ?_;refine⟨by rw[eY];lia,?_⟩;refine Y ?_;refine⟨_,rfl,rs++[[(((L.map D.int).length:Nat):Int),-(dY es F (0+i):Int),((0+i:Nat):Int)]],_,_,?_,rfl,by simp;lia,λr hr=>?_,λer=>by simp at er⟩
    ·rw[Er];rfl
    ·rcases nJ.mp hr with hr|hr
     ·exact h1 r hr
     ·rw[rJ.mp hr];exact⟨_,_,i,L,by rw[G3],ei⟩
 ·obtain⟨rs,a3,a4,rfl,rfl,hl,h1,h2⟩:=hI;rw[zea,eY] at h2;refine Y ?_;refine W.Cq ?_;refine Y ?_;refine⟨_,rfl,?_⟩;by_cases er:rs=[]
  ·subst er;refine Y ?_;refine .inl ⟨rfl,λi L e=>?_⟩;exact h2 rfl i (f9.mp e).1 L e
  ·have et:(!(rs.map λr=>D.tup (r.map .int)).isEmpty)=true:=by
    cases rs with
    |nil=>exact absurd rfl er
    |cons=>rfl
   rw[et];obtain⟨r,hr,em⟩:=zkK er;refine Y ?_;refine mO em ?_;obtain⟨a,b,p,L,rfl,ep⟩:=h1 r hr;refine Y ?_;exact .inr ⟨p,L,rfl,ep⟩
noncomputable def Gq(k:Nat):Option (List Int)->Bool
 |none=>true
 |some L=>decide (L=eN k)
theorem zdn{k':Nat}(B:Bo n k es A)(v:Fv n k F):W (call aq T (k'+1) true 20 [.d (jB al n k es A),.d (jA F)]) [] λv s=>v=.d (.bl (F.all (Gq k))):=by
 refine W.call zn9 rfl ?_;unfold Vn;have yM:(100:Nat)<=sizeLine:=by decide
 have hn:=B.hn;have hv:=v.len;refine Y ?_;refine wC (l:=F) (f:=bM) (λc=>some (.bl (Gq k c))) (by lia) ?_ (λc hc=>?_) ?_
 ·refine Y ?_;show W (src (.d (.tup (F.map bM)))) _ _;refine Y ?_;exact⟨rfl,rfl⟩
 ·cases c with
  |none=>
   refine Y ?_;refine⟨rfl,λ_=>?_,λhb=>by cases hb⟩;refine Y ?_;exact⟨rfl,_,rfl,rfl⟩
  |some L=>
   refine Y ?_;refine⟨rfl,λ_=>?_,λhb=>by cases hb⟩;refine Y ?_;refine mO (zmR (f:=id)) ?_;exact⟨rfl,_,rfl,rfl⟩
 ·rw[Dw];refine Y ?_;refine mO zmh ?_;rfl
end
section
variable {n k d:Int}{ps:List (Int×Int)}
theorem zfS{k':Nat}(h:Web n ps):W (call aq T (k'+2) true 13 [.d (aK n ps)]) [] λv s=>v=.d (.fl (DW n.toNat λi=>bT i ps)):=by
 refine W.call zoi rfl ?_;unfold Vg;have yM:(100:Nat)<=sizeLine:=by decide
 have h1:=h.h1;have h8:=h.h8;refine Y ?_;refine wC (l:=List.range (n-0).toNat) (f:=λ(j:Nat)=>.int (0+j)) (λ(i:Nat)=>some (.tup ((bT i ps).map .int))) (by rw[vO];lia) ?_ (λj hj=>?_) ?_
 ·unfold aK;refine Y ?_;refine⟨by rw[tY (by lia) (by lia),tY (by lia) (by lia)];rfl,?_⟩;exact⟨rfl,rfl⟩
 ·refine Y ?_;refine⟨rfl,λ_=>?_,λhb=>by cases hb⟩;refine Y ?_;refine W.c0 (zh5 h) ?_;exact⟨rfl,_,rfl,by rw[show (0:Int)+j=j by lia]⟩
 ·rw[show (List.range (n-0).toNat).filterMap (λ(i:Nat)=>some (D.tup ((bT i ps).map .int)))=DW n.toNat λi=>bT i ps by rw[Dw,show n-0=n by lia];rfl];exact Y trivial
theorem zkR{k':Nat}{al:Bool}{A:Int->Int->Bool}(h:Web n ps){m:Nat}(hm:m<=24):W (call aq T (k'+3) true 14 [.d .any,.d (aK n ps),.d (.fl (wF m A)),.d (.bl al)]) [] λv s=>v=.d (.tup [.fl (DW n.toNat λi=>bT i ps),.tup ((eN m).map .int),.fl (wF m A),.bl al]):=by
 refine W.call zob rfl ?_;unfold Vh;refine Y ?_;refine W.c0 (zfS h) ?_;have em:(wF m A).length=m:=by unfold wF;simp
 refine Kai (KaY (ds:=[.int ((wF m A).length:Nat)]) rfl (mO (d:=.tup ((eN m).map .int)) (by rw[em];exact znq (by lia)) ?_));exact Y trivial
theorem zjb{k':Nat}(h:Web n ps)(hd:1<=d)(Gs:d<=k)(hk:k<=24):W (call aq T (k'+4) true 21 [.d (aK n ps),.d (bJ k d)]) [] λv s=>v=.d (boD n.toNat k.toNat (λi=>bT i ps) (dz k d)):=by
 refine W.call zn7 rfl ?_;unfold Vo bJ;have yM:(100:Nat)<=sizeLine:=by decide
 have e0:(k-0).toNat=k.toNat:=by lia
 refine Y ?_;refine wC (l:=List.range (k-0).toNat) (f:=λ(j:Nat)=>.int (0+j)) (λ(j:Nat)=>some (.bl ((λj:Int=>decide (d<=j/\d<=k-j)) j))) (by rw[vO];lia) ?_ (λj hj=>?_) ?_
 ·refine Y ?_;refine⟨by rw[tY (by lia) (by lia),tY (by lia) (by lia)];rfl,?_⟩;exact⟨rfl,rfl⟩
 ·refine Y ?_;refine⟨rfl,λ_=>?_,λhb=>by cases hb⟩;refine Y ?_;refine⟨rfl,_,rfl,?_⟩
  congr 2
  rw[wL]
  split<;>lia
 ·rw[Dw,e0];refine Y ?_;refine W.mk (vs:=[.d (aK n ps),.d (.fl (wF k.toNat (dz k d))),.d (.bl true)]) ?_ rfl (zkR h (by lia));refine Y ?_;refine wC (l:=List.range (k-0).toNat) (f:=λ(j:Nat)=>.int (0+j)) (λ(a:Nat)=>some (.fl ((List.range k.toNat).map λ(b:Nat)=>.bl (dz k d a b)))) (by rw[vO];lia) ?_ (λa ha=>?_) ?_
  ·refine Y ?_;refine⟨by rw[tY (by lia) (by lia),tY (by lia) (by lia)];rfl,?_⟩;exact⟨rfl,rfl⟩
  ·have ha:=Ay.mp ha;refine Y ?_;refine⟨rfl,λ_=>?_,λhb=>by cases hb⟩;refine Y ?_;refine wC (l:=List.range (k-0).toNat) (f:=λ(j:Nat)=>.int (0+j)) (λ(b:Nat)=>some (.bl (dz k d a b))) (by rw[vO];lia) ?_ (λb hb=>?_) ?_
   ·refine Y ?_;refine⟨by rw[tY (by lia) (by lia),tY (by lia) (by lia)];rfl,?_⟩;exact⟨rfl,rfl⟩
   ·have hb:=Ay.mp hb;refine Y ?_;refine⟨rfl,λ_=>?_,λhb=>by cases hb⟩;refine Y ?_;by_cases c:(0:Int)<=(0+a:Int)-(0+b)
    ·refine mO (yF c (Va (f:=λj=>decide (d<=j/\d<=k-j)) c (by lia))) ?_;refine⟨rfl,_,rfl,?_⟩;unfold dz
     congr 2
     rw[wL,Gi hd]
     lia
    ·refine mO (znC (x:=.bl (decide (d<=a-b+k/\d<=k-(a-b+k)))) (by lia) (by rw[eY,vO];lia) ?_) ?_
     ·rw[eY,vO];refine(Va (f:=λj=>decide (d<=j/\d<=k-j)) (by lia) (by lia)).trans ?_
      congr 3
      simp
      lia
     ·refine⟨rfl,_,rfl,?_⟩;unfold dz
      congr 2
      rw[wL,Gi hd]
      lia
   ·rw[Dw,e0];refine Y ?_;exact⟨rfl,_,rfl,rfl⟩
  ·rw[Dw,e0];refine Y ?_;exact⟨rfl,rfl⟩
end
theorem zj3{k:Nat}{i:Int}:W (call aq T (k+1) true 0 [.d (.int i)]) [] λv s=>v=.d (.bl true):=W.eq (a:=.d (.bl true)) (s':=[]) rfl rfl
theorem Wz{k:Nat}{a b:D}:W (call aq T (k+1) true 2 [.d (.tup [a,b]),.d (.int 2)]) [] λv s=>v=.d (.bl true):=W.eq (a:=.d (.bl true)) (s':=[]) rfl rfl
theorem iU{k:Nat}{i a b:Int}:W (call aq T (k+2) true 1 [.d (.int i),.d (.int a),.d (.int b)]) [] λv s=>v=.d (.bl (decide (a<=i/\i<=b))):=by
 refine W.call T_1 rfl ?_;unfold b1;refine Y ?_;refine W.c0 zj3 ?_;refine Y ?_;refine W.ite (λh1=>?_) (λh1=>?_)
 ·refine Y ?_;have:=jU h1;simp[this]
 ·refine Y ?_;simp at h1;have:¬(a<=i/\i<=b):=by lia
  simp[this]
theorem zku{k:Nat}{i:Int}(h1:1<=i)(h2:i<=8):W (call aq T (k+3) true 6 [.d (.int i)]) [] λv s=>v=.d (.bl true):=by
 refine W.call T_6 rfl ?_;unfold b6;refine Y ?_;exact vC rfl (iU.imp λv s e=>⟨_,e,by rw[mR (And.intro h1 h2)]⟩)
theorem zgh{k:Nat}{n i:Int}:W (call aq T (k+3) true 7 [.d (.int n),.d (.int i)]) [] λv s=>v=.d (.bl (decide (0<=i/\i<n))):=by
 refine W.call T_7 rfl ?_;unfold b7;refine Y ?_;exact vC rfl (iU.imp λv s e=>⟨_,e,by rw[wL.mpr (show 0<=i/\i<=n-1↔0<=i/\i<n by lia)]⟩)
theorem znf{k:Nat}{n:Int}{p:Int×Int}(h:0<=p.1/\p.1<p.2/\p.2<n):W (call aq T (k+4) true 8 [.d (.int n),.d (lC p)]) [] λv s=>v=.d (.bl true):=by
 obtain⟨a,b⟩:=p;obtain⟨h1,h2,h3⟩:=h;unfold lC;dsimp only at h1 h2 h3 ⊢;refine W.call T_8 rfl ?_;unfold b8;refine Y ?_;refine W.c0 Wz ?_;refine Y ?_;refine W.c0 zgh ?_;rw[mR (show 0<=a/\a<n by lia)];refine Y ?_;refine W.c0 zgh ?_;rw[mR (show 0<=b/\b<n by lia)];refine Y ?_;rw[mR h2]
theorem ziV{k:Nat}{n:Int}{ps:List (Int×Int)}(h:Web n ps):W (call aq T (k+5) true 4 [.d (aK n ps)]) [] λv s=>v=.d (.bl true):=by
 refine W.call T_4 rfl ?_;unfold b4 aK;have hl:(ps.map lC).length<=100:=by rw[eY];have:=h.len;have:=h.h8;lia
 have hs:(100:Nat)<=sizeLine:=by decide
 refine Y ?_;refine W.c0 Wz ?_;refine Y ?_;refine W.c0 (zku h.h1 h.h8) ?_;refine Y ?_;refine Kas (c:=ps.map lC) (λ_=>.bl true) (by lia) ?_ (λx hx=>?_) ?_
 ·refine Y ?_;exact⟨rfl,rfl⟩
 ·obtain⟨p,hp,rfl⟩:=qH.mp hx;refine Y ?_;exact vC rfl ((znf (h.tie p hp)).imp λv s e=>⟨_,e,rfl,rfl⟩)
 ·refine Y ?_;refine mO (zik ?_) ?_
  ·intro x hx;obtain⟨_,_,e⟩:=qH.mp hx;exact e.symm
  refine Y ?_;refine Kas (c:=List.zipWith (λ(p q:D)=>D.tup [p,q]) (ps.map lC) ((ps.map lC).drop 1)) (λ_=>.bl true) (by rw[List.length_zipWith];lia) ?_ (λx hx=>?_) ?_
  ·refine Y ?_;rw[Uq];exact⟨rfl,rfl⟩
  ·obtain⟨p,q,rfl,hpq⟩:=zic h.inc x hx;refine Y ?_;rw[zmW hpq];exact⟨rfl,rfl⟩
  ·refine Y ?_;refine mO (zik ?_) ?_
   ·intro x hx;obtain⟨_,_,e⟩:=qH.mp hx;exact e.symm
   rfl
theorem zhN{k:Nat}{n:Int}{ps:List (Int×Int)}(h:Web n ps):W (call aq T (k+6) true 10 [.d (aK n ps)]) [] λv s=>∃d,v=.d d:=by
 refine W.call znV rfl ?_;unfold b10;refine Y ?_;refine W.c0 (ziV h) ?_;refine Y ?_;exact⟨_,rfl⟩
theorem zhK{k':Nat}{k d:Int}(hd:1<=d)(Gs:d<=k)(hk:k<=24):W (call aq T (k'+3) true 22 [.d (bJ k d)]) [] λv s=>v=.d (.bl true):=by
 refine W.call zn3 rfl ?_;unfold Vp bJ;refine Y ?_;refine W.c0 Wz ?_;refine Y ?_;refine W.c0 iU ?_;rw[mR (show 1<=k/\k<=24 by lia)];refine Y ?_;refine W.c0 iU ?_;rw[mR (show 1<=d/\d<=k by lia)]
theorem zfH{k':Nat}{k d:Int}(hd:1<=d)(Gs:d<=k)(hk:k<=24):W (call aq T (k'+4) true 23 [.d (bJ k d)]) [] λv s=>∃d,v=.d d:=by
 refine W.call zn8 rfl ?_;unfold Vq;refine Y ?_;refine W.c0 (zhK hd Gs hk) ?_;refine Y ?_;exact⟨_,rfl⟩
section
variable {al:Bool}{n k:Nat}{es:Nat->List Int}{A:Int->Int->Bool}
def Told(al:Bool)(n k:Nat)(es:Nat->List Int)(A:Int->Int->Bool)(f l m c:Nat):Prop:=∀F kvs,Fv n k F->unset F<=m->lO es A kvs->kvs.length+c<sizeLine->
 W (call aq T l true f [.d (jB al n k es A),.l 0,.d (jA F)]) [.dct kvs] λv s=>∃b kvs',v=.d (.bl b)/\(b=true↔Sat es A F)/\s=[.dct kvs']/\lO es A kvs'/\kvs'.length<=kvs.length+c
theorem WD{l m c:Nat}(B:Bo n k es A)(H:Told al n k es A 28 (l+2) m c){F:Fr}{p:Nat}{L:List Int}{kvs:iW}(v:Fv n k F)(hu:unset F<=m+1)(hL:F[p]?=some (some L))(ha:lO es A kvs)(hl:kvs.length+k*c<sizeLine) :
  W (call aq T (l+3) true 27 [.d (jB al n k es A),.l 0,.d (jA F),.d (.int p)]) [.dct kvs] λv s=>∃kvs',s=[.dct kvs']/\lO es A kvs'/\kvs'.length<=kvs.length+k*c /\
   ((v=.d .non/\∀x∈L,¬Sat es A (settle es A F p x))\/∃x∈L,v=.d (.int x)/\Sat es A (settle es A F p x)/\∀y∈L,y<x->¬Sat es A (settle es A F p y)):=by
 refine W.call VB rfl ?_;unfold Oj;have yM:(100:Nat)<=sizeLine:=by decide
 have hp:=rF v.len hL;have hLk:L.length<=k:=zit (v.so p L hL) (v.lo p L hL);refine Y ?_;refine mO (zmj (by lia) (KQ hL)) ?_;show W (src (.d (.tup (L.map .int)))) _ _;refine Y ?_;refine Ka6 (λi J s=>∃(kvs':iW) (a4:Option Xv),s=[.dct kvs']/\J=[some (.d (jB al n k es A)),some (.l 0),some (.d (jA F)),some (.d (.int p)),a4]/\lO es A kvs'/\kvs'.length<=kvs.length+i*c/\∀j y,j<i->L[j]?=some y->¬Sat es A (settle es A F p y)) ⟨kvs,_,rfl,rfl,ha,by lia,λj _ hj=>absurd hj (by lia)⟩ (λi z J s e hI=>?_) (λJ s hI=>?_)
 ·obtain⟨kvs',a4,rfl,rfl,h1,h2,h3⟩:=hI;rw[jN] at e;cases ei:L[i]? with
  |none=>rw[ei] at e;cases e
  |some x=>
   rw[ei] at e;cases e;have hi:i<L.length:=(f9.mp ei).1;have hx:=gU ei;have hc:(i+1)*c<=k*c:=Lj _ (by lia);have nM:(i+1)*c=i*c+c:=Nat.succ_mul ..;refine Y ?_;refine W.cm rfl rfl (W.c0 (K9 B v hp (v.lo p L hL x hx)) ?_);refine Y ?_;have hu2:=KN (es:=es) (A:=A) (x:=x) hL;refine tZ (s:=[]) rfl ((H _ kvs' (KJ B v hp) (by lia) h1 (by lia)).imp λv1 s1=>?_);rintro⟨b,dJ,rfl,hb,rfl,g1,g2⟩;refine⟨_,_,rfl,rfl,?_⟩;refine Y ?_;cases b with
   |true=>
    refine Y ?_;refine .inr ⟨_,rfl,?_⟩;refine⟨dJ,rfl,g1,by lia,.inr ⟨x,hx,rfl,hb.mp rfl,λy hy cF=>?_⟩⟩;obtain⟨j,hj,ej⟩:=yW hy;refine h3 j y ?_ (by rw[eU hj,ej]);obtain⟨_,ex⟩:=f9.mp ei;exact Nat.lt_of_not_le λq=>by
     rcases Nat.lt_or_eq_of_le q with q|q
     ·have:=List.pairwise_iff_getElem.mp (v.so p L hL) i j hi hj q
      lia
     ·subst q;lia
   |false=>
    refine Y ?_;refine .inl ⟨_,rfl,dJ,_,rfl,rfl,g1,by lia,λj y hj ej=>?_⟩;by_cases q:j=i
    ·subst q;rw[ei] at ej;cases ej;exact λz=>by cases hb.mpr z
    ·exact h3 j y (by lia) ej
 ·obtain⟨kvs',a4,rfl,rfl,h1,h2,h3⟩:=hI;rw[eY] at h2 h3;have hc:L.length*c<=k*c:=Lj _ hLk;refine Y ?_;refine⟨kvs',rfl,h1,by lia,.inl ⟨rfl,λx hx=>?_⟩⟩;obtain⟨j,hj,ej⟩:=yW hx;exact h3 j x hj (by rw[eU hj,ej])
theorem zhY{l:Nat}(B:Bo n k es A):Told al n k es A 29 (l+3) 0 0:=by
 intro F kvs v hu ha hl;refine W.call Ol rfl ?_;unfold KZ;refine Y ?_;refine W.cm rfl rfl (vC rfl ((Wy B v).imp λx s=>?_));rintro(⟨rfl,hz⟩|⟨p,L,rfl,hL⟩)
 ·refine⟨_,rfl,?_⟩;refine Y ?_;exact⟨true,kvs,rfl,⟨λ_=>U8 hz,λ_=>rfl⟩,rfl,ha,by lia⟩
 ·exact absurd hL (zfl (by lia) p L)
theorem zhE{l m c:Nat}(B:Bo n k es A)(nH:1<=k)(dU:al=true->∀t a b:Int,0<=a->a<k->0<=b->b<k->A ((a+t)%k) ((b+t)%k)=A a b)(H:∀j,Told al n k es A 28 (l+2+j) m c):Told al n k es A 29 (l+4) (m+1) (k*c):=by
 intro F kvs v hu ha hl;refine W.call Ol rfl ?_;unfold KZ;have hkc:1*c<=k*c:=Lj _ nH;refine Y ?_;refine W.cm rfl rfl (vC rfl ((Wy B v).imp λx s=>?_));rintro(⟨rfl,hz⟩|⟨p,L,rfl,hL⟩)
 ·refine⟨_,rfl,?_⟩;refine Y ?_;exact⟨true,kvs,rfl,⟨λ_=>U8 hz,λ_=>rfl⟩,rfl,ha,by lia⟩
 ·refine⟨_,rfl,?_⟩;have hp:=rF v.len hL;cases al with
  |false=>
   refine Y ?_;refine tZ (s:=[]) rfl ((WD B (H 0) v hu hL ha (by lia)).imp λv1 s1=>?_);rintro⟨dJ,rfl,g1,g2,h⟩;rcases h with ⟨rfl,pY⟩|⟨x,hx,rfl,hs,_⟩
   ·refine⟨_,_,rfl,rfl,?_⟩;refine Y ?_;refine⟨false,dJ,rfl,⟨λz=>(by cases z),λz=>?_⟩,rfl,g1,g2⟩;obtain⟨x,hx,q⟩:=(Gn B v hp hL).mp z;exact absurd q (pY x hx)
   ·refine⟨_,_,rfl,rfl,?_⟩;refine Y ?_;exact⟨true,dJ,rfl,⟨λ_=>(Gn B v hp hL).mpr ⟨x,hx,hs⟩,λ_=>rfl⟩,rfl,g1,g2⟩
  |true=>
  have dU:=dU rfl;refine Y ?_;refine W.cm rfl rfl (W.c0 (zdn B v) ?_);refine Y ?_;cases eb:F.all (Gq k) with
  |true=>
   have all:∀(i:Nat) L,F[i]?=some (some L)->L=eN k:=λi L h=>jU (iu.mp eb _ (gU h));refine Y ?_;refine W.cm rfl rfl (W.c0 (K9 B v hp ⟨by lia,by lia⟩) ?_);refine Y ?_;have hu2:=KN (es:=es) (A:=A) (x:=0) hL;refine tZ (s:=[]) rfl ((H 1 _ kvs (KJ B v hp) (by lia) ha (by lia)).imp λv1 s1=>?_);rintro⟨b,dJ,rfl,hb,rfl,g1,g2⟩;refine⟨_,_,rfl,rfl,?_⟩;refine Y ?_;exact⟨b,dJ,rfl,hb.trans (U9 B v hp nH dU all (all p L hL▸hL)).symm,rfl,g1,by lia⟩
  |false=>
   refine Y ?_;refine tZ (s:=[]) rfl ((WD B (H 0) v hu hL ha (by lia)).imp λv1 s1=>?_);rintro⟨dJ,rfl,g1,g2,h⟩;rcases h with ⟨rfl,pY⟩|⟨x,hx,rfl,hs,_⟩
   ·refine⟨_,_,rfl,rfl,?_⟩;refine Y ?_;refine⟨false,dJ,rfl,⟨λz=>(by cases z),λz=>?_⟩,rfl,g1,g2⟩;obtain⟨x,hx,q⟩:=(Gn B v hp hL).mp z;exact absurd q (pY x hx)
   ·refine⟨_,_,rfl,rfl,?_⟩;refine Y ?_;exact⟨true,dJ,rfl,⟨λ_=>(Gn B v hp hL).mpr ⟨x,hx,hs⟩,λ_=>rfl⟩,rfl,g1,g2⟩
theorem zha{l m c:Nat}(B:Bo n k es A)(nH:1<=k)(dU:∀t a b:Int,0<=a->a<k->0<=b->b<k->A ((a+t)%k) ((b+t)%k)=A a b)(H:Told true n k es A 28 (l+3) m c){F:Fr}{kvs:iW}(v:Fv n k F)(hu:unset F<=m+1)(eb:F.all (Gq k)=true)(ha:lO es A kvs)(hl:kvs.length+c<sizeLine) :
  W (call aq T (l+4) true 29 [.d (jB true n k es A),.l 0,.d (jA F)]) [.dct kvs] λv s=>∃b kvs',v=.d (.bl b)/\(b=true↔Sat es A F)/\s=[.dct kvs']/\lO es A kvs'/\kvs'.length<=kvs.length+c:=by
 refine W.call Ol rfl ?_;unfold KZ;refine Y ?_;refine W.cm rfl rfl (vC rfl ((Wy B v).imp λx s=>?_));rintro(⟨rfl,hz⟩|⟨p,L,rfl,hL⟩)
 ·refine⟨_,rfl,?_⟩;refine Y ?_;exact⟨true,kvs,rfl,⟨λ_=>U8 hz,λ_=>rfl⟩,rfl,ha,by lia⟩
 ·refine⟨_,rfl,?_⟩;have hp:=rF v.len hL;refine Y ?_;refine W.cm rfl rfl (W.c0 (zdn B v) ?_);refine Y ?_;have all:∀(i:Nat) L,F[i]?=some (some L)->L=eN k:=λi L h=>jU (iu.mp eb _ (gU h));rw[eb];refine Y ?_;refine W.cm rfl rfl (W.c0 (K9 B v hp ⟨by lia,by lia⟩) ?_);refine Y ?_;have hu2:=KN (es:=es) (A:=A) (x:=0) hL;refine tZ (s:=[]) rfl ((H _ kvs (KJ B v hp) (by lia) ha (by lia)).imp λv1 s1=>?_);rintro⟨b,dJ,rfl,hb,rfl,g1,g2⟩;refine⟨_,_,rfl,rfl,?_⟩;refine Y ?_;exact⟨b,dJ,rfl,hb.trans (U9 B v hp nH dU all (all p L hL▸hL)).symm,rfl,g1,by lia⟩
theorem zkz{l c:Nat}(B:Bo n k es A){F:Fr}{kvs:iW}(v:Fv n k F)(ha:lO es A kvs)(hl:kvs.length+(1+c)<sizeLine)(H:W (call aq T (l+3) true 29 [.d (jB al n k es A),.l 0,.d (jA (bnd es F))]) [.dct kvs] λv s=>∃b kvs',v=.d (.bl b)/\(b=true↔Sat es A (bnd es F))/\s=[.dct kvs']/\lO es A kvs'/\kvs'.length<=kvs.length+c) :
  W (call aq T (l+4) true 28 [.d (jB al n k es A),.l 0,.d (jA F)]) [.dct kvs] λv s=>∃b kvs',v=.d (.bl b)/\(b=true↔Sat es A F)/\s=[.dct kvs']/\lO es A kvs'/\kvs'.length<=kvs.length+(1+c):=by
 refine W.call znZ rfl ?_;unfold Vu;refine Y ?_;refine mO (znE (f:=id)) ?_;by_cases e0:some []∈F
 ·rw[mR e0];refine Y ?_;obtain⟨i,hi,ei⟩:=yW e0;refine⟨false,kvs,rfl,⟨λz=>(by cases z),λz=>absurd z (zjR (i:=i) (by rw[eU hi,ei]))⟩,rfl,ha,by lia⟩
 ·rw[tM e0];have ne:∀(i:Nat) L,F[i]?=some (some L)->L≠[]:=λi L h q=>by subst q;exact e0 (gU h)
  have sb:=zjG B v ne;refine Y ?_;refine W.cm rfl rfl (W.c0 (ziT B v) ?_);refine Y ?_;refine W.zK rfl rfl (Oa _) rfl ?_;cases eg:cI ((bnd es F).map cellK) kvs with
  |some d=>
   obtain⟨b,rfl,hb⟩:=ha _ _ eg;refine Y ?_;refine W.oN rfl rfl (Oa _) rfl eg ?_;refine Y ?_;exact⟨b,kvs,rfl,hb.trans sb,rfl,ha,by lia⟩
  |none=>
   refine Y ?_;refine WS.dput rfl rfl (Oa _) ?_;refine Y ?_;refine tZ (s:=[]) rfl (H.imp λv1 s1=>?_);rintro⟨b,dJ,rfl,hb,rfl,g1,g2⟩;refine⟨_,_,rfl,rfl,?_⟩;refine⟨_,dJ,rfl,rfl,by lia,?_⟩;refine Y ?_;refine W.oN (v:=.bl b) rfl rfl (Oa _) rfl (by rw[zeF,if_pos rfl]) ?_;refine Y ?_;have:=zhR (q:=(bnd es F).map cellK) (d:=.bl b) (kvs:=dJ);exact⟨b,_,rfl,hb.trans sb,rfl,zi0 g1 hb,by lia⟩
theorem zk6{l m c:Nat}(B:Bo n k es A)(H:Told al n k es A 29 (l+3) m c):Told al n k es A 28 (l+4) m (1+c):=by
 intro F kvs v hu ha hl;have hu2:=zc5 (es:=es) (F:=F);exact zkz B v ha hl (H _ kvs (ziv v) (by lia) ha (by lia))
theorem O5(B:Bo n k es A)(nH:1<=k)(dU:al=true->∀t a b:Int,0<=a->a<k->0<=b->b<k->A ((a+t)%k) ((b+t)%k)=A a b):∀m j,Told al n k es A 28 (3*m+4+j) m (cnt k m)
 |0,j=>by
  rw[show 3*0+4+j=j+4 by lia];exact zk6 (c:=0) B (zhY B)
 |m+1,j=>by
  rw[show 3*(m+1)+4+j=(3*m+3+j)+4 by lia];refine zk6 B ?_;rw[show 3*m+3+j+3=(3*m+2+j)+4 by lia];refine zhE B nH dU λi=>?_;rw[show 3*m+2+j+2+i=3*m+4+(j+i) by lia];exact O5 B nH dU m (j+i)
theorem zhP{m j:Nat}(B:Bo n k es A)(nH:1<=k)(dU:∀t a b:Int,0<=a->a<k->0<=b->b<k->A ((a+t)%k) ((b+t)%k)=A a b){F:Fr}{kvs:iW}(v:Fv n k F)(hu:unset F<=m+1)(eb:F.all (Gq k)=true)(ha:lO es A kvs)(hl:kvs.length+(1+cnt k m)<sizeLine) :
  W (call aq T (3*(m+1)+4+j) true 28 [.d (jB true n k es A),.l 0,.d (jA F)]) [.dct kvs] λv s=>∃b kvs',v=.d (.bl b)/\(b=true↔Sat es A F)/\s=[.dct kvs']/\lO es A kvs'/\kvs'.length<=kvs.length+(1+cnt k m):=by
 rw[show 3*(m+1)+4+j=(3*m+3+j)+4 by lia];refine zkz B v ha hl ?_;rw[show 3*m+3+j+3=(3*m+2+j)+4 by lia];have hu2:=zc5 (es:=es) (F:=F);refine zha B nH dU ?_ (ziv v) (jO hu2 hu) ?_ ha (by lia)
 ·rw[show 3*m+2+j+3=3*m+4+(j+1) by lia];exact O5 B nH (λ_=>dU) m (j+1)
 ·refine iu.mpr λc hc=>?_;cases c with
  |none=>rfl
  |some L=>
   obtain⟨i,hi,ei⟩:=yW hc;have:=DR (es:=es) (F:=F) (i:=i) (L:=L) (by rw[eU hi,ei]);exact iu.mp eb _ (gU this.1)
theorem zla{l m c:Nat}(B:Bo n k es A)(nH:1<=k)(dU:∀t a b:Int,0<=a->a<k->0<=b->b<k->A ((a+t)%k) ((b+t)%k)=A a b)(H:Told true n k es A 28 (l+2) m c){F:Fr}{p:Nat}{kvs:iW}(v:Fv n k F)(hu:unset F<=m+1)(all:∀(i:Nat) L,F[i]?=some (some L)->L=eN k)(hL:F[p]?=some (some (eN k)))(tL:Sat es A F)(ha:lO es A kvs)(hl:kvs.length+c<sizeLine) :
  W (call aq T (l+3) true 27 [.d (jB true n k es A),.l 0,.d (jA F),.d (.int p)]) [.dct kvs] λv s=>∃kvs',s=[.dct kvs']/\lO es A kvs'/\kvs'.length<=kvs.length+c /\
   ((v=.d .non/\∀x∈eN k,¬Sat es A (settle es A F p x))\/∃x∈eN k,v=.d (.int x)/\Sat es A (settle es A F p x)/\∀y∈eN k,y<x->¬Sat es A (settle es A F p y)):=by
 refine W.call VB rfl ?_;unfold Oj;have hp:=rF v.len hL;have h0:=(U9 B v hp nH dU all hL).mp tL;refine Y ?_;refine mO (zmj (by lia) (KQ hL)) ?_;show W (src (.d (.tup ((eN k).map .int)))) _ _;refine Y ?_;refine Ka6 (λi J s=>i=0/\∃a4:Option Xv,s=[.dct kvs]/\J=[some (.d (jB true n k es A)),some (.l 0),some (.d (jA F)),some (.d (.int p)),a4]) ⟨rfl,_,rfl,rfl⟩ (λi z J s e hI=>?_) (λJ s hI=>?_)
 ·obtain⟨rfl,a4,rfl,rfl⟩:=hI;rw[jN] at e;have ei:(eN k)[0]?=some 0:=by unfold eN;rw[jN,Gy (by lia)];rfl
  rw[ei] at e;cases e;have hx:(0:Int)∈eN k:=bU.mpr ⟨by lia,by lia⟩;refine Y ?_;refine W.cm rfl rfl (W.c0 (K9 B v hp ⟨by lia,by lia⟩) ?_);refine Y ?_;have hu2:=KN (es:=es) (A:=A) (x:=0) hL;refine tZ (s:=[]) rfl ((H _ kvs (KJ B v hp) (by lia) ha (by lia)).imp λv1 s1=>?_);rintro⟨b,dJ,rfl,hb,rfl,g1,g2⟩;have eb:b=true:=hb.mpr h0;subst eb;refine⟨_,_,rfl,rfl,?_⟩;refine Y ?_;refine .inr ⟨_,rfl,?_⟩;exact⟨dJ,rfl,g1,g2,.inr ⟨0,hx,rfl,h0,λy hy cF=>absurd (bU.mp hy).1 (by lia)⟩⟩
 ·obtain⟨hz,_⟩:=hI;rw[eY] at hz;have:(eN k).length=k:=by unfold eN;simp
  lia
end
section
variable {al:Bool}{n k:Nat}{es:Nat->List Int}{A:Int->Int->Bool}
theorem zka{k':Nat}(B:Bo n k es A)(nH:1<=k)(dU:al=true->∀t a b:Int,0<=a->a<k->0<=b->b<k->A ((a+t)%k) ((b+t)%k)=A a b){F0:Fr}(v0:Fv n k F0)(all:∀i,i<n->∃L,F0[i]?=some (some L)){c0 c1:Nat}(hz:c0+c1+tot k (n-1)<sizeLine)
  (Hc:W (call aq T (3*n+4+k') true 28 [.d (jB al n k es A),.l 0,.d (jA F0)]) [.dct []] λv s=>∃b kvs',v=.d (.bl b)/\(b=true↔Sat es A F0)/\s=[.dct kvs']/\lO es A kvs'/\kvs'.length<=c0)
  (Hf:∀kvs L,F0[0]?=some (some L)->Sat es A F0->lO es A kvs->kvs.length<=c0->W (call aq T (3*n+1+k'+3) true 27 [.d (jB al n k es A),.l 0,.d (jA F0),.d (.int (0:Nat))]) [.dct kvs] λv s=>∃kvs',s=[.dct kvs']/\lO es A kvs'/\kvs'.length<=kvs.length+c1 /\
   ((v=.d .non/\∀x∈L,¬Sat es A (settle es A F0 0 x))\/∃x∈L,v=.d (.int x)/\Sat es A (settle es A F0 0 x)/\∀y∈L,y<x->¬Sat es A (settle es A F0 0 y))) :
  W (call aq T (3*n+5+k') true 26 [.d (jB al n k es A),.d (.fl (F0.map bM))]) [] λv s=>(v=.d .non/\¬Sat es A F0)\/∃hs:List Int,v=.d (.tup (hs.map .int))/\hs.length=n/\qC es A F0 (λj=>at' hs j)/\∀g,qC es A F0 g->∀j,j<n->(∀t,t<j->g t=at' hs t)->at' hs j<=g j:=by
 have hn:=B.hn;have hl:=v0.len;rw[show 3*n+5+k'=(3*n+4+k')+1 by lia];refine W.call zoa rfl ?_;unfold Vt;have yM:(100:Nat)<=sizeLine:=by decide
 have Js:unset F0<=n:=by unfold unset;rw[<-hl];exact List.countP_le_length
 refine Y ?_;refine W.qg ?_;refine Y ?_;refine tZ (s:=[]) rfl (Hc.imp λv1 s1=>?_);rintro⟨b,kvs,rfl,hb,rfl,g1,g2⟩;refine⟨_,_,rfl,rfl,?_⟩;refine Y ?_;cases b with
 |false=>
  refine Y ?_;exact .inl ⟨rfl,λz=>by cases hb.mpr z⟩
 |true=>
  have tL:=hb.mp rfl;refine Y ?_;have K_:((F0.map bM).length:Int)=n:=by rw[eY,hl]
  refine⟨by rw[K_,tY (by lia) (by lia),tY (by lia) (by lia)];rfl,?_⟩;rw[K_];refine NZ (c:=(List.range ((n:Int)-0).toNat).map λ(j:Nat)=>.int (0+j)) (λi J s=>∃(kvs':iW) (Fi:Fr) (hs:List Int) (a5 a6:Option Xv),s=[.dct kvs',.lst (hs.map .int)]/\J=[some (.d (jB al n k es A)),some (.d (.fl (F0.map bM))),some (.d (jA Fi)),some (.l 0),some (.l 1),a5,a6]/\lO es A kvs'/\(i=0->Fi=F0/\kvs'.length<=c0)/\(1<=i->kvs'.length+tot k (n-i)<=c0+c1+tot k (n-1))/\hs.length=i/\Fv n k Fi/\unset Fi<=n-i/\(∀j,i<=j->j<n->∃L,Fi[j]?=some (some L))/\Sat es A Fi /\
   (∀g,qC es A Fi g->qC es A F0 λj=>if j<i then at' hs j else g j)/\(∀g,qC es A F0 g->(∀t,t<i->g t=at' hs t)->qC es A Fi g)/\(∀g,qC es A F0 g->∀j,j<i->(∀t,t<j->g t=at' hs t)->at' hs j<=g j)) ?_ (λi z J s e hI=>?_) (λJ s hI=>?_)
  ·exact⟨kvs,F0,[],_,_,rfl,rfl,g1,λ_=>⟨rfl,g2⟩,λz=>absurd z (by lia),rfl,v0,by lia,λj _ hj=>all j hj,tL,λg s=>by simpa using s,λg s _=>s,λg _ j hj=>absurd hj (by lia)⟩
  ·obtain⟨kvs',Fi,hs,a5,a6,rfl,rfl,i1,i0,i2,i3,i4,i5,i6,i7,i8,i9,O6⟩:=hI;rw[jN] at e;cases ei:(List.range ((n:Int)-0).toNat)[i]? with
   |none=>rw[ei] at e;cases e
   |some j=>
    rw[ei] at e;cases e;obtain⟨hil,ej⟩:=f9.mp ei;rw[List.getElem_range] at ej;rw[vO] at hil;subst ej;obtain⟨L,hL⟩:=i6 i (cD _) (by lia);have ez:((0:Int)+(i:Nat))=(i:Int):=by lia
    dsimp only;rw[ez];have hp:=rF i4.len hL;obtain⟨m,hm⟩ : ∃m,n-i=m+1:=⟨n-i-1,by lia⟩;rw[hm] at i2 i5;have et:tot k (m+1)=k*cnt k m+tot k m:=rfl;refine Y ?_;have lv:3*n+4+k'=(3*n+1+k')+3:=by lia
    refine Kaq (s:=[]) rfl ?_;rw[lv];have H:Told al n k es A 28 (3*n+1+k'+2) m (cnt k m):=by
     rw[show 3*n+1+k'+2=3*m+4+(3*n-3*m+k'-1) by lia];exact O5 B nH dU m _
    obtain⟨c2,nM,hW⟩ : ∃c2,(kvs'.length+c2+tot k m<=c0+c1+tot k (n-1))/\W (call aq T (3*n+1+k'+3) true 27 [.d (jB al n k es A),.l 0,.d (jA Fi),.d (.int i)]) [.dct kvs'] λv s=>∃dJ,s=[.dct dJ]/\lO es A dJ/\dJ.length<=kvs'.length+c2 /\
      ((v=.d .non/\∀x∈L,¬Sat es A (settle es A Fi i x))\/∃x∈L,v=.d (.int x)/\Sat es A (settle es A Fi i x)/\∀y∈L,y<x->¬Sat es A (settle es A Fi i y)):=by
     by_cases c:i=0
     ·subst c;obtain⟨rfl,q⟩:=i0 rfl;have em:n-1=m:=by lia
      rw[em];exact⟨c1,by lia,Hf kvs' L hL tL i1 q⟩
     ·have i2:=i2 (by lia);refine⟨k*cnt k m,by lia,WD B H i4 i5 hL i1 (by lia)⟩
    clear i2;refine hW.imp λv1 s1=>?_;rintro⟨dJ,rfl,q1,q2,h⟩;rcases h with ⟨rfl,pY⟩|⟨x,hx,rfl,Bq,cF⟩
    ·obtain⟨x,hx,q⟩:=(Gn B i4 hp hL).mp i7;exact absurd q (pY x hx)
    ·refine⟨_,_,rfl,rfl,?_⟩;refine Y ?_;refine W.cm rfl rfl (W.c0 (K9 (k':=3*n+2+k') B i4 hp (i4.lo i L hL x hx)) ?_);refine Y ?_;refine⟨by rw[eY];lia,?_⟩;refine Y ?_;have ag:∀j:Nat,j<i->at' (hs++[x]) j=at' hs j:=λj hj=>Ag (by lia) (by lia);have ai:at' (hs++[x]) (i:Int)=x:=by rw[<-i3];exact Us
     refine⟨_,rfl,dJ,settle es A Fi i x,hs++[x],_,_,?_,rfl,q1,λz=>absurd z (by lia),λ_=>by rw[show n-(i+1)=m by lia];lia,by simp[i3],KJ B i4 hp,?_,λj hj hjn=>?_,Bq,λg s=>?_,λg s hg=>?_,λg s j hj hg=>?_⟩
     ·rw[Er];rfl
     ·have:=KN (es:=es) (A:=A) (x:=x) hL
      lia
     ·obtain⟨M,hM⟩:=i6 j (by lia) hjn;exact⟨_,KH B i4.len hp (by lia) hM⟩
     ·have s2:=i8 _ (zel B i4 hp hL hx s);refine⟨λj M hM=>?_,λj e M N h1 h2 he=>?_⟩
      ·have:=s2.mem j M hM
       try dsimp only at this ⊢
       by_cases c1:j<i
       ·rw[if_pos c1] at this;rw[if_pos (by lia),ag j c1];exact this
       ·rw[if_neg c1] at this;by_cases c2:j=i
        ·rw[if_pos c2] at this;rw[if_pos (by lia),c2,ai];exact this
        ·rw[if_neg c2] at this;rw[if_neg (by lia)];exact this
      ·have ff:∀j:Nat,(if j<i then at' hs j else if j=i then x else g j)=if j<i+1 then at' (hs++[x]) j else g j:=λj=>by
        by_cases c1:j<i
        ·rw[if_pos c1,if_pos (by lia),ag j c1]
        ·rw[if_neg c1];by_cases c2:j=i
         ·rw[if_pos c2,if_pos (by lia),c2,ai]
         ·rw[if_neg c2,if_neg (by lia)]
       have:=s2.fit j e M N h1 h2 he
       try dsimp only at this ⊢
       rw[<-ff,<-ff];exact this
     ·have s2:=i9 g s λt ht=>by rw[hg t (by lia),ag t ht]
      have s3:=Oc B i4 hp hL s2;rw[hg i (by lia),ai] at s3;exact s3
     ·by_cases c1:j<i
      ·rw[ag j c1];exact O6 g s j c1 λt ht=>by rw[hg t ht,ag t (by lia)]
      ·have:j=i:=by lia
       subst this;rw[ai];have s2:=i9 g s λt ht=>by rw[hg t ht,ag t ht]
       have s3:=Oc B i4 hp hL s2;exact Int.not_lt.mp λq=>cF (g j) (s2.mem j L hL) q ⟨g,s3⟩
  ·obtain⟨kvs',Fi,hs,a5,a6,rfl,rfl,i1,i0,i2,i3,i4,i5,i6,i7,i8,i9,O6⟩:=hI;rw[eY,vO,show ((n:Int)-0).toNat=n by lia] at i3 i8 O6;refine Y ?_;refine .inr ⟨hs,rfl,i3,?_,O6⟩;obtain⟨g,sg⟩:=i7;have s2:=i8 g sg;refine⟨λj M hM=>?_,λj e M N h1 h2 he=>?_⟩
   ·have:=s2.mem j M hM;rw[if_pos (rF hl hM)] at this;exact this
   ·have:=s2.fit j e M N h1 h2 he;rw[if_pos (rF hl h1),if_pos (rF hl h2)] at this;exact this
end
section
variable {n k d:Int}{ps:List (Int×Int)}
theorem zd5{k':Nat}(h:Web n ps)(hd:1<=d)(Gs:d<=k)(hk:k<=24)(hz:1+cnt k.toNat (n.toNat-1)+cnt k.toNat (n.toNat-1)+tot k.toNat (n.toNat-1)<sizeLine):W (call aq T (k'+40) true 25 [.d (aK n ps),.d (bJ k d)]) [] λv s=>(v=.d .non/\∀hs,¬jL n k d ps hs)\/∃hs,v=.d (.tup (hs.map .int))/\jL n k d ps hs/\∀g,jL n k d ps g->Ge g hs:=by
 refine W.call znT rfl ?_;unfold Vr;have yM:(100:Nat)<=sizeLine:=by decide
 have h1:=h.h1;have h8:=h.h8;refine Y ?_;refine W.c1 (zhN h) λ_=>?_;refine Y ?_;refine W.c1 (zfH hd Gs hk) λ_=>?_;refine Y ?_;refine W.c0 (zjb h hd Gs hk) ?_;refine Y ?_;refine wC (l:=List.range (n-0).toNat) (f:=λ(j:Nat)=>.int (0+j)) (λ(_:Nat)=>some (bM (some (eN k.toNat)))) (by rw[vO];lia) ?_ (λj hj=>?_) ?_
 ·unfold aK;refine Y ?_;refine⟨by rw[tY (by lia) (by lia),tY (by lia) (by lia)];rfl,?_⟩;exact⟨rfl,rfl⟩
 ·refine Y ?_;refine⟨rfl,λ_=>?_,λhb=>by cases hb⟩;refine Y ?_;exact⟨rfl,_,rfl,rfl⟩
 ·have ef:(List.range (n-0).toNat).filterMap (λ(_:Nat)=>some (bM (some (eN k.toNat))))=(jm n k).map bM:=by
   rw[Dw,show n-0=n by lia];unfold jm;rw[List.map_replicate];rw[List.map_const',vO]
  rw[ef];refine Y ?_;have lv:k'+39=3*n.toNat+5+(k'+34-3*n.toNat):=by lia
  refine vC rfl ?_;show W (Mi.call aq T (k'+39) true _ _) _ _;rw[lv];have B:=zkJ h hd hk;have nH:1<=k.toNat:=by lia
  have dU:∀t a b:Int,0<=a->a<(k.toNat:Nat)->0<=b->b<(k.toNat:Nat)->dz k d ((a+t)%(k.toNat:Nat)) ((b+t)%(k.toNat:Nat))=dz k d a b:=λt a b a0 ak b0 bk=>by rw[show ((k.toNat:Nat):Int)=k by lia] at *;exact Od hd t a b a0 ak b0 bk
  obtain⟨m,hm⟩ : ∃m,n.toNat=m+1:=⟨n.toNat-1,by lia⟩;have em:n.toNat-1=m:=by lia
  have Js:unset (jm n k)<=m+1:=by
   have:=(Og (n:=n) hk).len;rw[<-hm,<-this];exact List.countP_le_length
  have al:∀(i:Nat) L,(jm n k)[i]?=some (some L)->L=eN k.toNat:=λi L e=>(KY e).2;have eb:(jm n k).all (Gq k.toNat)=true:=iu.mpr λc hc=>by rw[List.eq_of_mem_replicate hc];exact mR rfl
  rw[em] at hz;refine(zka (c0:=1+cnt k.toNat m) (c1:=cnt k.toNat m) B nH (λ_=>dU) (Og hk) (λi hi=>⟨_,Oe hi⟩) (by rw[em];exact hz) ?_ (λkvs L hL tL ha hl=>?_)).imp λv s=>?_
  ·rw[hm];have:=zhP (m:=m) (j:=k'+34-3*(m+1)) (kvs:=[]) B nH dU (Og hk) Js eb (λF d e=>by cases e) (by simp;lia);rw[hm] at this;simpa using this
  ·have e:=al 0 L hL;subst e;refine zla B nH dU ?_ (Og hk) Js al hL tL ha (by lia);rw[show 3*n.toNat+1+(k'+34-3*n.toNat)+2=3*m+4+(k'+33-3*m) by lia];exact O5 B nH (λ_=>dU) m _
  rintro(⟨rfl,pY⟩|⟨hs,rfl,hl,WK,v7⟩)
  ·refine⟨_,rfl,?_⟩;refine Y ?_;exact .inl ⟨rfl,λhs hh=>pY ⟨_,zev h hd hh⟩⟩
  ·refine⟨_,rfl,?_⟩;refine Y ?_;refine .inr ⟨hs,rfl,zhT h hl WK,λg hg j hj ha=>?_⟩;exact v7 _ (zev h hd hg) j (by lia) ha
end
section
variable {n k d:Int}{ps:List (Int×Int)}
theorem small{n k:Int}(hn:n<=8)(hk:k<=8):1+cnt k.toNat (n.toNat-1)+cnt k.toNat (n.toNat-1)+tot k.toNat (n.toNat-1)<sizeLine:=by
 have:=zd8 (k:=k.toNat) (k2:=8) (m:=n.toNat-1) (m2:=7) (by lia) (by lia);have:=zhC (k:=k.toNat) (k2:=8) (m:=n.toNat-1) (m2:=7) (by lia) (by lia);have e:1+cnt 8 7+cnt 8 7+tot 8 7<sizeLine:=by decide
 lia
noncomputable def jC(n k d:Int)(ps:List (Int×Int)):Bool:=!(grows k d ps [[0]] (n.toNat-1)).isEmpty
theorem WL(h:Web n ps)(hd:1<=d)(hk:1<=k):jC n k d ps=true↔∃g,jL n k d ps g:=by
 have h1:=h.h1;rw[<-zhJ h hd hk];have e:=zbX h hd hk (n.toNat-1);rw[show n.toNat-1+1=n.toNat by lia] at e;rw[e];unfold jC;cases grows k d ps [[0]] (n.toNat-1) with
 |nil=>simp
 |cons a l=>simp;lia
theorem zlj{k':Nat}(h:Web n ps)(hr:1<=d/\d<=k/\k<=8):W (call aq T (k'+41) true 31 [.d (aK n ps),.d (bJ k d)]) [] λv s=>v=.d (.bl (jC n k d ps)):=by
 have h8:=h.h8;have hi:=WL h hr.1 (show 1<=k by lia);refine W.call zn1 rfl ?_;unfold Vv;refine Y ?_;refine vC rfl ((zd5 (k':=k') h hr.1 hr.2.1 (by lia) (small h8 hr.2.2)).imp λv s hv=>?_);rcases hv with ⟨rfl,pY⟩|⟨hs,rfl,hh,hg⟩
 ·refine⟨_,rfl,?_⟩;have:jC n k d ps=false:=by
   cases e:jC n k d ps with
   |false=>rfl
   |true=>obtain⟨g,hg⟩:=hi.mp e;exact absurd hg (pY g)
  rw[this];refine Y ?_;rfl
 ·refine⟨_,rfl,?_⟩;rw[hi.mpr ⟨hs,hh⟩];refine Y ?_;rfl
end
noncomputable def rG:List D->Option (List (Int×Int))
 |[]=>some []
 |.tup [.int a,.int b]::r=>(rG r).map ((a,b)::·)
 |_=>none
theorem zia:∀{xs:List D} {ps:List (Int×Int)},rG xs=some ps->xs=ps.map lC
 |[],ps,h=>by cases h;rfl
 |d::r,ps,h=>by
  unfold rG at h;split at h
  ·rename_i e;cases e
  ·rename_i a b r' e;cases e;obtain⟨q,e1,e2⟩:=kZ.mp h;subst e2;rw[jo,<-zia e1];rfl
  ·cases h
noncomputable def WM(p q:Int×Int):Bool:=decide (p.1<q.1)||(decide (p.1=q.1)&&decide (p.2<q.2))
noncomputable def yN:List (Int×Int)->Bool
 |[]=>true
 |p::r=>r.all (WM p)&&yN r
theorem WQ:∀{ps:List (Int×Int)},yN ps=true->ps.Pairwise lx
 |[],_=>List.Pairwise.nil
 |p::r,h=>by
  unfold yN at h;rw[fu,iu] at h;refine List.Pairwise.cons (λq hq=>?_) (WQ h.2);have:=h.1 q hq;unfold WM at this;simp only[LC,fu,yZ] at this;unfold lx
  lia
noncomputable def yO(n:Int)(ps:List (Int×Int)):Bool:=decide (1<=n)&&decide (n<=8)&&ps.all (λp=>decide (0<=p.1)&&decide (p.1<p.2)&&decide (p.2<n))&&yN ps
theorem WR{n:Int}{ps:List (Int×Int)}(h:yO n ps=true):Web n ps:=by
 unfold yO at h;simp only[fu,iu,yZ] at h;obtain⟨⟨⟨h1,h8⟩,ht⟩,hi⟩:=h;have ht':∀p∈ps,0<=p.1/\p.1<p.2/\p.2<n:=λp hp=>by have:=ht p hp;lia
 exact⟨h1,h8,ht',WQ hi,zmq h1 h8 ht' (WQ hi)⟩
noncomputable def yP(n:Int)(p:Int×Int):Int×Int:=(n-1-p.2,n-1-p.1)
noncomputable def La(p:Int×Int):List (Int×Int)->List (Int×Int)
 |[]=>[p]
 |q::r=>if WM p q=true then p::q::r else q::La p r
noncomputable def yQ:List (Int×Int)->List (Int×Int)
 |[]=>[]
 |p::r=>La p (yQ r)
noncomputable def vL(a b:List (Int×Int)):Bool:=a.all (λp=>b.contains p)&&b.all λp=>a.contains p
theorem zjS{a b:List (Int×Int)}(h:vL a b=true)(p:Int×Int):p∈a↔p∈b:=by
 unfold vL at h;rw[fu,iu,iu] at h;exact⟨λz=>Px.mp (h.1 p z),λz=>Px.mp (h.2 p z)⟩
theorem zis{h:List Int}{n j:Int}(hl:(h.length:Int)=n)(h0:0<=j)(hj:j<n):at' h.reverse j=at' h (n-1-j):=by
 unfold at';rw[lE,lE,List.getElem?_reverse (by lia),show h.length-1-j.toNat=(n-1-j).toNat by lia]
theorem zer{n k d:Int}{ps qs:List (Int×Int)}{h:List Int}(w:Web n qs)(hm:∀q∈qs,∃p∈ps,q=yP n p)(hh:jL n k d ps h):jL n k d qs h.reverse:=by
 have hl:=hh.len;refine⟨by rw[List.length_reverse];exact hl,λx hx=>hh.lo x (List.mem_reverse.mp hx),λq hq=>?_⟩;obtain⟨p,hp,rfl⟩:=hm q hq;have ht:=w.tie _ hq;unfold yP at ht ⊢;dsimp only at ht ⊢;rw[zis hl (by lia) (by lia),zis hl (by lia) (by lia),zhZ,show n-1-(n-1-p.2)=p.2 by lia,show n-1-(n-1-p.1)=p.1 by lia];exact hh.fit p hp
theorem zhw{n k d:Int}{ps qs:List (Int×Int)}(h:Web n ps)(h':Web n qs)(hm:∀q,q∈qs↔q∈ps.map (yP n))(hd:1<=d)(hk:1<=k):jC n k d ps=jC n k d qs:=by
 rw[Bool.eq_iff_iff,WL h' hd hk,WL h hd hk]
 constructor
 ·rintro⟨g,hg⟩;exact⟨_,zer h' (λq hq=>by obtain⟨p,hp,e⟩:=qH.mp ((hm q).mp hq);exact⟨p,hp,e.symm⟩) hg⟩
 ·rintro⟨g,hg⟩;refine⟨_,zer h (λp hp=>⟨yP n p,(hm _).mpr (qH.mpr ⟨p,hp,rfl⟩),?_⟩) hg⟩;unfold yP;obtain⟨a,b⟩:=p;dsimp only
  congr 1<;>lia
noncomputable def WT:List Xv->Option D
 |[.d (.tup [.int n,.tup ts]),.d (.tup [.int k,.int d])]=>match rG ts with
  |some ps=>if (yO n ps&&yO n (yQ (ps.map (yP n)))&&vL (yQ (ps.map (yP n))) (ps.map (yP n))&&decide (1<=d)&&decide (d<=k)&&decide (k<=8))=true then some (.bl (jC n k d (yQ (ps.map (yP n))))) else none
  |none=>none
 |_=>none
theorem zk8(k:Nat)(xs:List Xv)(d:D)(h:WT xs=some d):W (call aq T (k+41) true 31 xs) [] λv _=>v=.d d:=by
 unfold WT at h;split at h
 ·rename_i n ts kk dd;split at h
  ·rename_i ps e;split at h
   ·rename_i c;cases h;simp only[fu,yZ] at c;obtain⟨⟨⟨⟨⟨c1,c5⟩,c6⟩,c2⟩,c3⟩,c4⟩:=c;rw[zia e,<-zhw (WR c1) (WR c5) (zjS c6) c2 (by lia)];exact zlj (WR c1) ⟨c2,c3,c4⟩
   ·cases h
  ·cases h
 ·cases h
noncomputable def aW(f:Nat)(xs:List Xv):Option D:=match pq aq T 31 WT 18 true f xs [] with
 |some (.ok (.d d),_)=>some d
 |_=>none
theorem cZ{f:Nat}{xs:List Xv}{d:D}(h:aW f xs=some d):W (call aq T 59 true f xs) [] λv _=>v=.d d:=by
 unfold aW at h;split at h
 ·rename_i d' s1 e;cases h;rcases zeE (m:=41) zk8 18 true f xs [] _ _ e with z|⟨_,d2,s2,e2,z⟩
  ·exact⟨_,_,z,rfl⟩
  ·cases e2;exact⟨_,_,z,rfl⟩
 ·cases h
noncomputable def cU(n:Int):List (Int×Int):=(0,1)::(0,n-1)::((List.range (n.toNat-2)).map λ(i:Nat)=>((i:Int)+1,(i:Int)+2))
noncomputable def bO(m:Int):List (Int×Int):=(List.range m.toNat).flatMap λ(i:Nat)=>(List.range (m.toNat-1-i)).map λ(j:Nat)=>((i:Int),(i:Int)+1+(j:Int))
noncomputable def rR(n:Int):Int×Int:=if n=3 then (3,1) else if n=4 then (2,1) else (5,2)
noncomputable def eO(n m:Int):List (Int×Int):=cU n++(bO m).map λp=>(p.1+n,p.2+n)
theorem rr3:aW 55 [.d (.int 3)]=some (.bl true):=by kernel_rfl
theorem rr4:aW 55 [.d (.int 4)]=some (.bl true):=by kernel_rfl
theorem rr5:aW 55 [.d (.int 5)]=some (.bl true):=by kernel_rfl
theorem rr6:aW 55 [.d (.int 6)]=some (.bl true):=by kernel_rfl
theorem rr7:aW 55 [.d (.int 7)]=some (.bl true):=by kernel_rfl
theorem rr8:aW 55 [.d (.int 8)]=some (.bl true):=by kernel_rfl
theorem Uz:aW 53 [.d (.int 3)]=some (aK 3 (cU 3)):=by kernel_rfl
theorem rd4:aW 53 [.d (.int 4)]=some (aK 4 (cU 4)):=by kernel_rfl
theorem rd5:aW 53 [.d (.int 5)]=some (aK 5 (cU 5)):=by kernel_rfl
theorem rd6:aW 53 [.d (.int 6)]=some (aK 6 (cU 6)):=by kernel_rfl
theorem rd7:aW 53 [.d (.int 7)]=some (aK 7 (cU 7)):=by kernel_rfl
theorem rd8:aW 53 [.d (.int 8)]=some (aK 8 (cU 8)):=by kernel_rfl
theorem tr3:aW 56 [.d (aK 3 (cU 3))]=some (.bl true):=by kernel_rfl
theorem tr4:aW 56 [.d (aK 4 (cU 4))]=some (.bl true):=by kernel_rfl
theorem tr5:aW 56 [.d (aK 5 (cU 5))]=some (.bl true):=by kernel_rfl
theorem tr6:aW 56 [.d (aK 6 (cU 6))]=some (.bl true):=by kernel_rfl
theorem tr7:aW 56 [.d (aK 7 (cU 7))]=some (.bl true):=by kernel_rfl
theorem ta1:aW 54 [.d (.int 1)]=some (aK 1 (bO 1)):=by kernel_rfl
theorem ta2:aW 54 [.d (.int 2)]=some (aK 2 (bO 2)):=by kernel_rfl
theorem ta3:aW 54 [.d (.int 3)]=some (aK 3 (bO 3)):=by kernel_rfl
theorem ta4:aW 54 [.d (.int 4)]=some (aK 4 (bO 4)):=by kernel_rfl
theorem ta5:aW 54 [.d (.int 5)]=some (aK 5 (bO 5)):=by kernel_rfl
theorem ta6:aW 54 [.d (.int 6)]=some (aK 6 (bO 6)):=by kernel_rfl
theorem sa1:aW 32 [.d (aK 1 (bO 1))]=some (bJ 1 1):=by kernel_rfl
theorem sa2:aW 32 [.d (aK 2 (bO 2))]=some (bJ 2 1):=by kernel_rfl
theorem sa3:aW 32 [.d (aK 3 (bO 3))]=some (bJ 3 1):=by kernel_rfl
theorem sa4:aW 32 [.d (aK 4 (bO 4))]=some (bJ 4 1):=by kernel_rfl
theorem sa5:aW 32 [.d (aK 5 (bO 5))]=some (bJ 5 1):=by kernel_rfl
theorem sa6:aW 32 [.d (aK 6 (bO 6))]=some (bJ 6 1):=by kernel_rfl
theorem sr3:aW 32 [.d (aK 3 (cU 3))]=some (bJ (rR 3).1 (rR 3).2):=by kernel_rfl
theorem sr4:aW 32 [.d (aK 4 (cU 4))]=some (bJ (rR 4).1 (rR 4).2):=by kernel_rfl
theorem sr5:aW 32 [.d (aK 5 (cU 5))]=some (bJ (rR 5).1 (rR 5).2):=by kernel_rfl
noncomputable def lD(n m:Int):Int×Int:=if (rR n).1*1<m*(rR n).2 then (m,1) else rR n
theorem WW:aW 37 [.d (aK 3 (cU 3)),.d (aK 1 (bO 1))]=some (aK (3+1) (eO 3 1)):=by kernel_rfl
theorem WX:aW 32 [.d (aK (3+1) (eO 3 1))]=some (bJ (lD 3 1).1 (lD 3 1).2):=by kernel_rfl
theorem WY:aW 37 [.d (aK 3 (cU 3)),.d (aK 2 (bO 2))]=some (aK (3+2) (eO 3 2)):=by kernel_rfl
theorem W0:aW 32 [.d (aK (3+2) (eO 3 2))]=some (bJ (lD 3 2).1 (lD 3 2).2):=by kernel_rfl
theorem W2:aW 37 [.d (aK 3 (cU 3)),.d (aK 3 (bO 3))]=some (aK (3+3) (eO 3 3)):=by kernel_rfl
theorem W3:aW 32 [.d (aK (3+3) (eO 3 3))]=some (bJ (lD 3 3).1 (lD 3 3).2):=by kernel_rfl
theorem W4:aW 37 [.d (aK 4 (cU 4)),.d (aK 1 (bO 1))]=some (aK (4+1) (eO 4 1)):=by kernel_rfl
theorem W5:aW 32 [.d (aK (4+1) (eO 4 1))]=some (bJ (lD 4 1).1 (lD 4 1).2):=by kernel_rfl
theorem W6:aW 37 [.d (aK 4 (cU 4)),.d (aK 2 (bO 2))]=some (aK (4+2) (eO 4 2)):=by kernel_rfl
theorem W7:aW 32 [.d (aK (4+2) (eO 4 2))]=some (bJ (lD 4 2).1 (lD 4 2).2):=by kernel_rfl
theorem W8:aW 37 [.d (aK 4 (cU 4)),.d (aK 3 (bO 3))]=some (aK (4+3) (eO 4 3)):=by kernel_rfl
theorem W9:aW 32 [.d (aK (4+3) (eO 4 3))]=some (bJ (lD 4 3).1 (lD 4 3).2):=by kernel_rfl
theorem W_:aW 37 [.d (aK 5 (cU 5)),.d (aK 1 (bO 1))]=some (aK (5+1) (eO 5 1)):=by kernel_rfl
theorem Xa:aW 32 [.d (aK (5+1) (eO 5 1))]=some (bJ (lD 5 1).1 (lD 5 1).2):=by kernel_rfl
theorem Xb:aW 37 [.d (aK 5 (cU 5)),.d (aK 2 (bO 2))]=some (aK (5+2) (eO 5 2)):=by kernel_rfl
theorem Xc:aW 32 [.d (aK (5+2) (eO 5 2))]=some (bJ (lD 5 2).1 (lD 5 2).2):=by kernel_rfl
theorem Xd:aW 37 [.d (aK 5 (cU 5)),.d (aK 3 (bO 3))]=some (aK (5+3) (eO 5 3)):=by kernel_rfl
theorem Xe:aW 32 [.d (aK (5+3) (eO 5 3))]=some (bJ (lD 5 3).1 (lD 5 3).2):=by kernel_rfl
theorem s1:aW 32 [.d (aK 1 [])]=some (bJ 1 1):=by kernel_rfl
theorem s4:aW 32 [.d (aK 4 [])]=some (bJ 1 1):=by kernel_rfl
theorem s2:aW 32 [.d (aK 2 [(0,1)])]=some (bJ 2 1):=by kernel_rfl
def Xf(o:SO):Prop:=∃a b:Int,o=.lst [.int a,.int b]/\0<=a/\(b=0\/b=1)
theorem O7{k:Nat}{o:SO}{m:Int}(ho:Xf o)(hm:0<m)(hm2:m<1073741824):W (call aq T (k+1) true 51 [.l 0,.d (.int m)]) [o] λv s=>∃d o',v=.d d/\s=[o']/\(∃r:Int,d=.int r/\0<=r/\r<m)/\Xf o':=by
 obtain⟨a,b,rfl,ha,hb⟩:=ho;refine W.call zok rfl ?_;unfold Vy;rcases hb with rfl|rfl
 ·refine Y ?_;exact⟨_,_,rfl,rfl,⟨_,rfl,Ax _ (by lia),Ek _ hm⟩,⟨_,_,rfl,Ax _ (by decide),.inl rfl⟩⟩
 ·refine Y ?_;exact⟨_,_,rfl,rfl,⟨_,rfl,Ax _ (by lia),Ek _ hm⟩,⟨_,_,rfl,Int.ediv_nonneg ha (by lia),.inr rfl⟩⟩
theorem zm1{k:Nat}{n:Int}:W (call aq T (k+1) true 50 [.d (.int n)]) [] λv s=>∃i o,v=.l i/\s[i]?=some o/\Xf o:=by
 refine W.call zoc rfl ?_;unfold Vx;refine Y ?_;refine⟨0,_,rfl,rfl,⟨_,_,rfl,?_,?_⟩⟩
 ·split<;>lia
 ·have:∀c:Bool,(if c=true then (1:Int) else 0)=0\/(if c=true then (1:Int) else 0)=1:=by intro c;cases c<;>simp
  exact this _
theorem zln{k:Nat}{ns:List Int}:W (call aq T (k+1) true 49 [.d (.fl (ns.map D.int)),.d (.int 0)]) [] λv _=>∃n,v=.d (.int n):=by
 refine W.call znY rfl ?_;unfold Vw;cases ns with
 |nil=>
  refine Y ?_;exact⟨_,rfl⟩
 |cons n r=>
  refine Y ?_;refine WS.ite (λ_=>?_) (λ_=>?_)
  ·refine Y ?_;refine mO (znR (i:=0) (x:=.int n) rfl) ?_;refine Y ?_;exact⟨_,rfl⟩
  ·refine Y ?_;exact⟨_,rfl⟩
theorem zoq{n:Int}(h:3<=n/\n<=8):W (call aq T 59 true 55 [.d (.int n)]) [] λv s=>v=.d (.bl true):=by
 have:n=3\/n=4\/n=5\/n=6\/n=7\/n=8:=by lia
 rcases this with rfl|rfl|rfl|rfl|rfl|rfl
 ·exact cZ rr3
 ·exact cZ rr4
 ·exact cZ rr5
 ·exact cZ rr6
 ·exact cZ rr7
 ·exact cZ rr8
theorem znU{n:Int}(h:3<=n/\n<=8):W (call aq T 59 true 53 [.d (.int n)]) [] λv s=>v=.d (aK n (cU n)):=by
 have:n=3\/n=4\/n=5\/n=6\/n=7\/n=8:=by lia
 rcases this with rfl|rfl|rfl|rfl|rfl|rfl
 ·exact cZ Uz
 ·exact cZ rd4
 ·exact cZ rd5
 ·exact cZ rd6
 ·exact cZ rd7
 ·exact cZ rd8
theorem zoI{n:Int}(h:3<=n/\n<=7):W (call aq T 59 true 56 [.d (aK n (cU n))]) [] λv s=>v=.d (.bl true):=by
 have:n=3\/n=4\/n=5\/n=6\/n=7:=by lia
 rcases this with rfl|rfl|rfl|rfl|rfl
 ·exact cZ tr3
 ·exact cZ tr4
 ·exact cZ tr5
 ·exact cZ tr6
 ·exact cZ tr7
theorem znX{m:Int}(h:1<=m/\m<=6):W (call aq T 59 true 54 [.d (.int m)]) [] λv s=>v=.d (aK m (bO m)):=by
 have:m=1\/m=2\/m=3\/m=4\/m=5\/m=6:=by lia
 rcases this with rfl|rfl|rfl|rfl|rfl|rfl
 ·exact cZ ta1
 ·exact cZ ta2
 ·exact cZ ta3
 ·exact cZ ta4
 ·exact cZ ta5
 ·exact cZ ta6
theorem Xg{m:Int}(h:1<=m/\m<=6):W (call aq T 59 true 32 [.d (aK m (bO m))]) [] λv s=>v=.d (.tup [.int m,.int 1]):=by
 have:m=1\/m=2\/m=3\/m=4\/m=5\/m=6:=by lia
 rcases this with rfl|rfl|rfl|rfl|rfl|rfl
 ·exact cZ sa1
 ·exact cZ sa2
 ·exact cZ sa3
 ·exact cZ sa4
 ·exact cZ sa5
 ·exact cZ sa6
theorem zoe{n:Int}(h:3<=n/\n<=5):W (call aq T 59 true 32 [.d (aK n (cU n))]) [] λv s=>v=.d (.tup [.int (rR n).1,.int (rR n).2]):=by
 have:n=3\/n=4\/n=5:=by lia
 rcases this with rfl|rfl|rfl
 ·exact cZ sr3
 ·exact cZ sr4
 ·exact cZ sr5
theorem zn5{n m:Int}(h:3<=n/\n<=5)(k:1<=m/\m<=3):W (call aq T 59 true 37 [.d (aK n (cU n)),.d (aK m (bO m))]) [] λv s=>v=.d (aK (n+m) (eO n m)):=by
 have a:n=3\/n=4\/n=5:=by lia
 have b:m=1\/m=2\/m=3:=by lia
 rcases a with rfl|rfl|rfl
 ·rcases b with rfl|rfl|rfl
  ·exact cZ WW
  ·exact cZ WY
  ·exact cZ W2
 ·rcases b with rfl|rfl|rfl
  ·exact cZ W4
  ·exact cZ W6
  ·exact cZ W8
 ·rcases b with rfl|rfl|rfl
  ·exact cZ W_
  ·exact cZ Xb
  ·exact cZ Xd
theorem zom{n m:Int}(h:3<=n/\n<=5)(k:1<=m/\m<=3):W (call aq T 59 true 32 [.d (aK (n+m) (eO n m))]) [] λv s=>v=.d (.tup [.int (lD n m).1,.int (lD n m).2]):=by
 have a:n=3\/n=4\/n=5:=by lia
 have b:m=1\/m=2\/m=3:=by lia
 rcases a with rfl|rfl|rfl
 ·rcases b with rfl|rfl|rfl
  ·exact cZ WX
  ·exact cZ W0
  ·exact cZ W3
 ·rcases b with rfl|rfl|rfl
  ·exact cZ W5
  ·exact cZ W7
  ·exact cZ W9
 ·rcases b with rfl|rfl|rfl
  ·exact cZ Xa
  ·exact cZ Xc
  ·exact cZ Xe
theorem znu{n m:Int}(h:3<=n/\n<=5)(k:1<=m/\m<=3):W (call aq T 59 true 52 [.d (.tup [.int (rR n).1,.int (rR n).2]),.d (.tup [.int m,.int 1])]) [] λv s=>v=.d (.bl (decide ((rR n).1*1<m*(rR n).2))):=by
 have a:n=3\/n=4\/n=5:=by lia
 have b:m=1\/m=2\/m=3:=by lia
 rcases a with rfl|rfl|rfl<;>rcases b with rfl|rfl|rfl<;>exact cZ (by kernel_rfl)
theorem vM(ns:List Int)(hn:ns.length<=63):∃s',call aq T 60 true 57 [.d (.fl (ns.map D.int))] []=some (.ok (.d (.bl true)),s'):=by
 suffices h:W (call aq T 60 true 57 [.d (.fl (ns.map D.int))]) [] λv _=>v=.d (.bl true) by
  obtain⟨v,s',e,rfl⟩:=h;exact⟨s',e⟩
 have hs:(1000:Nat)<=sizeLine:=by decide
 refine W.call (k:=59) zod rfl ?_;unfold Vz;refine Y ?_;refine W.c0 (cZ s1) ?_;refine Y ?_;refine W.c0 (cZ s4) ?_;refine Y ?_;refine W.c0 (cZ s2) ?_;refine Y ?_;refine vC rfl ((zln (k:=58)).imp λv _=>?_);rintro⟨n0,rfl⟩;refine⟨_,rfl,?_⟩;refine Y ?_;refine Uh (zkY ?_) ?_
 ·have:=ziU (ns:=ns) (lo:=some 1) (hi:=some 4);show 1+_<=_
  lia
 refine Y ?_;refine NZ (λ_ J s=>∃(a b c d e f g:Option Xv),J=[some (.d (.fl (ns.map D.int))),a,b,c,d,e,f,g]) ⟨_,_,_,_,_,_,_,rfl⟩ (λi x J s hx DX=>?_) (λJ s DX=>?_)
 ·obtain⟨m,rfl⟩ : ∃m,x=.int m:=by
   rcases nJ.mp (gU hx) with z|z
   ·rcases iY.mp z with rfl|z
    ·exact⟨_,rfl⟩
    ·cases z
   ·exact zj9 z
  obtain⟨a,b,c,d,e,f,g,rfl⟩:=DX;refine Y ?_;refine Kan rfl ((zm1 (k:=58)).imp λv s1=>?_);rintro⟨j,o,rfl,hj,hp⟩;refine⟨j,o,rfl,hj,?_⟩;refine Y ?_;refine tZ rfl ((O7 (k:=58) hp (m:=6) (by lia) (by lia)).imp λv s1=>?_);rintro⟨_,o1,rfl,rfl,⟨r1,rfl,YK,YL⟩,hp⟩;refine⟨_,_,rfl,rfl,?_⟩;refine Y ?_;refine tZ rfl ((O7 (k:=58) hp (m:=5) (by lia) (by lia)).imp λv s1=>?_);rintro⟨_,o2,rfl,rfl,⟨r2,rfl,h20,h21⟩,hp⟩;refine⟨_,_,rfl,rfl,?_⟩;refine Y ?_;have O8:3<=3+r1/\3+r1<=8:=by lia
  have Xh:1<=2+r2/\2+r2<=6:=by lia
  generalize 3+r1=n1 at O8 ⊢;generalize 2+r2=n2 at Xh ⊢;refine W.c0 (zoq O8) ?_;refine Y ?_;refine W.c0 (znX Xh) ?_;refine Y ?_;refine W.c0 (Xg Xh) ?_;refine Y ?_;refine WS.Gh (by simp) ?_;refine Y ?_;refine W.imp (P:=λx s1=>x=.d (.bl false)/\s1=s++[o2]) ?_ λx s1 hx=>?_
  ·refine W.ite (λc=>?_) (λc=>?_)
   ·have c:=jU c;refine Y ?_;refine W.c0 (znU O8) ?_;refine Y ?_;refine W.c0 (zoI ⟨O8.1,by lia⟩) ?_;refine Y ?_;exact⟨rfl,rfl⟩
   ·refine Y ?_;exact⟨rfl,rfl⟩
  obtain⟨rfl,rfl⟩:=hx;refine Y ?_;refine tZ rfl ((O7 (k:=58) hp (m:=3) (by lia) (by lia)).imp λv s1=>?_);rintro⟨_,o3,rfl,rfl,⟨r3,rfl,h30,h31⟩,hp⟩;refine⟨_,_,rfl,rfl,?_⟩;refine Y ?_;have Ak:3<=3+r3/\3+r3<=5:=by lia
  generalize 3+r3=n3 at Ak ⊢;refine W.c0 (znU (by lia)) ?_;refine Y ?_;refine tZ rfl ((O7 (k:=58) hp (m:=3) (by lia) (by lia)).imp λv s1=>?_);rintro⟨_,o4,rfl,rfl,⟨r4,rfl,h40,h41⟩,hp⟩;refine⟨_,_,rfl,rfl,?_⟩;refine Y ?_;have Gu:1<=1+r4/\1+r4<=3:=by lia
  generalize 1+r4=n4 at Gu ⊢;refine W.c0 (znX (by lia)) ?_;refine Y ?_;refine W.c0 (zoe Ak) ?_;refine Y ?_;refine W.c0 (Xg (by lia)) ?_;refine Y ?_;refine W.c0 (zoe Ak) ?_;refine Y ?_;refine W.c0 (Xg (by lia)) ?_;refine Y ?_;refine W.c0 (znu Ak Gu) ?_;by_cases c:(rR n3).1*1<n4*(rR n3).2
  ·have hl:lD n3 n4=(n4,1):=if_pos c;rw[mR c];refine Y ?_;refine W.c0 (zn5 Ak Gu) ?_;refine Y ?_;refine W.c0 (zom Ak Gu) ?_;rw[hl];refine Y ?_;refine WS.Gh (by simp) ?_;refine Y ?_;exact⟨_,rfl,_,_,_,_,_,_,_,rfl⟩
  ·have hl:lD n3 n4=rR n3:=if_neg c;rw[tM c];refine Y ?_;refine W.c0 (zn5 Ak Gu) ?_;refine Y ?_;refine W.c0 (zom Ak Gu) ?_;rw[hl];refine Y ?_;refine WS.Gh (by simp) ?_;refine Y ?_;exact⟨_,rfl,_,_,_,_,_,_,_,rfl⟩
 ·obtain⟨a,b,c,d,e,f,g,rfl⟩:=DX;exact Y trivial
end eZ
open PySem PySem.W PyProof.Rows
set_option maxRecDepth 100000 in
set_option maxHeartbeats 0 in
theorem PySem.Challenge.cw_ringhues_k21_whole_rounds_and_all_tied_holds : PySem.Challenge.rw_ringhues_k21_whole_rounds_and_all_tied.Holds := by
 refine PySem.W.holds_law eZ.ws λsaid=>?_;refine holds_open (q:=eZ.qv) (loose:=eZ.loose) (Xt:=λs=>xlAt eZ.qv [] s&&recOk [] s) (XP:=XL eZ.qv []) (Yf:=(Mi.jk eZ.fs eZ.ms eZ.xs eZ.lk eZ.bd).obs) (Ya:=(Mi.jk eZ.fs eZ.ms eZ.xs eZ.lk eZ.bd).val) (YP:=(Mi.jk eZ.fs eZ.ms eZ.xs eZ.lk eZ.bd).says) (N:=20000) eZ.left (Mi.jk eZ.fs eZ.ms eZ.xs eZ.lk eZ.bd).of (Mi.jk eZ.fs eZ.ms eZ.xs eZ.lk eZ.bd).keeps (λs e=>xl_of s (Bool.and_eq_true_iff.mp e).1) XL.keeps (by rfl) (by rfl) (by rfl) (λs e=>recFacts_of (Bool.and_eq_true_iff.mp e).2) (by rfl) (by first|assumption|decide +kernel) (by decide +kernel) ⟨rfl,rfl,rfl,rfl,rfl,by decide +kernel⟩ ?hw ?hc
 case hw=>w_witness2
 case hc=>exact Mi.DQ (l:=PySem.Challenge.rw_ringhues_k21_whole_rounds_and_all_tied) (x:="_law_script") (k:=60) rfl rfl ⟨by decide,by decide,rfl⟩ (λw K mg fa h S LH X G DK=>eZ.all_mk eZ.vM S LH X G DK)
